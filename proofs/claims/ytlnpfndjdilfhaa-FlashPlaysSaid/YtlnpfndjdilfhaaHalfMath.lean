/- Plain facts on halfB, tornB, canB. -/
import Derived.Test.YtlnpfndjdilfhaaBs
namespace Go.Proofs.Ytlnpfndjdilfhaa
open Go.RowKit
set_option linter.unusedVariables false

theorem halfB_len (l p : List UInt8) : (halfB l p).length = l.length := by simp [halfB]
theorem halfB_at {l p : List UInt8} {i : Nat} (h : i < l.length) : (halfB l p).getD i 0 = l.getD i 0 ||| p.getD i 0 := by
  simp only [halfB]
  exact getD_map_range _ _ _ h
theorem u8_or_or (x y : UInt8) : x ||| (x ||| y) = x ||| y := by rw [← UInt8.or_assoc, UInt8.or_self]
theorem u8_and_not_or (x y : UInt8) : x &&& ~~~(x ||| y) = 0 := by
  rw [tz_and]; exact u8_or_or x y
theorem canB_half (l p : List UInt8) : canB (halfB l p) l = true := by
  refine canB_true (halfB_len l p) fun i hi => ?_
  rw [halfB_len] at hi
  rw [halfB_at hi]
  exact u8_and_not_or _ _
theorem halfB_half (l p : List UInt8) : halfB l (halfB l p) = halfB l p := by
  apply list_ext_getD (by simp [halfB])
  intro i hi
  rw [halfB_len] at hi
  rw [halfB_at hi, halfB_at hi, u8_or_or]
theorem blank_at {n i : Nat} (h : i < n) : (List.replicate n (255 : UInt8)).getD i 0 = 255 := by simp [List.getD, h]
theorem u8_or_255 (x : UInt8) : 255 ||| x = 255 := by
  apply u8_ext
  intro i hi
  have : ∀ i, i < 8 → (255 : UInt8).toBitVec.getLsbD i = true := by decide
  simp only [UInt8.toBitVec_or, BitVec.getLsbD_or, this i hi, Bool.true_or]
theorem halfB_blank (n : Nat) (p : List UInt8) : halfB (List.replicate n 255) p = List.replicate n 255 := by
  apply list_ext_getD (by simp [halfB])
  intro i hi
  rw [halfB_len] at hi
  rw [halfB_at hi]
  simp only [List.length_replicate] at hi
  rw [blank_at hi, u8_or_255]
theorem blank_all (n : Nat) : (List.replicate n (255 : UInt8)).all (· == 255) = true := by simp
theorem canB_blank (l : List UInt8) : canB (List.replicate l.length 255) l = true := by
  refine canB_true (by simp) fun i hi => ?_
  rw [List.length_replicate] at hi
  rw [blank_at hi, tz_and, UInt8.or_comm]
  exact u8_or_255 _
end Go.Proofs.Ytlnpfndjdilfhaa
