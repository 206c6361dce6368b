/- What the frame tells of an array of bytes that came in by value. -/
import Derived.Test.YtlhnjdnkjgnooaaArrB
import Derived.Test.YtlhnjdnkjgnooaaGbase
import Derived.OpenShut
namespace Go.Proofs.Ytlhnjdnkjgnooaa
open Go.RowKit Go.ChangeShapes Go.WideShapes
set_option linter.unusedVariables false
set_option maxRecDepth 100000

def byteOf : Value → UInt8
  | .int _ a => UInt8.ofNat a.toNat
  | _ => 0
theorem byteOf_int {a : Int} (h0 : 0 ≤ a) (h1 : a < 256) : bval (byteOf (.int .u8 a)) = .int .u8 a := by
  unfold byteOf bval
  congr 1
  simp
  omega

theorem bytes_of {H : Type} {enc : TypeId × Value → H} {P : Program} {W : World} {base : Nat} {spare : Nat → Bool} {held : Bool} {r : Reach} {b0 : Nat} {v : Value} {d : DataW H} {p : List MemPlace} {T e : TypeId} {n : Nat}
    (hT : P.underlying T = some (.array n e)) (hU : P.underlying e = some (.int .u8)) (hc : P.cellsOf e = 1) (hn : P.cellsOf T = n)
    (hv : Value.okWide P W r b0 T v) (h : DataW.Trod enc P W base spare held T v d p) : ∃ l : List UInt8, l.length = n ∧ v = .agg (arrB l) := by
  simp only [Value.okWide, hT] at hv
  obtain ⟨cs, rfl, hs, -⟩ := hv
  rw [hn] at hs
  obtain ⟨fuel, h⟩ := h
  obtain ⟨xs, m, -, -, -, hl, hel⟩ := DataW.trod_array hT h
  refine ⟨cs.toList.map byteOf, by simpa using hs, ?_⟩
  congr 1
  unfold arrB
  apply Array.ext
  · simp
  · intro i h1 h2
    have hi : i < n := by omega
    have hE := hel i hi
    rw [hc, Nat.mul_one, List.getElem?_eq_getElem (by omega)] at hE
    obtain ⟨z, e1, -, hw⟩ := DataW.trod_int hU hE
    have e2 : cs[i] = .int .u8 z := by
      have h0 : ((cs.toList.drop i).take 1)[0]? = some (.int .u8 z) := by simp only [Value.cells] at e1; rw [e1]; rfl
      have h3 : cs[i]? = some (.int .u8 z) := by simpa using h0
      rw [Array.getElem?_eq_getElem h1] at h3
      injection h3
    have hb : 0 ≤ z ∧ z < 256 := by
      simp [Lit.wf, IntKind.min, IntKind.max, IntKind.signed, IntKind.bits] at hw
      omega
    simp [e2, byteOf_int hb.1 hb.2]
end Go.Proofs.Ytlhnjdnkjgnooaa

