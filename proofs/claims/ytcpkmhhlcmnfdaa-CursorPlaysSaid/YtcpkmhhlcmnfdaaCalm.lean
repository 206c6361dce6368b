/- Programming with nothing armed, in plain states: what stands afterwards. -/
import Derived.Test.YtcpkmhhlcmnfdaaLaw2Alive
namespace Go.Proofs.Ytcpkmhhlcmnfdaa
open Go.RowKit
set_option linter.unusedVariables false
set_option maxRecDepth 100000

def calmed (d : Dl) (b : List UInt8) (k : Int) : Dl := ⟨b, d.worn, d.steps + k, d.off, d.armed, d.after, d.pick⟩
theorem calm_step (d : Dl) (h : d.armed = false) : dstepOf d = (none, calmed d d.b 1) := by
  unfold dstepOf
  rw [h]
  simp [calmed, h]
theorem calm_word (d : Dl) (h : d.armed = false) (a : Nat) (m : List UInt8) : dwordOf d a m = (0, calmed d (laid d.b a m) 1) := by
  unfold dwordOf
  rw [calm_step d h]
  rfl
theorem calm_to (d : Dl) (h : d.armed = false) (a : Nat) (m : List UInt8) (hfit : a + m.length ≤ d.b.length) : ∀ k, 8 * k ≤ m.length → dprogTo d a m k = (0, calmed d (laidTo d.b a m (8 * k)) k)
  | 0, _ => by rw [dprogTo, Nat.mul_zero, laidTo_zero]; simp [calmed]
  | k + 1, hk => by
    rw [dprogTo, calm_to d h a m hfit k (by omega), if_pos rfl]
    show dwordOf (calmed d _ _) _ _ = _
    rw [calm_word (calmed d (laidTo d.b a m (8 * k)) k) h]
    have e : laid (laidTo d.b a m (8 * k)) (a + 8 * k) (cut m (8 * k) 8) = laidTo d.b a m (8 * (k + 1)) := by
      refine list_ext_getD (by rw [laid_len, laidTo_len, laidTo_len]) fun i hi => ?_
      rw [laid_len, laidTo_len] at hi
      rw [laid_get (by rw [laidTo_len]; exact hi), laidTo_get hi, laidTo_get hi, cut_len (by omega)]
      by_cases h1 : a + 8 * k ≤ i ∧ i < a + 8 * k + 8
      · rw [if_pos h1, if_pos (by omega), cut_get (by omega)]
        congr 1
        omega
      · rw [if_neg h1]
        by_cases h2 : a ≤ i ∧ i < a + 8 * k
        · rw [if_pos h2, if_pos (by omega)]
        · rw [if_neg h2, if_neg (by omega)]
    show ((0 : Int), calmed (calmed d _ _) (laid (laidTo d.b a m (8 * k)) (a + 8 * k) (cut m (8 * k) 8)) 1) = _
    rw [e]
    simp only [calmed]
    congr 2
    omega
theorem calm_prog (d : Dl) (harm : d.armed = false) (hoff : d.off = false) (a : Nat) (m : List UInt8) (hfit : a + m.length ≤ d.b.length) (h8a : a % 8 = 0) (h8 : m.length % 8 = 0) (hc : canB (cut d.b a m.length) m = true) (s : Int) (hs : s = (a : Int)) :
    dprogOf d s m = (0, calmed d (laid d.b a m) ((m.length / 8 : Nat) : Int)) := by
  subst hs
  unfold dprogOf
  rw [if_neg (by rw [hoff]; simp), if_neg (by omega), if_neg (by rw [Int.toNat_natCast]; omega), Int.toNat_natCast, if_neg (by rw [hc]; simp), calm_to d harm a m hfit _ (by omega)]
  unfold laid
  rw [show 8 * (m.length / 8) = m.length by omega]
theorem calm_cut {l s : List UInt8} {a : Nat} (h : a + s.length ≤ l.length) : cut (laid l a s) a s.length = s := by
  refine list_ext_getD (by rw [cut_len (by rw [laid_len]; exact h)]) fun i hi => ?_
  rw [cut_len (by rw [laid_len]; exact h)] at hi
  rw [cut_get hi, laid_get (by omega), if_pos (by omega), Nat.add_sub_cancel_left]
/-- blank bytes can be programmed -/
theorem can_blank {l m : List UInt8} {a : Nat} (h : a + m.length ≤ l.length) (hb : ∀ i, i < l.length → l.getD i 0 = 255) : canB (cut l a m.length) m = true := by
  refine canB_true (cut_len h) fun i hi => ?_
  rw [cut_len h] at hi
  rw [cut_get hi, hb _ (by omega)]
  apply u8_ext
  intro j hj
  have : (255 : UInt8).toBitVec.getLsbD j = true := by
    have : j = 0 ∨ j = 1 ∨ j = 2 ∨ j = 3 ∨ j = 4 ∨ j = 5 ∨ j = 6 ∨ j = 7 := by omega
    rcases this with rfl | rfl | rfl | rfl | rfl | rfl | rfl | rfl <;> rfl
  simp [hj]

def freshD (b : List UInt8) (wn : List Int) : Dl := ⟨b, wn, 0, false, false, 0, []⟩
theorem fresh_ok (b : List UInt8) (wn : List Int) (hb : b.length = 1024 * wn.length) (hw : wn.length ≤ 65536) (hw0 : ∀ x ∈ wn, x = 0) : DlOk (freshD b wn) :=
  ⟨hb, hw, fun x hx => by have := hw0 x hx; omega, by simp [freshD], by simp [freshD], by simp [freshD], by simp [freshD], by simp [freshD]⟩
end Go.Proofs.Ytcpkmhhlcmnfdaa

