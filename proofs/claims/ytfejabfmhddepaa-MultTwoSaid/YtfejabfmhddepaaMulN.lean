/- So many times a point, by plain numbers and bytes. No program is named here. -/
import Derived.Test.YtfejabfmhddepaaPtD
import Derived.Test.YtfejabfmhddepaaGpw
namespace Go.Proofs.Ytfejabfmhddepaa
set_option linter.unusedVariables false
set_option maxRecDepth 100000
open Pm Fl

/-- n times p -/
def pmul (n : Nat) (p : PtD) : PtD := Ed.Pt.mul F25519.full n p
theorem pmul_zero (p : PtD) : pmul 0 p = pzero := Ed.Pt.mul_zero (hf := F25519.full) p
theorem pmul_succ (n : Nat) (p : PtD) : pmul (n + 1) p = padd (pmul n p) p := Ed.Pt.mul_succ (hf := F25519.full) n p
theorem pmul_one (p : PtD) : pmul 1 p = p := Ed.Pt.mul_one (hf := F25519.full) p
theorem pmul_add (m n : Nat) (p : PtD) : padd (pmul m p) (pmul n p) = pmul (m + n) p := (Ed.Pt.mul_add (hf := F25519.full) m n p).symm
theorem pmul_two (p : PtD) : pmul 2 p = padd p p := by rw [pmul_succ, pmul_one]
theorem pmul_dbl (n : Nat) (p : PtD) : padd (pmul n p) (pmul n p) = pmul (2 * n) p := (Ed.Pt.mul_double (hf := F25519.full) n p).symm
theorem pmul_mul (m n : Nat) (p : PtD) : pmul n (pmul m p) = pmul (m * n) p := (Ed.Pt.mul_mul (hf := F25519.full) m n p).symm
theorem pmul_padd (n : Nat) (p q : PtD) : pmul n (padd p q) = padd (pmul n p) (pmul n q) := Ed.Pt.mul_of_add (hf := F25519.full) n p q
theorem pmul_neg (n : Nat) (p : PtD) : pmul n (Ed.Pt.neg p) = Ed.Pt.neg (pmul n p) := Ed.Pt.mul_neg (hf := F25519.full) n p
theorem pmul_step (p : PtD) (E k : Nat) (hk : k < 256) :
    (if E / 2 ^ (255 - k) % 2 = 1 then padd (padd (pmul (E / 2 ^ (256 - k)) p) (pmul (E / 2 ^ (256 - k)) p)) p else padd (pmul (E / 2 ^ (256 - k)) p) (pmul (E / 2 ^ (256 - k)) p)) = pmul (E / 2 ^ (256 - (k + 1))) p := by
  rw [pmul_dbl]
  have e : E / 2 ^ (256 - k) = E / 2 ^ (255 - k) / 2 := by
    rw [Nat.div_div_eq_div_mul, ← Nat.pow_succ, show (255 - k).succ = 256 - k by omega]
  rw [e, show 256 - (k + 1) = 255 - k by omega]
  generalize E / 2 ^ (255 - k) = y
  split
  · rename_i h
    rw [← pmul_succ]
    congr 1
    omega
  · rename_i h
    congr 1
    omega
/-- the order -/
theorem base_mod (n : Nat) : pmul (n % F25519.L) F25519.base = pmul n F25519.base := Ed.Pt.mul_mod (hf := F25519.full) F25519.base_order n
theorem base_L : pmul F25519.L F25519.base = pzero := F25519.base_order

/-! Bytes of two numbers, added one by one. -/
/-- the lowest k bytes -/
def lowN (l : List UInt8) (k : Nat) : Nat := leN (l.take k)
/-- what is carried behind k bytes -/
def carN (l m : List UInt8) (k : Nat) : Nat := (lowN l k + lowN m k) / 256 ^ k
/-- k bytes done -/
def sumB (l m : List UInt8) (k : Nat) : List UInt8 := leB k (lowN l k + lowN m k) ++ l.drop k
theorem lowN_zero (l : List UInt8) : lowN l 0 = 0 := rfl
theorem leN_leBm : ∀ n x, leN (leB n x) = x % 256 ^ n
  | 0, x => by simp [leB, leN, Nat.mod_one]
  | n + 1, x => by
    have ih := leN_leBm n (x / 256)
    have e : (UInt8.ofNat x).toNat = x % 256 := by simp
    rw [leB, leN, ih, e, Nat.pow_succ, Nat.mul_comm (256 ^ n) 256, Nat.mod_mul]
theorem lowN_succ (l : List UInt8) {k : Nat} (h : k < l.length) : lowN l (k + 1) = lowN l k + 256 ^ k * (l.getD k 0).toNat := by
  unfold lowN
  rw [List.take_succ_eq_append_getElem h, leN_snoc, List.length_take, Nat.min_eq_left (by omega), Nat.mul_comm (256 ^ k)]
  simp [List.getD, h]
theorem lowN_lt (l : List UInt8) {k : Nat} (h : k ≤ l.length) : lowN l k < 256 ^ k := by
  have := leN_lt (l.take k)
  rwa [List.length_take, Nat.min_eq_left h] at this
theorem carN_le (l m : List UInt8) {k : Nat} (hl : k ≤ l.length) (hm : k ≤ m.length) : carN l m k ≤ 1 := by
  have a := lowN_lt l hl
  have b := lowN_lt m hm
  unfold carN
  have hp : 0 < 256 ^ k := Nat.pow_pos (by omega)
  have : (lowN l k + lowN m k) / 256 ^ k < 2 := (Nat.div_lt_iff_lt_mul hp).2 (by omega)
  omega
theorem carN_succ (l m : List UInt8) {k : Nat} (hl : k < l.length) (hm : k < m.length) : carN l m (k + 1) = (carN l m k + (l.getD k 0).toNat + (m.getD k 0).toNat) / 256 := by
  unfold carN
  rw [lowN_succ l hl, lowN_succ m hm, Nat.pow_succ, ← Nat.div_div_eq_div_mul]
  congr 1
  have hp : 0 < 256 ^ k := Nat.pow_pos (by omega)
  rw [show lowN l k + 256 ^ k * (l.getD k 0).toNat + (lowN m k + 256 ^ k * (m.getD k 0).toNat) = lowN l k + lowN m k + 256 ^ k * ((l.getD k 0).toNat + (m.getD k 0).toNat) by rw [Nat.mul_add]; omega, Nat.add_mul_div_left _ _ hp]
  omega
theorem sumB_zero (l m : List UInt8) : sumB l m 0 = l := rfl
theorem sumB_len {l m : List UInt8} (hl : l.length = 32) {k : Nat} (h : k ≤ 32) : (sumB l m k).length = 32 := by
  unfold sumB
  rw [List.length_append, leB_len, List.length_drop, hl]; omega
theorem sumB_get {l m : List UInt8} (hl : l.length = 32) {k : Nat} (h : k < 32) : (sumB l m k).getD k 0 = l.getD k 0 := by
  unfold sumB
  simp only [List.getD]
  rw [List.getElem?_append_right (by rw [leB_len]; omega), leB_len, List.getElem?_drop, Nat.sub_self, Nat.add_zero]
theorem leB_succ' (k x y : Nat) (h : x % 256 ^ k = y % 256 ^ k) : leB (k + 1) y = leB k x ++ [UInt8.ofNat (y / 256 ^ k)] := by
  apply leN_inj (by simp [leB_len])
  rw [leN_snoc, leB_len]
  have e1 := leN_leBm (k + 1) y
  have e2 := leN_leBm k x
  rw [e1, e2, h, Nat.pow_succ]
  have e3 : (UInt8.ofNat (y / 256 ^ k)).toNat = y / 256 ^ k % 256 := by simp
  rw [e3, Nat.mul_comm (y / 256 ^ k % 256)]
  exact Nat.mod_mul
theorem sumB_set {l m : List UInt8} (hl : l.length = 32) (hm : m.length = 32) {k : Nat} (h : k < 32) (x : UInt8) (hx : x.toNat = (carN l m k + (l.getD k 0).toNat + (m.getD k 0).toNat) % 256) : (sumB l m k).set k x = sumB l m (k + 1) := by
  have hp : 0 < 256 ^ k := Nat.pow_pos (by omega)
  have hS : lowN l (k + 1) + lowN m (k + 1) = lowN l k + lowN m k + 256 ^ k * ((l.getD k 0).toNat + (m.getD k 0).toNat) := by
    rw [lowN_succ l (by omega), lowN_succ m (by omega), Nat.mul_add]; omega
  have e := leB_succ' k (lowN l k + lowN m k) (lowN l (k + 1) + lowN m (k + 1)) (by rw [hS, Nat.add_mul_mod_self_left])
  unfold sumB
  rw [e, List.set_append, if_neg (by rw [leB_len]; omega), leB_len, Nat.sub_self, List.drop_eq_getElem_cons (by omega), List.set_cons_zero, List.append_assoc, List.singleton_append]
  congr 2
  apply UInt8.toNat_inj.1
  rw [hx, hS, Nat.add_mul_div_left _ _ hp]
  unfold carN
  simp
  omega
theorem sumB_end {l m : List UInt8} (hl : l.length = 32) (hm : m.length = 32) : sumB l m 32 = leB 32 (leN l + leN m) := by
  unfold sumB lowN
  rw [List.take_of_length_le (by omega), List.take_of_length_le (by omega), List.drop_eq_nil_of_le (by omega), List.append_nil]
end Go.Proofs.Ytfejabfmhddepaa

