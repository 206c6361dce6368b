/- Chances: held to their bounds, adapted to a bit; trees of them. No program is named here. -/
import Derived.Test.YtlbkpmcccipfhaaGbase
namespace Go.Proofs.Ytlbkpmcccipfhaa
open Go.RowKit
set_option linter.unusedVariables false
set_option maxRecDepth 100000

/-- a chance held to its bounds -/
def holdI (p : Int) : Nat := if p < 31 then 31 else if 2017 < p then 2017 else p.toNat
theorem holdI_lo (p : Int) : 31 ≤ holdI p := by unfold holdI; split <;> (try split) <;> omega
theorem holdI_hi (p : Int) : holdI p ≤ 2017 := by unfold holdI; split <;> (try split) <;> omega
theorem holdI_id {q : Nat} (h1 : 31 ≤ q) (h2 : q ≤ 2017) : holdI (q : Int) = q := by
  unfold holdI; rw [if_neg (by omega), if_neg (by omega)]; omega
/-- a chance behind a bit: z: was it a 0? -/
def adN (q : Nat) (z : Bool) : Nat := if z then q + (2048 - q) / 32 else q - q / 32
theorem adN_lo {q : Nat} (z : Bool) (h1 : 31 ≤ q) (h2 : q ≤ 2017) : 31 ≤ adN q z := by unfold adN; split <;> omega
theorem adN_hi {q : Nat} (z : Bool) (h1 : 31 ≤ q) (h2 : q ≤ 2017) : adN q z ≤ 2017 := by unfold adN; split <;> omega
theorem adN_up {q : Nat} : q ≤ adN q true := by unfold adN; rw [if_pos rfl]; omega
theorem adN_down {q : Nat} : adN q false ≤ q := by unfold adN; rw [if_neg (by decide)]; omega
theorem adN_mono {q r : Nat} (z : Bool) (h : q ≤ r) (hr : r ≤ 2048) : adN q z ≤ adN r z := by unfold adN; split <;> omega
def adI (p bit : Int) : Nat := adN (holdI p) (decide (bit = 0))
theorem adI_lo (p bit : Int) : 31 ≤ adI p bit := adN_lo _ (holdI_lo p) (holdI_hi p)
theorem adI_hi (p bit : Int) : adI p bit ≤ 2017 := adN_hi _ (holdI_lo p) (holdI_hi p)
/-- n bits that are alike -/
def adK (z : Bool) : Nat → Nat → Nat
  | 0, q => q
  | n + 1, q => adN (adK z n q) z
theorem adK_lo (z : Bool) {q : Nat} (h1 : 31 ≤ q) (h2 : q ≤ 2017) : ∀ n, 31 ≤ adK z n q ∧ adK z n q ≤ 2017
  | 0 => ⟨h1, h2⟩
  | n + 1 => ⟨adN_lo z (adK_lo z h1 h2 n).1 (adK_lo z h1 h2 n).2, adN_hi z (adK_lo z h1 h2 n).1 (adK_lo z h1 h2 n).2⟩
theorem adK_mono (z : Bool) {q r : Nat} (h1 : 31 ≤ r) (h2 : r ≤ 2017) (h : q ≤ r) : ∀ n, adK z n q ≤ adK z n r
  | 0 => h
  | n + 1 => adN_mono z (adK_mono z h1 h2 h n) (by have := (adK_lo z h1 h2 n).2; omega)
theorem adK_learn {q : Nat} (h1 : 31 ≤ q) (h2 : q ≤ 2017) : adK true 300 q = 2017 ∧ adK false 300 q = 31 := by
  have a := adK_mono true h1 h2 h1 300
  have b := (adK_lo true h1 h2 300).2
  have c := adK_mono false (q := q) (r := 2017) (by omega) (by omega) h2 300
  have d := (adK_lo false h1 h2 300).1
  have e : adK true 300 31 = 2017 := by decide +kernel
  have f : adK false 300 2017 = 31 := by decide +kernel
  omega
/-! Trees. -/
/-- a tree: how many bits, and the nodes' chances -/
structure Tm where
  bits : Nat
  p : Nat → Nat
def capT (b : Int) : Nat := if b < 1 then 1 else if 8 < b then 8 else b.toNat
structure Tm.ok (t : Tm) : Prop where
  b1 : 1 ≤ t.bits
  b2 : t.bits ≤ 8
  lo : ∀ n, 31 ≤ t.p n
  hi : ∀ n, t.p n ≤ 2017
def Tm.new (b : Int) : Tm := ⟨capT b, fun _ => 1024⟩
def Tm.is (t : Tm) (n : Int) : Prop := 1 ≤ n ∧ n < ((2 ^ t.bits : Nat) : Int)
instance (t : Tm) (n : Int) : Decidable (t.is n) := inferInstanceAs (Decidable (_ ∧ _))
def Tm.at_ (t : Tm) (n : Int) : Nat := if t.is n then t.p n.toNat else 0
def Tm.turn (t : Tm) (n bit : Int) : Tm := if t.is n then ⟨t.bits, fun k => if k = n.toNat then adN (t.p k) (decide (bit = 0)) else t.p k⟩ else t
theorem capT_lo (b : Int) : 1 ≤ capT b := by unfold capT; split <;> (try split) <;> omega
theorem capT_hi (b : Int) : capT b ≤ 8 := by unfold capT; split <;> (try split) <;> omega
theorem Tm.new_ok (b : Int) : (Tm.new b).ok := ⟨capT_lo b, capT_hi b, fun _ => by show 31 ≤ 1024; omega, fun _ => by show 1024 ≤ 2017; omega⟩
theorem Tm.turn_bits (t : Tm) (n bit : Int) : (t.turn n bit).bits = t.bits := by unfold Tm.turn; split <;> rfl
theorem Tm.turn_ok {t : Tm} (h : t.ok) (n bit : Int) : (t.turn n bit).ok := by
  unfold Tm.turn
  split
  · refine ⟨h.b1, h.b2, fun k => ?_, fun k => ?_⟩
    · show 31 ≤ if k = n.toNat then adN (t.p k) _ else t.p k
      split
      · exact adN_lo _ (h.lo k) (h.hi k)
      · exact h.lo k
    · show (if k = n.toNat then adN (t.p k) _ else t.p k) ≤ 2017
      split
      · exact adN_hi _ (h.lo k) (h.hi k)
      · exact h.hi k
  · exact h
theorem Tm.pow_lo {t : Tm} (h : t.ok) : 2 ≤ 2 ^ t.bits := Nat.pow_le_pow_right (n := 2) (by decide) h.b1
theorem Tm.pow_hi {t : Tm} (h : t.ok) : 2 ^ t.bits ≤ 256 := Nat.pow_le_pow_right (n := 2) (by decide) h.b2
theorem Tm.at_le {t : Tm} (h : t.ok) (n : Int) : t.at_ n ≤ 2017 := by
  unfold Tm.at_
  split
  · exact h.hi _
  · omega
theorem Tm.at_in {t : Tm} (h : t.ok) {n : Nat} (h1 : 1 ≤ n) (h2 : n < 2 ^ t.bits) : t.at_ (n : Int) = t.p n := by
  unfold Tm.at_
  have hi : t.is (n : Int) := ⟨by omega, by exact_mod_cast h2⟩
  rw [if_pos hi, Int.toNat_natCast]
/-- a tree's row: nobody at 0 -/
def Tm.row (t : Tm) : List Int := (List.range (2 ^ t.bits)).map fun i => if i = 0 then 0 else (t.p i : Int)
theorem Tm.row_len (t : Tm) : t.row.length = 2 ^ t.bits := by simp [Tm.row]
theorem Tm.row_get (t : Tm) (i : Nat) (h : i < 2 ^ t.bits) : t.row.getD i 0 = if i = 0 then 0 else (t.p i : Int) := by
  simp [Tm.row, List.getD, h]
theorem Tm.row_turn {t : Tm} (n bit : Int) (h : t.is n) : (t.turn n bit).row = t.row.set n.toNat (adN (t.p n.toNat) (decide (bit = 0)) : Int) := by
  have hb := t.turn_bits n bit
  apply List.ext_getElem (by rw [List.length_set, Tm.row_len, Tm.row_len, hb])
  intro i h1 h2
  rw [Tm.row_len, hb] at h1
  have e1 := (t.turn n bit).row_get i (by rw [hb]; exact h1)
  have e2 := t.row_get i h1
  rw [List.getD_eq_getElem?_getD, List.getElem?_eq_getElem (by rw [Tm.row_len, hb]; exact h1), Option.getD_some] at e1
  rw [List.getD_eq_getElem?_getD, List.getElem?_eq_getElem (by rw [Tm.row_len]; exact h1), Option.getD_some] at e2
  rw [e1, List.getElem_set]
  unfold Tm.turn
  rw [if_pos h]
  have hn := h.1
  by_cases e : n.toNat = i
  · subst e
    rw [if_pos rfl, if_neg (by omega)]
    simp
  · rw [if_neg e, e2]
    by_cases e0 : i = 0
    · rw [if_pos e0, if_pos e0]
    · rw [if_neg e0, if_neg e0]
      show ((if i = n.toNat then adN (t.p i) _ else t.p i : Nat) : Int) = _
      rw [if_neg (fun h => e h.symm)]
end Go.Proofs.Ytlbkpmcccipfhaa

