/- Which bytes are points, and what a point's bytes are, by plain numbers. No program is named here. -/
import Derived.Test.YtfejabfmhddepaaPtN
namespace Go.Proofs.Ytfejabfmhddepaa
set_option linter.unusedVariables false
set_option maxRecDepth 100000
open Pm Fl

/-- of a y: what is asked of its root, above and below -/
def upN (y : Nat) : Nat := ((y * y) % PP + (PP - 1)) % PP
def dnN (y : Nat) : Nat := ((edN * ((y * y) % PP)) % PP + 1) % PP
theorem upN_lt (y : Nat) : upN y < PP := by unfold upN; exact mod_lt_PP _
theorem dnN_lt (y : Nat) : dnN y < PP := by unfold dnN; exact mod_lt_PP _
theorem c_upN (y : Nat) : F25519.c (upN y) = F25519.c y * F25519.c y - 1 := by
  unfold upN
  rw [c_less (by decide), c_prod, c_one]
theorem c_dnN (y : Nat) : F25519.c (dnN y) = F25519.dV * (F25519.c y * F25519.c y) + 1 := by
  unfold dnN
  rw [c_plus, c_prod, c_prod, c_edN, c_one]
theorem dnN_ne (y : Nat) : dnN y ≠ 0 := fun h => by
  have e := c_dnN y
  rw [h, c_zero] at e
  exact Ed.den_ne F25519.full _ e.symm
theorem fine_is (y : Nat) : fineN (upN y) (dnN y) = isN ((upN y * invN (dnN y)) % PP) := by unfold fineN; rw [if_neg (dnN_ne y)]
theorem rat_is (y : Nat) : ratN (upN y) (dnN y) = rootN ((upN y * invN (dnN y)) % PP) := by unfold ratN; rw [if_neg (dnN_ne y)]
theorem c_quot (y : Nat) : F25519.c ((upN y * invN (dnN y)) % PP) = (F25519.c y * F25519.c y - 1) * inv (F25519.dV * (F25519.c y * F25519.c y) + 1) := by
  rw [c_prod, c_invN (dnN_lt y), c_upN, c_dnN]

/-- a y and a root of what is asked: a point; its x by its sign -/
theorem point_of {y : Nat} (hy : y < PP) (h : fineN (upN y) (dnN y) = true) (s : Bool) (hs : ratN (upN y) (dnN y) = 0 → s = false) :
    ∃ p : PtD, F25519.encN p = y + (if s then 1 else 0) * TT ∧ p.y.val = y ∧ p.x.val = (if s then (PP - ratN (upN y) (dnN y)) % PP else ratN (upN y) (dnN y)) := by
  have hl := ratN_lt (upN y) (dnN y)
  have he := ratN_even (upN y) (dnN y)
  have hq : F25519.c (ratN (upN y) (dnN y)) * F25519.c (ratN (upN y) (dnN y)) = (F25519.c y * F25519.c y - 1) * inv (F25519.dV * (F25519.c y * F25519.c y) + 1) := by
    rw [fine_is] at h
    rw [← c_quot, rat_is, ← c_prod, rootN_sq h]
  obtain ⟨r, hr⟩ : ∃ r, ratN (upN y) (dnN y) = r := ⟨_, rfl⟩
  rw [hr] at hl he hq hs ⊢
  have hv : (F25519.c r).val = r := by rw [F25519.c_val]; exact Nat.mod_eq_of_lt hl
  have hyv : (F25519.c y).val = y := by rw [F25519.c_val]; exact Nat.mod_eq_of_lt hy
  have ho := (Ed.x_of_y F25519.full).2 hq
  refine ⟨F25519.ptOf (F25519.c r) (F25519.c y) ho s, ?_, hyv, ?_⟩
  · have := F25519.enc_ptOf ho (by rw [hv]; exact he) s (fun g => hs ((c_eq_zeroP hl).1 g))
    rw [this, hyv]
  · cases s with
    | false => exact hv
    | true =>
      show (-F25519.c r).val = (PP - r) % PP
      have e : F25519.c ((PP - r) % PP) = -F25519.c r := c_negP hl
      rw [← e, F25519.c_val]
      exact Nat.mod_eq_of_lt (mod_lt_PP _)

/-- and nothing else is a point -/
theorem point_only {y : Nat} (hy : y < TT) (s : Bool) (p : PtD) (h : F25519.encN p = y + (if s then 1 else 0) * TT) :
    y < PP ∧ fineN (upN y) (dnN y) = true ∧ (ratN (upN y) (dnN y) = 0 → s = false) := by
  obtain ⟨hP, r, he, hr, hs⟩ := (F25519.enc_iff y s hy).1 ⟨p, h⟩
  have hq : (r.val * r.val) % PP = (upN y * invN (dnN y)) % PP := c_same (mod_lt_PP _) (mod_lt_PP _) (by rw [c_prod, F25519.c_of, c_quot]; exact hr)
  obtain ⟨e1, e2⟩ := root_is r.isLt he hq
  refine ⟨hP, by rw [fine_is]; exact e2, fun g => hs ?_⟩
  rw [rat_is, e1] at g
  exact Fin.ext g
end Go.Proofs.Ytfejabfmhddepaa

