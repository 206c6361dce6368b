/- The base point, and the points of order 1, 2 and 4, by plain numbers. No program is named here. -/
import Derived.Test.YtfejabfmhddepaaPtN3
namespace Go.Proofs.Ytfejabfmhddepaa
set_option linter.unusedVariables false
set_option maxRecDepth 100000
open Pm Fl

theorem alg_q {a b d : Fin F25519.P} (h : b * d = a) (hb : b ≠ 0) : a * inv b = d := by
  rw [← h, mul_comm_ b, mul_assoc_, mul_inv F25519.prP hb, mul_one_]
theorem n4_lt : 4 < PP := by decide
theorem n5_lt : 5 < PP := by decide
theorem c_n4 : F25519.c 4 = (4 : Fin F25519.P) := Fin.ext (by decide +kernel)
theorem c_n5 : F25519.c 5 = (5 : Fin F25519.P) := Fin.ext (by decide +kernel)
theorem n5_ne : (5 : Fin F25519.P) ≠ 0 := by
  intro h
  have := congrArg Fin.val h
  revert this
  decide +kernel
def byG (v : Nat) : Nat := (4 * v) % PP
theorem byG_is (v : Nat) : (4 * v) % PP = byG v := rfl
theorem c_byG (v : Nat) : F25519.c (byG v) = F25519.c 4 * F25519.c v := by unfold byG; rw [c_prod]
theorem byG_lt (v : Nat) : byG v < PP := by unfold byG; exact mod_lt_PP _
theorem bY_lt : F25519.bY < PP := by decide +kernel
theorem bX_lt : F25519.bX < PP := by decide +kernel
theorem base_yv : F25519.base.y.val = F25519.bY := by
  show (F25519.c F25519.bY).val = F25519.bY
  rw [F25519.c_val]; exact Nat.mod_eq_of_lt bY_lt
theorem base_xv : F25519.base.x.val = F25519.bX := by
  show (F25519.c F25519.bX).val = F25519.bX
  rw [F25519.c_val]; exact Nat.mod_eq_of_lt bX_lt
theorem base_y_is : byG (invN 5) = F25519.bY := by
  apply c_same (byG_lt _) bY_lt
  rw [c_byG, c_invN n5_lt, c_n4, c_n5]
  exact alg_q F25519.base_y n5_ne
/-- of a point with an even x: its x is the root that its y gives -/
theorem root_of (p : PtD) (he : p.x.val % 2 = 0) : fineN (upN p.y.val) (dnN p.y.val) = true ∧ ratN (upN p.y.val) (dnN p.y.val) = p.x.val := by
  have ho := (Ed.x_of_y F25519.full).1 p.on
  have hq : (p.x.val * p.x.val) % PP = (upN p.y.val * invN (dnN p.y.val)) % PP := c_same (mod_lt_PP _) (mod_lt_PP _) (by
    rw [c_prod, F25519.c_of, c_quot, F25519.c_of]; exact ho)
  obtain ⟨e1, e2⟩ := root_is p.x.isLt he hq
  rw [fine_is, rat_is]
  exact ⟨e2, e1⟩
theorem base_root : fineN (upN F25519.bY) (dnN F25519.bY) = true ∧ ratN (upN F25519.bY) (dnN F25519.bY) = F25519.bX := by
  have h := root_of F25519.base (by rw [base_xv, ← base_xv]; exact F25519.base_even)
  rwa [base_yv, base_xv] at h
theorem base_co : Co F25519.bX F25519.bY 1 ((F25519.bX * F25519.bY) % PP) F25519.base := co_of base_xv base_yv
/-- the example of the document -/
theorem base_enc : F25519.encN F25519.base = F25519.bY := by rw [enc_num, base_yv, base_xv, show F25519.bX % 2 = 0 by decide +kernel, Nat.zero_mul, Nat.add_zero]

/-! Points that are few doublings from nothing. -/
theorem g_two {N : Nat} [NeZero N] (d : Fin N) : (-1 : Fin N) * -1 - 0 * 0 = 1 + d * (0 * 0) * (-1 * -1) := by grind
theorem g_four {N : Nat} [NeZero N] {d i : Fin N} (h : i * i = -1) : (0 : Fin N) * 0 - i * i = 1 + d * (i * i) * (0 * 0) := by grind
theorem on_two : Ed.On F25519.dV 0 (-1) := g_two _
def ptTwo : PtD := ⟨0, -1, on_two⟩
theorem on_four : Ed.On F25519.dV F25519.iV 0 := g_four F25519.i_sq
def ptFour : PtD := ⟨F25519.iV, 0, on_four⟩
theorem two_ne_zero : ptTwo ≠ pzero := fun h => F25519.one_ne_neg (congrArg (fun p : PtD => p.y) h).symm
theorem four_ne_zero : ptFour ≠ pzero := fun h => (Ed.one_ne F25519.prP) (show (1 : Fin F25519.P) = 0 from (congrArg (fun p : PtD => p.y) h).symm)
theorem two_neg : ptTwo.neg = ptTwo := Ed.Pt.ext_ neg_zero_ rfl
theorem two_two : padd ptTwo ptTwo = pzero := by
  have h := Ed.Pt.add_neg (hf := F25519.full) ptTwo
  rwa [two_neg] at h
theorem g_dx {N : Nat} [NeZero N] (i w : Fin N) : (i * 0 + i * 0) * w = 0 := by grind
theorem g_dn {N : Nat} [NeZero N] (d i : Fin N) : 1 - d * i * i * 0 * 0 = 1 := by grind
theorem g_dy {N : Nat} [NeZero N] {i : Fin N} (h : i * i = -1) : (0 * 0 + i * i) * 1 = -1 := by grind
theorem inv_oneF : inv (1 : Fin F25519.P) = 1 := by
  have h := mul_inv F25519.prP (Ed.one_ne F25519.prP)
  rwa [one_mul_] at h
theorem four_two : padd ptFour ptFour = ptTwo := by
  apply Ed.Pt.ext_
  · exact g_dx F25519.iV _
  · show (0 * 0 + F25519.iV * F25519.iV) * inv (1 - F25519.dV * F25519.iV * F25519.iV * 0 * 0) = -1
    rw [g_dn, inv_oneF]
    exact g_dy F25519.i_sq
theorem four_ne_two : ptFour ≠ ptTwo := fun h => F25519.one_ne_neg (by
  have e : (0 : Fin F25519.P) = -1 := congrArg (fun p : PtD => p.y) h
  exact absurd (show (0 : Fin F25519.P).val = (-1 : Fin F25519.P).val from congrArg Fin.val e) (by decide +kernel))
/-- their y's, by which bytes tell them: one point of y 1 and of y -1, two of y 0 -/
theorem y_one {p : PtD} (h : p.y = 1) : p = pzero := by
  rcases Ed.y_same F25519.full (p := p) (q := pzero) h with g | g
  · exact g
  · rw [g]; exact Ed.Pt.neg_zero
theorem y_two {p : PtD} (h : p.y = -1) : p = ptTwo := by
  rcases Ed.y_same F25519.full (p := p) (q := ptTwo) h with g | g
  · exact g
  · rw [g, two_neg]
theorem y_four {p : PtD} (h : p.y = 0) : p = ptFour ∨ p = ptFour.neg := Ed.y_same F25519.full h
theorem neg_twice (p : PtD) : padd p.neg p.neg = (padd p p).neg := (Ed.Pt.neg_add (hf := F25519.full) p p).symm
theorem four_any {p : PtD} (h : p.y = 0) : padd p p = ptTwo := by
  rcases y_four h with rfl | rfl
  · exact four_two
  · rw [neg_twice, four_two, two_neg]
theorem four_neg_ne : ptFour.neg ≠ ptFour := fun h => by
  have e : -F25519.iV = F25519.iV := congrArg (fun p : PtD => p.x) h
  exact absurd (congrArg Fin.val e) (by decide +kernel)
end Go.Proofs.Ytfejabfmhddepaa

