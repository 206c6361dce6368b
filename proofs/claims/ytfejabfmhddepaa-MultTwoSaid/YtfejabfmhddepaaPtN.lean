/- Points by plain numbers: what the reference's four coordinates come to. No program is named here. -/
import Derived.Test.YtfejabfmhddepaaGpw
namespace Go.Proofs.Ytfejabfmhddepaa
set_option linter.unusedVariables false
set_option maxRecDepth 100000
open Pm Fl

abbrev PtD : Type := Ed.Pt F25519.dV
abbrev padd (p q : PtD) : PtD := Ed.Pt.add F25519.full p q
abbrev pzero : PtD := Ed.Pt.zero F25519.dV

theorem c_plus (a b : Nat) : F25519.c ((a + b) % PP) = F25519.c a + F25519.c b := by rw [c_modP, F25519.c_add]
theorem c_less {a b : Nat} (h : b < PP) : F25519.c ((a + (PP - b)) % PP) = F25519.c a - F25519.c b := by rw [c_modP]; exact F25519.c_sub (Nat.le_of_lt h)

/-- four numbers that stand for a point -/
structure Co (X Y Z T : Nat) (p : PtD) : Prop where
  x : X < PP
  y : Y < PP
  z : Z < PP
  t : T < PP
  rep : Ed.Rep (F25519.c X) (F25519.c Y) (F25519.c Z) (F25519.c T) p

/-- the curve's d, as the reference comes to it; no number that the kernel may reckon stands in sight -/
def edG (v : Nat) : Nat := ((PP - 121665) % PP * v) % PP
theorem edG_lt (v : Nat) : edG v < PP := by unfold edG; exact mod_lt_PP _
theorem edG_is (v : Nat) : ((PP - 121665) % PP * v) % PP = edG v := rfl
def edN : Nat := edG (invN 121666)
theorem edN_is : ((PP - 121665) % PP * invN 121666) % PP = edN := edG_is (invN 121666)
theorem edN_lt : edN < PP := edG_lt (invN 121666)
theorem c_num1 : F25519.c 121665 = (121665 : Fin F25519.P) := Fin.ext (by decide +kernel)
theorem c_num2 : F25519.c 121666 = (121666 : Fin F25519.P) := Fin.ext (by decide +kernel)
theorem num1_lt : 121665 < PP := by decide
theorem num2_lt : 121666 < PP := by decide
theorem num2_ne : (121666 : Fin F25519.P) ≠ 0 := by
  intro h
  have := congrArg Fin.val h
  revert this
  decide +kernel
theorem ed_alg {a b d : Fin F25519.P} (h : b * d = -a) (hb : b ≠ 0) : -a * inv b = d := by
  rw [← h, mul_comm_ b, mul_assoc_, mul_inv F25519.prP hb, mul_one_]
theorem c_edG (v : Nat) : F25519.c (edG v) = -F25519.c 121665 * F25519.c v := by
  unfold edG
  rw [c_prod, c_negP num1_lt]
theorem c_edN : F25519.c edN = F25519.dV := by
  have h := c_edG (invN 121666)
  rw [c_invN num2_lt, c_num1, c_num2, ed_alg F25519.d_def num2_ne] at h
  exact h
theorem c_edN2 : F25519.c ((edN + edN) % PP) = F25519.dV + F25519.dV := by rw [c_plus, c_edN]

theorem co_add {X1 Y1 Z1 T1 X2 Y2 Z2 T2 A B C D E F G H : Nat} {p q : PtD} (h1 : Co X1 Y1 Z1 T1 p) (h2 : Co X2 Y2 Z2 T2 q)
    (hA : ((Y1 + (PP - X1)) % PP * ((Y2 + (PP - X2)) % PP)) % PP = A) (hB : ((Y1 + X1) % PP * ((Y2 + X2) % PP)) % PP = B)
    (hC : ((T1 * T2) % PP * ((edN + edN) % PP)) % PP = C) (hD : ((Z1 + Z1) % PP * Z2) % PP = D)
    (hE : (B + (PP - A)) % PP = E) (hF : (D + (PP - C)) % PP = F) (hG : (D + C) % PP = G) (hH : (B + A) % PP = H) :
    Co ((E * F) % PP) ((G * H) % PP) ((F * G) % PP) ((E * H) % PP) (padd p q) := by
  refine ⟨mod_lt_PP _, mod_lt_PP _, mod_lt_PP _, mod_lt_PP _, ?_⟩
  have r := Ed.rep_add F25519.full h1.rep h2.rep
  have lA : A < PP := by rw [← hA]; exact mod_lt_PP _
  have lC : C < PP := by rw [← hC]; exact mod_lt_PP _
  have eA : F25519.c A = (F25519.c Y1 - F25519.c X1) * (F25519.c Y2 - F25519.c X2) := by rw [← hA, c_prod, c_less h1.x, c_less h2.x]
  have eB : F25519.c B = (F25519.c Y1 + F25519.c X1) * (F25519.c Y2 + F25519.c X2) := by rw [← hB, c_prod, c_plus, c_plus]
  have eC : F25519.c C = F25519.c T1 * F25519.c T2 * (F25519.dV + F25519.dV) := by rw [← hC, c_prod, c_prod, c_edN2]
  have eD : F25519.c D = (F25519.c Z1 + F25519.c Z1) * F25519.c Z2 := by rw [← hD, c_prod, c_plus]
  rw [c_prod, c_prod, c_prod, c_prod, ← hE, ← hF, ← hG, ← hH, c_less lA, c_less lC, c_plus, c_plus, eA, eB, eC, eD]
  exact r

theorem co_neg {X Y Z T : Nat} {p : PtD} (h : Co X Y Z T p) : Co ((PP - X) % PP) Y Z ((PP - T) % PP) p.neg :=
  ⟨mod_lt_PP _, h.y, h.z, mod_lt_PP _, by rw [c_negP h.x, c_negP h.t]; exact Ed.rep_neg h.rep⟩

theorem co_zero : Co 0 1 1 0 pzero := ⟨by decide, by decide, by decide, by decide, Ed.rep_zero F25519.prP _⟩

theorem co_of {x y : Nat} {p : PtD} (hx : p.x.val = x) (hy : p.y.val = y) : Co x y 1 ((x * y) % PP) p := by
  have ex : F25519.c x = p.x := by rw [← hx]; exact F25519.c_of _
  have ey : F25519.c y = p.y := by rw [← hy]; exact F25519.c_of _
  refine ⟨by rw [← hx]; exact p.x.isLt, by rw [← hy]; exact p.y.isLt, by decide, mod_lt_PP _, ?_⟩
  rw [c_prod, ex, ey, c_one]
  exact Ed.rep_one F25519.full p

theorem co_enc {X Y Z T : Nat} {p : PtD} (h : Co X Y Z T p) : (X * invN Z) % PP = p.x.val ∧ (Y * invN Z) % PP = p.y.val := by
  obtain ⟨hx, hy⟩ := Ed.rep_inv F25519.full h.rep
  constructor
  · exact c_same (mod_lt_PP _) p.x.isLt (by rw [c_prod, c_invN h.z, F25519.c_of]; exact hx)
  · exact c_same (mod_lt_PP _) p.y.isLt (by rw [c_prod, c_invN h.z, F25519.c_of]; exact hy)

theorem co_same {X1 Y1 Z1 T1 X2 Y2 Z2 T2 : Nat} {p q : PtD} (h1 : Co X1 Y1 Z1 T1 p) (h2 : Co X2 Y2 Z2 T2 q) :
    ((X1 * Z2) % PP = (X2 * Z1) % PP ∧ (Y1 * Z2) % PP = (Y2 * Z1) % PP) ↔ p = q := by
  rw [← Ed.rep_same F25519.full h1.rep h2.rep, ← F25519.c_mul, ← F25519.c_mul, ← F25519.c_mul, ← F25519.c_mul]
  constructor
  · rintro ⟨a, b⟩
    exact ⟨by rw [← c_modP (X1 * Z2), a, c_modP], by rw [← c_modP (Y1 * Z2), b, c_modP]⟩
  · rintro ⟨a, b⟩
    exact ⟨c_same (mod_lt_PP _) (mod_lt_PP _) (by rw [c_modP, c_modP]; exact a), c_same (mod_lt_PP _) (mod_lt_PP _) (by rw [c_modP, c_modP]; exact b)⟩

theorem enc_num (p : PtD) : F25519.encN p = p.y.val + p.x.val % 2 * TT := rfl
theorem encN_lt (p : PtD) : F25519.encN p < 256 ^ 32 := by
  have h := F25519.enc_lt p
  rw [two256]
  exact h
end Go.Proofs.Ytfejabfmhddepaa

