/- The points of order 1, 2 and 4 by their bytes. No program is named here. -/
import Derived.Test.YtddijcopoaeejaaLaw12Spec
namespace Go.Proofs.Ytddijcopoaeejaa
set_option linter.unusedVariables false
set_option maxRecDepth 100000
open Pm Fl

theorem enc_z : F25519.encN pzero = 1 := by decide +kernel
theorem enc_two : F25519.encN ptTwo = PP - 1 := by decide +kernel
theorem enc_four : F25519.encN ptFour = 0 := by decide +kernel
theorem enc_fourn : F25519.encN (Ed.Pt.neg ptFour) = TT := by decide +kernel
theorem no_sign {l : List UInt8} (hl : l.length = 32) {a : Nat} (ha : leN l = a + TT) (hlt : a < TT) (hx : ∀ p : PtD, p.y.val = a → p.x.val % 2 = 0) : decF l = false := by
  cases h : decF l with
  | false => rfl
  | true =>
    have e := congrArg leN (dec_bytes hl h)
    rw [leN_leB 32 _ (encN_lt _), ha, enc_num] at e
    have hy : (decP l).y.val < TT := Nat.lt_trans (decP l).y.isLt F25519.P_lt
    have h2 : (decP l).x.val % 2 < 2 := Nat.mod_lt _ (by omega)
    generalize hyv : (decP l).y.val = y at *
    generalize hxv : (decP l).x.val % 2 = x at *
    have hx1 : x = 1 := by
      have : x = 0 ∨ x = 1 := by omega
      rcases this with rfl | rfl
      · omega
      · rfl
    subst hx1
    have := hx (decP l) (by omega)
    omega
theorem z_even (p : PtD) (h : p.y.val = 1) : p.x.val % 2 = 0 := by
  have e : p.y = 1 := Fin.ext h
  rw [y_one e]; rfl
theorem two_even (p : PtD) (h : p.y.val = PP - 1) : p.x.val % 2 = 0 := by
  have e : p.y = -1 := Fin.ext (by rw [h]; decide +kernel)
  rw [y_two e]; rfl
def ordP (p : PtD) (o : Nat) : Prop := ∀ k, k < 3 → ptEq (dblP k p) pzero = decide (o ≤ k)
theorem ord_of {p : PtD} {o : Nat} (h0 : ptEq p pzero = decide (o ≤ 0)) (h1 : ptEq (padd p p) pzero = decide (o ≤ 1)) (h2 : ptEq (padd (padd p p) (padd p p)) pzero = decide (o ≤ 2)) : ordP p o := by
  intro k hk
  have : k = 0 ∨ k = 1 ∨ k = 2 := by omega
  rcases this with rfl | rfl | rfl
  · exact h0
  · exact h1
  · exact h2
theorem ord_z : ordP pzero 0 := ord_of (ptEq_self _) (by rw [pz_add]; exact ptEq_self _) (by rw [pz_add, pz_add]; exact ptEq_self _)
theorem ord_two : ordP ptTwo 1 := ord_of (ptEq_ne two_ne_zero) (by rw [two_two]; exact ptEq_self _) (by rw [two_two, pz_add]; exact ptEq_self _)
theorem ord_four : ordP ptFour 2 := ord_of (ptEq_ne four_ne_zero) (by rw [four_two]; exact ptEq_ne two_ne_zero) (by rw [four_two, two_two]; exact ptEq_self _)
theorem four_neg_zero : Ed.Pt.neg ptFour ≠ pzero := fun h => four_ne_zero (by rw [← pneg_neg ptFour, h]; exact Ed.Pt.neg_zero)
theorem ord_fourn : ordP (Ed.Pt.neg ptFour) 2 := ord_of (ptEq_ne four_neg_zero) (by rw [neg_twice, four_two, two_neg]; exact ptEq_ne two_ne_zero) (by rw [neg_twice, four_two, two_neg, two_two]; exact ptEq_self _)
/-- four rows of 32 bytes -/
def fourL (k : Nat) : List UInt8 := (1 :: List.replicate 31 0) ++ fillB k ++ List.replicate 64 0
theorem fourL_len {k : Nat} (h : k ≤ 32) : (fourL k).length = 128 := by unfold fourL; have := fillB_len h; simp; omega
theorem fourL_set {k : Nat} (h : k < 32) : (fourL k).set (32 + k) 255 = fourL (k + 1) := by
  have hl := fillB_len (Nat.le_of_lt h)
  unfold fourL
  rw [List.set_append, if_pos (by simp; omega), List.set_append, if_neg (by simp), show 32 + k - (1 :: List.replicate 31 (0 : UInt8)).length = k by simp, fillB_set h]
def fourE : List UInt8 := (((fourL 32).set 32 236).set 63 127).set 127 128
theorem fourE_len : fourE.length = 128 := by decide
/-- the bytes of row i -/
def rowE (i : Nat) : List UInt8 := (fourE.drop (32 * i)).take 32
theorem row_0 : rowE 0 = leB 32 (F25519.encN pzero) := by rw [enc_z]; decide +kernel
theorem row_1 : rowE 1 = leB 32 (F25519.encN ptTwo) := by rw [enc_two]; decide +kernel
theorem row_2 : rowE 2 = leB 32 (F25519.encN ptFour) := by rw [enc_four]; decide +kernel
theorem row_3 : rowE 3 = leB 32 (F25519.encN (Ed.Pt.neg ptFour)) := by rw [enc_fourn]; decide +kernel
theorem row_at (i : Nat) (hi : i < 4) (j : Nat) (hj : j < 32) : fourE.getD (32 * i + j) 0 = (rowE i).getD j 0 := by
  have h := fourE_len
  unfold rowE
  simp only [List.getD]
  rw [List.getElem?_take, if_pos hj, List.getElem?_drop]
theorem rowE_len (i : Nat) (hi : i < 4) : (rowE i).length = 32 := by have h := fourE_len; unfold rowE; simp; omega
/-- the sign turned -/
def turnE (i : Nat) : List UInt8 := (rowE i).set 31 ((rowE i).getD 31 0 ^^^ 128)
theorem turn_len (i : Nat) (hi : i < 4) : (turnE i).length = 32 := by unfold turnE; rw [List.length_set]; exact rowE_len i hi
theorem turn_0 : decF (turnE 0) = false := no_sign (turn_len 0 (by omega)) (a := 1) (by decide +kernel) (by decide) z_even
theorem turn_1 : decF (turnE 1) = false := no_sign (turn_len 1 (by omega)) (a := PP - 1) (by decide +kernel) (by decide) two_even
theorem turn_2 : turnE 2 = leB 32 (F25519.encN (Ed.Pt.neg ptFour)) := by rw [enc_fourn]; decide +kernel
theorem turn_3 : turnE 3 = leB 32 (F25519.encN ptFour) := by rw [enc_four]; decide +kernel
/-- which point stands in row i -/
def smallP : Nat → PtD
  | 0 => pzero
  | 1 => ptTwo
  | 2 => ptFour
  | _ => Ed.Pt.neg ptFour
def ordN : Nat → Nat
  | 0 => 0
  | 1 => 1
  | _ => 2
theorem small_row (i : Nat) (hi : i < 4) : rowE i = leB 32 (F25519.encN (smallP i)) := by
  have : i = 0 ∨ i = 1 ∨ i = 2 ∨ i = 3 := by omega
  rcases this with rfl | rfl | rfl | rfl
  · exact row_0
  · exact row_1
  · exact row_2
  · exact row_3
theorem small_ord (i : Nat) (hi : i < 4) : ordP (smallP i) (ordN i) := by
  have : i = 0 ∨ i = 1 ∨ i = 2 ∨ i = 3 := by omega
  rcases this with rfl | rfl | rfl | rfl
  · exact ord_z
  · exact ord_two
  · exact ord_four
  · exact ord_fourn
theorem small_turn_low (i : Nat) (hi : i < 2) : decF (turnE i) = false := by
  have : i = 0 ∨ i = 1 := by omega
  rcases this with rfl | rfl
  · exact turn_0
  · exact turn_1
theorem small_neg_low (i : Nat) (hi : i < 2) : Ed.Pt.neg (smallP i) = smallP i := by
  have : i = 0 ∨ i = 1 := by omega
  rcases this with rfl | rfl
  · exact Ed.Pt.neg_zero
  · exact two_neg
theorem small_turn_high (i : Nat) (h2 : 2 ≤ i) (hi : i < 4) : turnE i = leB 32 (F25519.encN (Ed.Pt.neg (smallP i))) := by
  have : i = 2 ∨ i = 3 := by omega
  rcases this with rfl | rfl
  · exact turn_2
  · show turnE 3 = leB 32 (F25519.encN (Ed.Pt.neg (Ed.Pt.neg ptFour)))
    rw [pneg_neg]; exact turn_3
theorem small_neg_high (i : Nat) (h2 : 2 ≤ i) (hi : i < 4) : ¬ Ed.Pt.neg (smallP i) = smallP i := by
  have : i = 2 ∨ i = 3 := by omega
  rcases this with rfl | rfl
  · exact four_neg_ne
  · show ¬ Ed.Pt.neg (Ed.Pt.neg ptFour) = Ed.Pt.neg ptFour
    rw [pneg_neg]; exact fun h => four_neg_ne h.symm
theorem ordN_get (i : Nat) (hi : i < 4) : ([0, 1, 2, 2] : List Int).getD i 0 = (ordN i : Int) := by
  have : i = 0 ∨ i = 1 ∨ i = 2 ∨ i = 3 := by omega
  rcases this with rfl | rfl | rfl | rfl <;> rfl
end Go.Proofs.Ytddijcopoaeejaa

