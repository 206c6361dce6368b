/- What 32 bytes come to as a point; are two points one. No program is named here. -/
import Derived.Test.YtfejabfmhddepaaPtN4
namespace Go.Proofs.Ytfejabfmhddepaa
set_option linter.unusedVariables false
set_option maxRecDepth 100000
open Pm Fl

/-- are these bytes a point? -/
def decF (l : List UInt8) : Bool := canN l && (fineN (upN (feN l)) (dnN (feN l)) && !(decide (ratN (upN (feN l)) (dnN (feN l)) = 0) && decS l))
def decX (l : List UInt8) : Nat := if decS l then (PP - ratN (upN (feN l)) (dnN (feN l))) % PP else ratN (upN (feN l)) (dnN (feN l))
theorem decF_parts {l : List UInt8} (h : decF l = true) : canN l = true ∧ fineN (upN (feN l)) (dnN (feN l)) = true ∧ (ratN (upN (feN l)) (dnN (feN l)) = 0 → decS l = false) := by
  unfold decF at h
  rw [Bool.and_eq_true, Bool.and_eq_true] at h
  refine ⟨h.1, h.2.1, fun e => ?_⟩
  have k := h.2.2
  rw [decide_eq_true e, Bool.true_and] at k
  cases hs : decS l
  · rfl
  · rw [hs] at k; cases k
theorem decF_of {l : List UInt8} (hc : canN l = true) (hf : fineN (upN (feN l)) (dnN (feN l)) = true) (hs : ratN (upN (feN l)) (dnN (feN l)) = 0 → decS l = false) : decF l = true := by
  unfold decF
  rw [hc, hf, Bool.true_and, Bool.true_and]
  by_cases e : ratN (upN (feN l)) (dnN (feN l)) = 0
  · rw [hs e, Bool.and_false]; rfl
  · rw [decide_eq_false e]; rfl
theorem decF_can {l : List UInt8} (h : canN l = false) : decF l = false := by unfold decF; rw [h]; rfl
theorem decF_fine {l : List UInt8} (h : fineN (upN (feN l)) (dnN (feN l)) = false) : decF l = false := by unfold decF; rw [h, Bool.false_and, Bool.and_false]
theorem decF_sign {l : List UInt8} (h : ratN (upN (feN l)) (dnN (feN l)) = 0) (hs : decS l = true) : decF l = false := by
  unfold decF; rw [decide_eq_true h, hs, Bool.true_and]; simp
theorem dec_on {l : List UInt8} (h : decF l = true) : Ed.On F25519.dV (F25519.c (decX l)) (F25519.c (feN l)) := by
  obtain ⟨hc, hf, hs⟩ := decF_parts h
  obtain ⟨p, h1, h2, h3⟩ := point_of (feN_lt l) hf (decS l) hs
  have ex : F25519.c (decX l) = p.x := by unfold decX; rw [← h3]; exact F25519.c_of _
  have ey : F25519.c (feN l) = p.y := by rw [← h2]; exact F25519.c_of _
  rw [ex, ey]
  exact p.on
/-- the point -/
def decP (l : List UInt8) : PtD := if h : decF l = true then ⟨F25519.c (decX l), F25519.c (feN l), dec_on h⟩ else pzero
theorem decP_no {l : List UInt8} (h : decF l = false) : decP l = pzero := by unfold decP; rw [dif_neg (by rw [h]; decide)]
theorem decX_lt (l : List UInt8) : decX l < PP := by unfold decX; split; exact mod_lt_PP _; exact ratN_lt _ _
theorem c_valP {a : Nat} (h : a < PP) : (F25519.c a).val = a := by rw [F25519.c_val]; exact Nat.mod_eq_of_lt h
theorem decP_xy {l : List UInt8} (h : decF l = true) : (decP l).x.val = decX l ∧ (decP l).y.val = feN l := by
  unfold decP
  rw [dif_pos h]
  exact ⟨c_valP (decX_lt l), c_valP (feN_lt l)⟩
theorem decP_of {l : List UInt8} (h : decF l = true) {p : PtD} (hx : p.x.val = decX l) (hy : p.y.val = feN l) : decP l = p := by
  obtain ⟨a, b⟩ := decP_xy h
  exact Ed.Pt.ext_ (Fin.ext (by rw [a, hx])) (Fin.ext (by rw [b, hy]))
theorem dec_bytes {l : List UInt8} (hl : l.length = 32) (h : decF l = true) : leB 32 (F25519.encN (decP l)) = l := by
  obtain ⟨hc, hf, hs⟩ := decF_parts h
  obtain ⟨p, h1, h2, h3⟩ := dec_some hl hc hf hs
  rw [decP_of h h3 h2, h1]
theorem dec_enc (p : PtD) : decF (leB 32 (F25519.encN p)) = true ∧ decP (leB 32 (F25519.encN p)) = p := by
  obtain ⟨a, b, c⟩ := dec_only (leB_len 32 _) p rfl
  have h := decF_of a b c
  refine ⟨h, ?_⟩
  have e := dec_bytes (leB_len 32 _) h
  exact (encB_iff _ _).1 e
/-- are two points one? -/
def ptEq (p q : PtD) : Bool := decide (F25519.encN p = F25519.encN q)
theorem ptEq_iff {p q : PtD} : ptEq p q = true ↔ p = q := by
  unfold ptEq
  constructor
  · intro h; exact F25519.encN_inj (of_decide_eq_true h)
  · rintro rfl; exact decide_eq_true rfl
theorem ptEq_self (p : PtD) : ptEq p p = true := ptEq_iff.2 rfl
theorem ptEq_ne {p q : PtD} (h : ¬ p = q) : ptEq p q = false := by
  cases e : ptEq p q with
  | false => rfl
  | true => exact absurd (ptEq_iff.1 e) h
theorem co_alike {X1 Y1 Z1 T1 X2 Y2 Z2 T2 : Nat} {p q : PtD} (h1 : Co X1 Y1 Z1 T1 p) (h2 : Co X2 Y2 Z2 T2 q) (ha : (X1 * Z2) % PP = (X2 * Z1) % PP) (hb : (Y1 * Z2) % PP = (Y2 * Z1) % PP) : ptEq p q = true :=
  ptEq_iff.2 ((co_same h1 h2).1 ⟨ha, hb⟩)
theorem co_alikeX {X1 Y1 Z1 T1 X2 Y2 Z2 T2 : Nat} {p q : PtD} (h1 : Co X1 Y1 Z1 T1 p) (h2 : Co X2 Y2 Z2 T2 q) (ha : ¬ (X1 * Z2) % PP = (X2 * Z1) % PP) : ptEq p q = false :=
  ptEq_ne fun e => ha ((co_same h1 h2).2 e).1
theorem co_alikeY {X1 Y1 Z1 T1 X2 Y2 Z2 T2 : Nat} {p q : PtD} (h1 : Co X1 Y1 Z1 T1 p) (h2 : Co X2 Y2 Z2 T2 q) (ha : ¬ (Y1 * Z2) % PP = (Y2 * Z1) % PP) : ptEq p q = false :=
  ptEq_ne fun e => ha ((co_same h1 h2).2 e).2
/-- a y that is not below p, the highest bit set -/
theorem high_can {n : Nat} (h : 237 ≤ n) (h2 : n < 256) : canN ((List.replicate 32 (255 : UInt8)).set 0 (UInt8.ofNat n)) = false := by
  have h1 := leN_set (List.replicate 32 (255 : UInt8)) 0 (UInt8.ofNat n) (by simp)
  have e1 : leN (List.replicate 32 (255 : UInt8)) = 2 * TT - 1 := by decide +kernel
  have e2 : (UInt8.ofNat n).toNat = n := by simp; omega
  have e3 : ((List.replicate 32 (255 : UInt8)).getD 0 0).toNat = 255 := by decide
  rw [e1, e2, e3, Nat.pow_zero] at h1
  unfold canN
  apply decide_eq_false
  unfold TT PP at *
  omega
theorem high_no {n : Nat} (h : 237 ≤ n) (h2 : n < 256) : decF ((List.replicate 32 (255 : UInt8)).set 0 (UInt8.ofNat n)) = false ∧ decP ((List.replicate 32 (255 : UInt8)).set 0 (UInt8.ofNat n)) = pzero :=
  ⟨decF_can (high_can h h2), decP_no (decF_can (high_can h h2))⟩
theorem edge_no {n : Nat} (h : 237 ≤ n) (h2 : n < 256) : decF (edgeB n) = false ∧ decP (edgeB n) = pzero :=
  ⟨decF_can (edge_high h h2).2, decP_no (decF_can (edge_high h h2).2)⟩
end Go.Proofs.Ytfejabfmhddepaa

