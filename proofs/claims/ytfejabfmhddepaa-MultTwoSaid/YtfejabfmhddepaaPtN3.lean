/- A point's bytes, and the base point, by plain numbers. No program is named here. -/
import Derived.Test.YtfejabfmhddepaaPtN2
namespace Go.Proofs.Ytfejabfmhddepaa
set_option linter.unusedVariables false
set_option maxRecDepth 100000
open Pm Fl

/-- is the highest bit set? -/
def decS (l : List UInt8) : Bool := decide (127 < (l.getD 31 0).toNat)
theorem sign_split {l : List UInt8} (h : l.length = 32) : leN l = leN l % TT + (if decS l then 1 else 0) * TT := by
  obtain ⟨r, hr, e⟩ := top_split h
  have hb := (l.getD 31 0).toNat_lt
  rw [P31] at hr e
  unfold decS
  by_cases g : 127 < (l.getD 31 0).toNat
  · rw [decide_eq_true g, if_pos rfl]; unfold TT at *; omega
  · rw [decide_eq_false g, if_neg (by decide)]; unfold TT at *; omega
theorem feN_can {l : List UInt8} (h : canN l = true) : feN l = leN l % TT := by
  unfold canN at h
  unfold feN
  exact Nat.mod_eq_of_lt (of_decide_eq_true h)

theorem enc_set {y : Nat} (h : y < TT) : (leB 32 y).set 31 ((leB 32 y).getD 31 0 + 128) = leB 32 (y + TT) := by
  have hlen := leB_len 32 y
  have h2 := two256
  apply leN_inj (by rw [List.length_set, leB_len, leB_len])
  have hs := leN_set (leB 32 y) 31 ((leB 32 y).getD 31 0 + 128) (by rw [hlen]; omega)
  have hg := leB_get 32 y 31 (by omega)
  have hd : y / 256 ^ 31 < 128 := by rw [P31]; unfold TT at h; omega
  have ht : ((leB 32 y).getD 31 0).toNat = y / 256 ^ 31 := by rw [hg]; simp; omega
  have hx : ((leB 32 y).getD 31 0 + 128).toNat = y / 256 ^ 31 + 128 := by rw [UInt8.toNat_add, ht]; simp; omega
  rw [hx, ht, leN_leB 32 y (by omega)] at hs
  rw [leN_leB 32 (y + TT) (by omega)]
  rw [P31] at hs
  unfold TT
  omega

theorem enc_bytes (p : PtD) : leB 32 (F25519.encN p) = if p.x.val % 2 = 1 then (leB 32 p.y.val).set 31 ((leB 32 p.y.val).getD 31 0 + 128) else leB 32 p.y.val := by
  have hy : p.y.val < TT := Nat.lt_trans p.y.isLt F25519.P_lt
  rw [enc_num]
  by_cases g : p.x.val % 2 = 1
  · rw [if_pos g, g, enc_set hy, Nat.one_mul]
  · rw [if_neg g, show p.x.val % 2 = 0 by omega, Nat.zero_mul, Nat.add_zero]
theorem encB_iff (p q : PtD) : leB 32 (F25519.encN p) = leB 32 (F25519.encN q) ↔ p = q := by
  constructor
  · intro h; exact F25519.encN_inj (leB_inj (encN_lt p) (encN_lt q) h)
  · rintro rfl; rfl

/-- bytes that are a point: its two numbers -/
theorem dec_some {l : List UInt8} (hl : l.length = 32) (hc : canN l = true) (hf : fineN (upN (feN l)) (dnN (feN l)) = true) (hs : ratN (upN (feN l)) (dnN (feN l)) = 0 → decS l = false) :
    ∃ p : PtD, leB 32 (F25519.encN p) = l ∧ p.y.val = feN l ∧ p.x.val = (if decS l then (PP - ratN (upN (feN l)) (dnN (feN l))) % PP else ratN (upN (feN l)) (dnN (feN l))) := by
  obtain ⟨p, h1, h2, h3⟩ := point_of (feN_lt l) hf (decS l) hs
  refine ⟨p, ?_, h2, h3⟩
  rw [h1, feN_can hc, ← sign_split hl, ← hl]
  exact leB_leN l
/-- and no others -/
theorem dec_only {l : List UInt8} (hl : l.length = 32) (p : PtD) (h : leB 32 (F25519.encN p) = l) :
    canN l = true ∧ fineN (upN (feN l)) (dnN (feN l)) = true ∧ (ratN (upN (feN l)) (dnN (feN l)) = 0 → decS l = false) := by
  have e : F25519.encN p = leN l := by rw [← h, leN_leB 32 _ (encN_lt p)]
  rw [sign_split hl] at e
  obtain ⟨a, b, c⟩ := point_only (Nat.mod_lt _ (by decide)) (decS l) p e
  have hc : canN l = true := by unfold canN; exact decide_eq_true a
  rw [feN_can hc]
  exact ⟨hc, b, c⟩
end Go.Proofs.Ytfejabfmhddepaa

