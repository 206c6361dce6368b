/- A coder and a decoder side by side. No program is named here. -/
import Derived.Test.YtlbkpmcccipfhaaCod
namespace Go.Proofs.Ytlbkpmcccipfhaa
open Go.RowKit
set_option linter.unusedVariables false
set_option maxRecDepth 100000

/-- the decoder, to which the bytes t came, stands where the coder stands -/
structure Rel (c : Cd) (d : Dd) (t : List UInt8) : Prop where
  ex : ∃ lp, c.low = lp * 256 ^ d.need ∧ d.code + lp = bgN t
  len : t.length + d.need = 4 + c.k
  w : d.w = c.w
theorem Rel.new : Rel Cd.new Dd.new [] := ⟨⟨0, rfl, rfl⟩, rfl, rfl⟩
theorem Rel.byte {c : Cd} {d : Dd} {t : List UInt8} (h : Rel c d t) (hn : 0 < d.need) (b : UInt8) : Rel c (d.byte b) (t ++ [b]) := by
  obtain ⟨lp, h1, h2⟩ := h.ex
  have hl := h.len
  unfold Dd.byte
  rw [if_neg (by omega)]
  obtain ⟨m, hm⟩ : ∃ m, d.need = m + 1 := ⟨d.need - 1, by omega⟩
  refine ⟨⟨lp * 256, ?_, ?_⟩, ?_, h.w⟩
  · show c.low = lp * 256 * 256 ^ (d.need - 1)
    rw [h1, hm, Nat.add_sub_cancel, Nat.pow_succ, Nat.mul_comm (256 ^ m), ← Nat.mul_assoc]
  · show d.code * 256 + b.toNat + lp * 256 = bgN (t ++ [b])
    rw [bgN_snoc, ← h2]; omega
  · rw [List.length_append, List.length_singleton]
    show t.length + 1 + (d.need - 1) = 4 + c.k
    omega
theorem Rel.step {c : Cd} {d : Dd} {t : List UInt8} (h : Rel c d t) (hn : d.need = 0) (b w1 : Nat) : Rel (c.step b w1 (d.zb b)) (d.step b w1) t := by
  obtain ⟨lp, h1, h2⟩ := h.ex
  have hl := h.len
  rw [hn] at h1 hl
  have hlp : c.low = lp := by simpa using h1
  have key : ∀ (low code w : Nat), code + low = bgN t → Rel (Cd.str ⟨low, w, c.k⟩) (Dd.str ⟨code, w, 0⟩) t := by
    intro low code w hs
    unfold Cd.str Dd.str
    by_cases hw : w < 16777216
    · rw [if_pos (show (Cd.mk low w c.k).w < 16777216 from hw), if_pos (show (Dd.mk code w 0).w < 16777216 from hw)]
      exact ⟨⟨low, by show low * 256 = low * 256 ^ 1; rw [Nat.pow_one], hs⟩, by show t.length + 1 = 4 + (c.k + 1); omega, rfl⟩
    · rw [if_neg (show ¬ (Cd.mk low w c.k).w < 16777216 from hw), if_neg (show ¬ (Dd.mk code w 0).w < 16777216 from hw)]
      exact ⟨⟨low, by show low = low * 256 ^ 0; rw [Nat.pow_zero, Nat.mul_one], hs⟩, by show t.length + 0 = 4 + c.k; omega, rfl⟩
  unfold Cd.step Dd.step Dd.zb
  by_cases hz : d.code < b
  · rw [decide_eq_true hz]
    exact key c.low d.code b (by omega)
  · rw [decide_eq_false hz]
    exact key (c.low + b) (d.code - b) w1 (by omega)
/-- nothing is needed: what is left is what differs -/
theorem Rel.done {c : Cd} {d : Dd} {t : List UInt8} (h : Rel c d t) (hn : d.need = 0) : d.code + c.low = bgN t ∧ t.length = 4 + c.k := by
  obtain ⟨lp, h1, h2⟩ := h.ex
  have hl := h.len
  rw [hn] at h1 hl
  have hlp : c.low = lp := by simpa using h1
  exact ⟨by omega, by omega⟩
theorem Rel.clean {c : Cd} {d : Dd} {t : List UInt8} (hc : c.ok) (h : Rel c d t) (hn : d.need = 0) : d.clean = decide (c.out = t) ∧ c.out.length = t.length := by
  obtain ⟨h1, h2⟩ := h.done hn
  have hl : c.out.length = t.length := by rw [Cd.out_len, h2]
  refine ⟨?_, hl⟩
  unfold Dd.clean
  rw [hn, decide_eq_true rfl, Bool.true_and]
  by_cases hz : d.code = 0
  · rw [decide_eq_true hz, decide_eq_true (bgN_inj hl (by rw [Cd.out_num hc]; omega))]
  · rw [decide_eq_false hz, decide_eq_false]
    intro e
    have := Cd.out_num hc
    rw [e] at this
    omega
/-! The bytes of the whole, read from their front. -/
theorem out_take {c e : Cd} (he : e.ok) (hin : c.In e) : bgN (e.out.take (4 + c.k)) = e.low / 256 ^ (e.k - c.k) ∧ (e.out.take (4 + c.k)).length = 4 + c.k := by
  have hk := hin.k
  have hl := Cd.out_len e
  rw [bgN_take, Cd.out_num he, hl, List.length_take, hl]
  exact ⟨by congr 2; omega, by omega⟩
theorem back_sum {c e : Cd} (he : e.ok) (hin : c.In e) {d : Dd} (hr : Rel c d (e.out.take (4 + c.k))) (hn : d.need = 0) : d.code + c.low = e.low / 256 ^ (e.k - c.k) := by
  rw [(hr.done hn).1, (out_take he hin).1]
theorem back_lt {c e : Cd} (he : e.ok) (hin : c.In e) {d : Dd} (hr : Rel c d (e.out.take (4 + c.k))) (hn : d.need = 0) : d.code < d.w := by
  have h := back_sum he hin hr hn
  have h1 := hin.hi
  have hw := he.lo
  have h2 : e.low / 256 ^ (e.k - c.k) < c.low + c.w := Nat.div_lt_of_lt_mul (by rw [Nat.mul_comm]; omega)
  rw [hr.w]
  omega
theorem back_zb {c e : Cd} (he : e.ok) (hin : c.In e) {d : Dd} (hr : Rel c d (e.out.take (4 + c.k))) (hn : d.need = 0) {b w1 : Nat} {z : Bool} (hp : (c.part b w1 z).In e) : d.zb b = z := by
  have h := back_sum he hin hr hn
  have hw := he.lo
  unfold Dd.zb
  cases z
  · have h1 := hp.lo
    simp only [Cd.part, Bool.false_eq_true, if_false] at h1
    have h2 : c.low + b ≤ e.low / 256 ^ (e.k - c.k) := (Nat.le_div_iff_mul_le (Nat.pow_pos (by decide))).2 h1
    exact decide_eq_false (by omega)
  · have h1 := hp.hi
    simp only [Cd.part, if_true] at h1
    have h2 : e.low / 256 ^ (e.k - c.k) < c.low + b := Nat.div_lt_of_lt_mul (by rw [Nat.mul_comm]; omega)
    exact decide_eq_true (by omega)
theorem back_end {e : Cd} (he : e.ok) {d : Dd} (hr : Rel e d (e.out.take (4 + e.k))) (hn : d.need = 0) : d.code = 0 := by
  have h := back_sum he (Cd.In.refl e) hr hn
  simp at h
  omega
/-! How long bits without a chance come. -/
theorem cd_eta {c : Cd} {a b d : Nat} (h1 : c.low = a) (h2 : c.w = b) (h3 : c.k = d) : c = ⟨a, b, d⟩ := by cases c; simp_all
/-- the width behind i bits of a group of eight -/
def lenW (g i : Nat) : Nat := if g = 0 then 2 ^ (32 - i) - 1 else 2 ^ (32 - i) - 2 ^ (8 - i)
theorem len_step {c : Cd} (z : Bool) (n : Nat) (hw : c.w = lenW (n / 8) (n % 8)) (hk : c.k = n / 8) : (c.half z).w = lenW ((n + 1) / 8) ((n + 1) % 8) ∧ (c.half z).k = (n + 1) / 8 := by
  have h8 : n % 8 = 0 ∨ n % 8 = 1 ∨ n % 8 = 2 ∨ n % 8 = 3 ∨ n % 8 = 4 ∨ n % 8 = 5 ∨ n % 8 = 6 ∨ n % 8 = 7 := by omega
  have hs : ∀ w : Nat, c.w / 2 = w → (16777216 ≤ w → (c.half z).w = w ∧ (c.half z).k = c.k) ∧ (w < 16777216 → (c.half z).w = w * 256 ∧ (c.half z).k = c.k + 1) := by
    intro w e
    unfold Cd.half Cd.step Cd.str
    rw [e]
    cases z
    · simp only [Bool.false_eq_true, if_false]
      refine ⟨fun h => ?_, fun h => ?_⟩
      · rw [if_neg (by omega)]; exact ⟨rfl, rfl⟩
      · rw [if_pos h]; exact ⟨rfl, rfl⟩
    · simp only [if_true]
      refine ⟨fun h => ?_, fun h => ?_⟩
      · rw [if_neg (by omega)]; exact ⟨rfl, rfl⟩
      · rw [if_pos h]; exact ⟨rfl, rfl⟩
  by_cases hg : n / 8 = 0
  · rw [hg] at hw hk
    rcases h8 with h | h | h | h | h | h | h | h <;> rw [h] at hw <;> simp [lenW] at hw
    · have := (hs 2147483647 (by omega)).1 (by omega)
      rw [show (n + 1) / 8 = 0 by omega, show (n + 1) % 8 = 1 by omega, this.1, this.2, hk]; exact ⟨rfl, rfl⟩
    · have := (hs 1073741823 (by omega)).1 (by omega)
      rw [show (n + 1) / 8 = 0 by omega, show (n + 1) % 8 = 2 by omega, this.1, this.2, hk]; exact ⟨rfl, rfl⟩
    · have := (hs 536870911 (by omega)).1 (by omega)
      rw [show (n + 1) / 8 = 0 by omega, show (n + 1) % 8 = 3 by omega, this.1, this.2, hk]; exact ⟨rfl, rfl⟩
    · have := (hs 268435455 (by omega)).1 (by omega)
      rw [show (n + 1) / 8 = 0 by omega, show (n + 1) % 8 = 4 by omega, this.1, this.2, hk]; exact ⟨rfl, rfl⟩
    · have := (hs 134217727 (by omega)).1 (by omega)
      rw [show (n + 1) / 8 = 0 by omega, show (n + 1) % 8 = 5 by omega, this.1, this.2, hk]; exact ⟨rfl, rfl⟩
    · have := (hs 67108863 (by omega)).1 (by omega)
      rw [show (n + 1) / 8 = 0 by omega, show (n + 1) % 8 = 6 by omega, this.1, this.2, hk]; exact ⟨rfl, rfl⟩
    · have := (hs 33554431 (by omega)).1 (by omega)
      rw [show (n + 1) / 8 = 0 by omega, show (n + 1) % 8 = 7 by omega, this.1, this.2, hk]; exact ⟨rfl, rfl⟩
    · have := (hs 16777215 (by omega)).2 (by omega)
      rw [show (n + 1) / 8 = 1 by omega, show (n + 1) % 8 = 0 by omega, this.1, this.2, hk]; exact ⟨rfl, rfl⟩
  · have hl : ∀ i, lenW (n / 8) i = 2 ^ (32 - i) - 2 ^ (8 - i) := fun i => by unfold lenW; rw [if_neg hg]
    have hl' : ∀ m i, m ≠ 0 → lenW m i = 2 ^ (32 - i) - 2 ^ (8 - i) := fun m i hm => by unfold lenW; rw [if_neg hm]
    rw [hl] at hw
    rcases h8 with h | h | h | h | h | h | h | h <;> rw [h] at hw <;> simp at hw
    · have := (hs 2147483520 (by omega)).1 (by omega)
      rw [hl' _ _ (by omega), show (n + 1) % 8 = 1 by omega, this.1, this.2, hk]; exact ⟨rfl, by omega⟩
    · have := (hs 1073741760 (by omega)).1 (by omega)
      rw [hl' _ _ (by omega), show (n + 1) % 8 = 2 by omega, this.1, this.2, hk]; exact ⟨rfl, by omega⟩
    · have := (hs 536870880 (by omega)).1 (by omega)
      rw [hl' _ _ (by omega), show (n + 1) % 8 = 3 by omega, this.1, this.2, hk]; exact ⟨rfl, by omega⟩
    · have := (hs 268435440 (by omega)).1 (by omega)
      rw [hl' _ _ (by omega), show (n + 1) % 8 = 4 by omega, this.1, this.2, hk]; exact ⟨rfl, by omega⟩
    · have := (hs 134217720 (by omega)).1 (by omega)
      rw [hl' _ _ (by omega), show (n + 1) % 8 = 5 by omega, this.1, this.2, hk]; exact ⟨rfl, by omega⟩
    · have := (hs 67108860 (by omega)).1 (by omega)
      rw [hl' _ _ (by omega), show (n + 1) % 8 = 6 by omega, this.1, this.2, hk]; exact ⟨rfl, by omega⟩
    · have := (hs 33554430 (by omega)).1 (by omega)
      rw [hl' _ _ (by omega), show (n + 1) % 8 = 7 by omega, this.1, this.2, hk]; exact ⟨rfl, by omega⟩
    · have := (hs 16777215 (by omega)).2 (by omega)
      rw [hl' _ _ (by omega), show (n + 1) % 8 = 0 by omega, this.1, this.2, hk]; exact ⟨rfl, by omega⟩
theorem len_start : Cd.new.w = lenW (0 / 8) (0 % 8) ∧ Cd.new.k = 0 / 8 := by decide
end Go.Proofs.Ytlbkpmcccipfhaa

