/- roots.greatest, whatever function value it is given. -/
import Derived.Test.YtbbdiphicckpiaaTimes
namespace Go.Proofs.Ytbbdiphicckpiaa
open Go.RowKit
set_option linter.unusedVariables false
set_option maxRecDepth 100000

/-- the bit that is asked when j are left -/
def hb : Nat → Nat | 0 => 0 | j + 1 => 2 ^ j

theorem hb_half (i : Nat) : 2 ^ i / 2 = hb i := by
  cases i with
  | zero => rfl
  | succ i => simp only [hb]; rw [Nat.pow_succ]; omega

theorem or_add {r i : Nat} (h : 2 ^ (i + 1) ∣ r) : r ||| 2 ^ i = r + 2 ^ i := by
  obtain ⟨q, rfl⟩ := h
  exact (Nat.two_pow_add_eq_or_of_lt (i := i + 1) (b := 2 ^ i) (by rw [Nat.pow_succ]; have := Nat.two_pow_pos i; omega) q).symm

set_option maxHeartbeats 3200000 in
theorem greatest_any (K : Nat) (hK : K = 16 ∨ K = 64) (F : Nat → Bool) (k : FuncId) (caps : Array Value) (w : World)
    (hent : ∀ args W, (callFunc k args).run Try.prog W = .ok (.enter k args) W)
    (hclo : ∀ x, x < 2 ^ K → ∀ W, Below w.heap.size w W → Calls Try.prog k (#[.int .u64 (x : Int)] ++ caps) W fun e W' => e = .returned (.bool (F x)) ∧ Below W.heap.size W W') :
    Calls Try.prog 32 #[.int .i64 (K : Int), .func (.func k) #[] caps] w fun e w' => e = .returned (.int .u64 ((grt F K 0 : Nat) : Int)) ∧ Below w.heap.size w w' := by
  have HC := Lib.hid hclo
  clear hclo
  obtain ⟨B0, hB0⟩ : ∃ B0 : Nat, B0 = hb K := ⟨_, rfl⟩
  have h2K : 2 ^ K ≤ 18446744073709551616 := by rcases hK with rfl | rfl <;> decide
  have hKb : 1 ≤ K ∧ K ≤ 64 := by omega
  have hB2 : B0 = 2 ^ (K - 1) := by rw [hB0]; obtain ⟨K', rfl⟩ : ∃ K', K = K' + 1 := ⟨K - 1, by omega⟩; rfl
  have hsh : IntKind.u64.wrap (2 ^ (K - 1)) = (B0 : Int) := by
    have hlt : 2 ^ (K - 1) < 18446744073709551616 := by
      have : 2 ^ K = 2 ^ (K - 1) + 2 ^ (K - 1) := by rw [show K = (K - 1) + 1 by omega, Nat.pow_succ]; simp; omega
      have := Nat.two_pow_pos (K - 1)
      omega
    have e : (2 : Int) ^ (K - 1) = ((2 ^ (K - 1) : Nat) : Int) := by simp
    rw [e, hB2, IntKind.wrap_u64]
    omega
  have H2K := Lib.hid h2K
  have HB0 := Lib.hid hB0
  clear h2K hB0 hK hB2
  go_enter Try.func32, Try.ntmps32
  go_wp2
  go_loopw [5, 6] (fun f b wr => ∃ j r : Nat, Hid (j ≤ K) ∧ b = .int .u64 ((hb j : Nat) : Int) ∧ f = .int .u64 (r : Int) ∧ Hid (2 ^ j ∣ r) ∧ Hid (r + 2 ^ j ≤ 2 ^ K) ∧ Hid (grt F j r = grt F K 0) ∧ Hid (Below w.heap.size w wr))
    (fun _ b _ => (intOf b).toNat)
  case atStart => exact ⟨K, 0, Lib.hid (Nat.le_refl _), by rw [← HB0.out], rfl, Lib.hid (Nat.dvd_zero _), Lib.hid (by omega), Lib.hid rfl, Lib.hid (Below.refl _ _)⟩
  case round =>
    obtain ⟨j, r, hj, rfl, rfl, hdv, hle, hg, hbel⟩ := hrel
    clear hsh
    rcases j with _ | i
    · have hg' := hg.out
      simp only [grt] at hg'
      subst hg'
      simp only [hb]
      have HB := hbel.out
      clear hbel hle hdv hj HC H2K HB0 hent
      go_wp2
      go_ret
      exact ⟨rfl, HB⟩
    · obtain ⟨B, hB⟩ : ∃ B : Nat, B = 2 ^ i := ⟨_, rfl⟩
      obtain ⟨C, hC⟩ : ∃ C : Nat, C = hb i := ⟨_, rfl⟩
      obtain ⟨q, hq⟩ : ∃ q : Nat, q = r + B := ⟨_, rfl⟩
      have hhalf : B / 2 = C := by rw [hB, hC]; exact hb_half i
      have hBpos : 0 < B := by rw [hB]; exact Nat.two_pow_pos i
      have hpow : 2 ^ (i + 1) = B + B := by rw [hB, Nat.pow_succ]; omega
      have hle' := hle.out
      have h2K' := H2K.out
      rw [hpow] at hle'
      have hor : bits .or .u64 (r : Int) (B : Int) = (q : Int) := by
        rw [u64_or_nat r B (by omega) (by omega), hB, or_add hdv.out, ← hB, ← hq]
      have hdi : 2 ^ i ∣ r := Nat.dvd_trans ⟨2, by rw [Nat.pow_succ]⟩ hdv.out
      have hdq : 2 ^ i ∣ q := by rw [hq, hB]; exact Nat.dvd_add hdi (Nat.dvd_refl _)
      have hgs : grt F (i + 1) r = grt F i (if F q then q else r) := by rw [hq, hB]; rfl
      have Hj : Hid (i ≤ K) := Lib.hid (by have := hj.out; omega)
      have HC2 := Lib.hid (HC.out q (by omega) wr hbel.out)
      have Hle1 : Hid (q + 2 ^ i ≤ 2 ^ K) := Lib.hid (by omega)
      have Hle2 : Hid (r + 2 ^ i ≤ 2 ^ K) := Lib.hid (by omega)
      have Hdi := Lib.hid hdi
      have Hdq := Lib.hid hdq
      have Hq : Hid (grt F i (if F q then q else r) = grt F K 0) := Lib.hid (by rw [← hgs]; exact hg.out)
      have hBi : B < 18446744073709551616 := by omega
      have hb1 : hb (i + 1) = B := by rw [hB]; rfl
      rw [hb1]
      clear hb1 hgs hdq hdi hpow hle' h2K' hle hdv hj hg hq hB HC
      have HBel := hbel
      clear hbel
      by_cases hF : F q = true
      · have HC3 : Hid (Calls Try.prog k (#[.int .u64 (q : Int)] ++ caps) wr fun e W' => e = .returned (.bool true) ∧ Below wr.heap.size wr W') := Lib.hid (by have := HC2.out; rw [hF] at this; exact this)
        rw [if_pos hF] at Hq
        clear hF HC2
        go_wp2_with fail
        go_at_fn k
        refine HC3.out.mono ?_
        rintro e w' ⟨rfl, hb'⟩
        have HB' := Lib.hid (HBel.out.trans (hb'.mono HBel.out.size))
        clear HC3 hb' HBel
        go_wp2_with fail
        go_roundw
        case rel => exact ⟨i, q, Hj, by rw [← hC]; go_num, rfl, Hdq, Hle1, Hq, HB'⟩
        case measure => simp [intOf]; omega
      · have hF' : F q = false := by simpa using hF
        have HC3 : Hid (Calls Try.prog k (#[.int .u64 (q : Int)] ++ caps) wr fun e W' => e = .returned (.bool false) ∧ Below wr.heap.size wr W') := Lib.hid (by have := HC2.out; rw [hF'] at this; exact this)
        rw [if_neg hF] at Hq
        clear hF hF' HC2
        go_wp2_with fail
        go_at_fn k
        refine HC3.out.mono ?_
        rintro e w' ⟨rfl, hb'⟩
        have HB' := Lib.hid (HBel.out.trans (hb'.mono HBel.out.size))
        clear HC3 hb' HBel
        go_wp2_with fail
        go_roundw
        case rel => exact ⟨i, r, Hj, by rw [← hC]; go_num, rfl, Hdi, Hle2, Hq, HB'⟩
        case measure => simp [intOf]; omega
end Go.Proofs.Ytbbdiphicckpiaa

