/- RootsWhole. -/
import Derived.Test.YticeabijpihkhaaLaw6Alive
namespace Go.Proofs.Yticeabijpihkhaa
open Go.RowKit
set_option linter.unusedVariables false
set_option maxRecDepth 100000

theorem and_ones (n k : Nat) (m : Nat) (hm : 2 ^ k - 1 = m) (hn : n < 18446744073709551616) (hml : m < 18446744073709551616) : bits .and .u64 (n : Int) (m : Int) = ((n % 2 ^ k : Nat) : Int) := by
  rw [u64_and_nat n m hn hml, ← hm, Nat.and_two_pow_sub_one_eq_mod]

set_option maxHeartbeats 800000 in
theorem law6Whole (n : Nat) (hn : n < 18446744073709551616) (w : World) :
    Calls Try.prog 6 #[.int .u64 (n : Int)] w fun e w' => e = .returned (.bool true) ∧ Below w.heap.size w w' := by
  obtain ⟨a, ha⟩ : ∃ a, n % 2 ^ 16 = a := ⟨_, rfl⟩
  obtain ⟨b, hb⟩ : ∃ b, n % 2 ^ 10 = b := ⟨_, rfl⟩
  have hal : a ≤ 65535 := by have : (2 : Nat) ^ 16 = 65536 := by decide
                             omega
  have hbl : b ≤ 1023 := by have : (2 : Nat) ^ 10 = 1024 := by decide
                            omega
  obtain ⟨m, hm⟩ : ∃ m, a * a = m := ⟨_, rfl⟩
  obtain ⟨q, hq⟩ : ∃ q, b * b = q := ⟨_, rfl⟩
  obtain ⟨c, hc⟩ : ∃ c, q * b = c := ⟨_, rfl⟩
  obtain ⟨t, ht⟩ : ∃ t, n ||| 4294967296 = t := ⟨_, rfl⟩
  have hml : m ≤ 65535 * 65535 := by rw [← hm]; exact Nat.mul_le_mul hal hal
  have hql : q ≤ 1023 * 1023 := by rw [← hq]; exact Nat.mul_le_mul hbl hbl
  have hcl : c ≤ 1023 * 1023 * 1023 := by rw [← hc]; exact Nat.mul_le_mul hql hbl
  have htl : 4294967296 ≤ t := by rw [← ht]; exact Nat.right_le_or
  have htl2 : t < 18446744073709551616 := by rw [← ht]; exact Nat.or_lt_two_pow (n := 64) (by omega) (by omega)
  have w1' : bits .and .u64 (n : Int) 65535 = (a : Int) := by rw [← ha]; exact and_ones n 16 65535 (by decide) hn (by omega)
  have w2' : bits .and .u64 (n : Int) 1023 = (b : Int) := by rw [← hb]; exact and_ones n 10 1023 (by decide) hn (by omega)
  have w3' : IntKind.u64.wrap ((a : Int) * (a : Int)) = (m : Int) := by rw [← Int.natCast_mul, hm, IntKind.wrap_u64]; omega
  have w4' : IntKind.u64.wrap ((b : Int) * (b : Int)) = (q : Int) := by rw [← Int.natCast_mul, hq, IntKind.wrap_u64]; omega
  have w5' : IntKind.u64.wrap ((q : Int) * (b : Int)) = (c : Int) := by rw [← Int.natCast_mul, hc, IntKind.wrap_u64]; omega
  have w6' : bits .or .u64 (n : Int) 4294967296 = (t : Int) := by rw [← ht]; exact u64_or_nat n 4294967296 hn (by omega)
  have HS1 : Hid (∀ W : World, Calls Try.prog 9 #[.int .u64 (m : Int)] W fun e w' => e = .returned (.int .u64 0) ∧ Below W.heap.size W w') := Lib.hid (fun W => by
    have := square_any m (by omega) W
    have e : sqv false m = 0 := by rw [← hm]; exact sqv_whole false a (by show a * a < 4294967296; omega)
    rw [e] at this
    exact this)
  have HC1 : Hid (∀ W : World, Calls Try.prog 11 #[.int .u64 (c : Int)] W fun e w' => e = .returned (.int .u64 0) ∧ Below W.heap.size W w') := Lib.hid (fun W => by
    have := cube_any c (by omega) W
    have e : sqv true c = 0 := by rw [← hc, ← hq]; exact sqv_whole true b (by show b * b * b < 4294967296; rw [hq, hc]; omega)
    rw [e] at this
    exact this)
  have HS2 : Hid (∀ W : World, Calls Try.prog 9 #[.int .u64 (t : Int)] W fun e w' => e = .returned (.int .u64 0) ∧ Below W.heap.size W w') := Lib.hid (fun W => by
    have := square_any t htl2 W
    have e : sqv false t = 0 := by unfold sqv; rw [if_neg (by omega)]
    rw [e] at this
    exact this)
  have HC2 : Hid (∀ W : World, Calls Try.prog 11 #[.int .u64 (t : Int)] W fun e w' => e = .returned (.int .u64 0) ∧ Below W.heap.size W w') := Lib.hid (fun W => by
    have := cube_any t htl2 W
    have e : sqv true t = 0 := by unfold sqv; rw [if_neg (by omega)]
    rw [e] at this
    exact this)
  have HA := Lib.hid (alive6_any w)
  clear ha hb hal hbl hm hq hc ht hml hql hcl htl htl2 hn
  go_enter Try.func6, Try.ntmps6
  go_wp2_with fail
  with_reducible refine HA.out.mono ?_
  rintro e w1 ⟨rfl, hb1⟩
  have HB1 := Lib.hid hb1
  clear hb1
  go_wp2_with fail
  with_reducible refine (HS1.out _).mono ?_
  rintro e w2 ⟨rfl, hb2⟩
  have HB2 := Lib.hid (below_next HB1.out hb2)
  clear hb2
  go_wp2_with fail
  with_reducible refine (HC1.out _).mono ?_
  rintro e w3 ⟨rfl, hb3⟩
  have HB3 := Lib.hid (below_next HB2.out hb3)
  clear hb3
  go_wp2_with fail
  with_reducible refine (HS2.out _).mono ?_
  rintro e w4 ⟨rfl, hb4⟩
  have HB4 := Lib.hid (below_next HB3.out hb4)
  clear hb4
  go_wp2_with fail
  with_reducible refine (HC2.out _).mono ?_
  rintro e w5 ⟨rfl, hb5⟩
  have HB5 := Lib.hid (below_next HB4.out hb5)
  clear hb5
  go_wp2_with fail
  go_ret
  exact ⟨rfl, HB5⟩

theorem u64_bounds {p : Int} (hp : (Lit.int .u64 p).wf = true) : 0 ≤ p ∧ p ≤ 18446744073709551615 := by
  simpa [Lit.wf, IntKind.min, IntKind.max, IntKind.signed, IntKind.bits] using hp
theorem law6WholeI (p : Int) (w : World) (hp : (Lit.int .u64 p).wf = true) :
    Calls Try.prog 6 #[.int .u64 p] w fun e w' => e = .returned (.bool true) ∧ Below w.heap.size w w' := by
  have hb := u64_bounds hp
  obtain ⟨q, rfl⟩ := Int.eq_ofNat_of_zero_le hb.1
  exact law6Whole q (by omega) w
end Go.Proofs.Yticeabijpihkhaa

