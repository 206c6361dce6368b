/- RootsNear. -/
import Derived.Test.YticeabijpihkhaaLaw6Primes
namespace Go.Proofs.Yticeabijpihkhaa
open Go.RowKit
set_option linter.unusedVariables false
set_option maxRecDepth 100000

def NearCut (w wx : World) : Prop := Hid (Below w.heap.size w wx)

set_option maxHeartbeats 1600000 in
theorem law6Near (n : Nat) (hn : n < 18446744073709551616) (w : World) :
    Calls Try.prog 7 #[.int .u64 (n : Int)] w fun e w' => e = .returned (.bool true) ∧ Below w.heap.size w w' := by
  obtain ⟨a, ha⟩ : ∃ a, n &&& 65534 = a := ⟨_, rfl⟩
  obtain ⟨b, hb⟩ : ∃ b, n &&& 1022 = b := ⟨_, rfl⟩
  have hal : a ≤ 65534 := by rw [← ha]; exact Nat.and_le_right
  have hbl : b ≤ 1022 := by rw [← hb]; exact Nat.and_le_right
  obtain ⟨m, hm⟩ : ∃ m, a * a = m := ⟨_, rfl⟩
  obtain ⟨q, hq⟩ : ∃ q, b * b = q := ⟨_, rfl⟩
  obtain ⟨c, hc⟩ : ∃ c, q * b = c := ⟨_, rfl⟩
  have hml : m ≤ 65534 * 65534 := by rw [← hm]; exact Nat.mul_le_mul hal hal
  have hql : q ≤ 1022 * 1022 := by rw [← hq]; exact Nat.mul_le_mul hbl hbl
  have hcl : c ≤ 1022 * 1022 * 1022 := by rw [← hc]; exact Nat.mul_le_mul hql hbl
  have w1' : bits .and .u64 (n : Int) 65534 = (a : Int) := by rw [← ha]; exact u64_and_nat n 65534 hn (by omega)
  have w2' : bits .and .u64 (n : Int) 1022 = (b : Int) := by rw [← hb]; exact u64_and_nat n 1022 hn (by omega)
  have w3' : IntKind.u64.wrap ((a : Int) * (a : Int)) = (m : Int) := by rw [← Int.natCast_mul, hm, IntKind.wrap_u64]; omega
  have w4' : IntKind.u64.wrap ((b : Int) * (b : Int)) = (q : Int) := by rw [← Int.natCast_mul, hq, IntKind.wrap_u64]; omega
  have w5' : IntKind.u64.wrap ((q : Int) * (b : Int)) = (c : Int) := by rw [← Int.natCast_mul, hc, IntKind.wrap_u64]; omega
  have HSQ : Hid (∀ (k : Nat), k < 2 * a → ∃ x y : Nat, x < y ∧ (∀ W : World, Calls Try.prog 9 #[.int .u64 ((m + k : Nat) : Int)] W fun e w' => e = .returned (.int .u64 (x : Int)) ∧ Below W.heap.size W w') ∧
      (∀ W : World, Calls Try.prog 9 #[.int .u64 ((m + k + 1 : Nat) : Int)] W fun e w' => e = .returned (.int .u64 (y : Int)) ∧ Below W.heap.size W w')) := Lib.hid (fun k hk => by
    refine ⟨_, _, ?_, fun W => square_any (m + k) (by omega) W, fun W => square_any (m + k + 1) (by omega) W⟩
    have h1 : pw false a = m := hm
    have h2 : pw false (a + 1) = m + 2 * a + 1 := by rw [← hm]; show (a + 1) * (a + 1) = a * a + 2 * a + 1; grind
    exact sqv_near false a (m + k) (by omega) (by omega) (by omega))
  have HCU : Hid (∀ (k : Nat), k < 3 * b → ∃ x y : Nat, x < y ∧ (∀ W : World, Calls Try.prog 11 #[.int .u64 ((c + k : Nat) : Int)] W fun e w' => e = .returned (.int .u64 (x : Int)) ∧ Below W.heap.size W w') ∧
      (∀ W : World, Calls Try.prog 11 #[.int .u64 ((c + k + 1 : Nat) : Int)] W fun e w' => e = .returned (.int .u64 (y : Int)) ∧ Below W.heap.size W w')) := Lib.hid (fun k hk => by
    refine ⟨_, _, ?_, fun W => cube_any (c + k) (by omega) W, fun W => cube_any (c + k + 1) (by omega) W⟩
    have h1 : pw true b = c := by rw [← hc, ← hq]; rfl
    have h2 : pw true (b + 1) = c + 3 * q + 3 * b + 1 := by rw [← hc, ← hq]; show (b + 1) * (b + 1) * (b + 1) = b * b * b + 3 * (b * b) + 3 * b + 1; grind
    exact sqv_near true b (c + k) (by omega) (by omega) (by omega))
  have HA := Lib.hid (alive6_any w)
  clear ha hb hm hq hc hql hn
  go_enter Try.func7, Try.ntmps7
  go_wp2_with fail
  with_reducible refine HA.out.mono ?_
  rintro e w1 ⟨rfl, hb1⟩
  have HB1 := Lib.hid hb1
  clear hb1 HA
  obtain ⟨t, ht⟩ : ∃ t, 2 * a = t := ⟨_, rfl⟩
  have w6' : IntKind.u64.wrap (2 * (a : Int)) = (t : Int) := by rw [IntKind.wrap_u64]; omega
  have w6'' : 2 * (a : Int) = (t : Int) := by omega
  obtain ⟨u, hu⟩ : ∃ u, 3 * b = u := ⟨_, rfl⟩
  have w7' : IntKind.u64.wrap (3 * (b : Int)) = (u : Int) := by rw [IntKind.wrap_u64]; omega
  have w7'' : 3 * (b : Int) = (u : Int) := by omega
  rw [ht] at HSQ
  rw [hu] at HCU
  have htl : t ≤ 131068 := by omega
  have hul : u ≤ 3066 := by omega
  clear ht hu hal hbl
  go_upto_block 0 with fail
  go_cut [] (NearCut w)
  case first =>
    clear HCU
    go_wp2_with fail
    go_loopw [6] (fun i wr => ∃ k : Nat, k ≤ 6 ∧ i = .int .u64 (k : Int) ∧ Hid (Below w.heap.size w wr)) (fun i _ => 6 - (intOf i).toNat)
    case atStart => exact ⟨0, by omega, rfl, HB1⟩
    case round =>
      obtain ⟨k, hk, rfl, HB⟩ := hrel
      by_cases h6 : k < 6
      · by_cases hkt : k < t
        · obtain ⟨x, y, hxy, S1, S2⟩ := HSQ.out k hkt
          have HS1 := Lib.hid S1
          have HS2 := Lib.hid S2
          obtain ⟨r, hr⟩ : ∃ r, m + k = r := ⟨_, rfl⟩
          obtain ⟨s, hs⟩ : ∃ s, m + k + 1 = s := ⟨_, rfl⟩
          rw [hr] at HS1
          rw [hs] at HS2
          have e1 : (m : Int) + (k : Int) = (r : Int) := by omega
          have e2 : (r : Int) + 1 = (s : Int) := by omega
          have hrl : s < 18446744073709551616 := by omega
          have hxyI : ¬ ((y : Int) ≤ (x : Int)) := by omega
          clear S1 S2 HSQ hr
          go_wp2_with fail
          go_loud (with_reducible refine (HS1.out _).mono ?_)
          rintro e w2 ⟨rfl, hb2⟩
          have HB2 := Lib.hid (below_next HB.out hb2)
          clear hb2 HB HS1
          go_wp2_with fail
          go_loud (with_reducible refine (HS2.out _).mono ?_)
          rintro e w3 ⟨rfl, hb3⟩
          have HB3 := Lib.hid (below_next HB2.out hb3)
          clear hb3 HB2 HS2
          go_wp2_with fail
          go_roundw
          case rel => exact ⟨k + 1, by omega, by go_num, HB3⟩
          case measure => simp [intOf]; omega
        · clear HSQ
          go_wp2_with fail
          go_meet
          exact HB
      · clear HSQ
        go_wp2_with fail
        go_meet
        exact HB
  case rest =>
    have HBc : Hid (Below w.heap.size w wc) := hcut
    clear hcut HB1 HSQ
    go_wp2_with fail
    go_loopw [7] (fun i wr => ∃ k : Nat, k ≤ 6 ∧ i = .int .u64 (k : Int) ∧ Hid (Below w.heap.size w wr)) (fun i _ => 6 - (intOf i).toNat)
    case atStart => exact ⟨0, by omega, rfl, HBc⟩
    case round =>
      obtain ⟨k, hk, rfl, HB⟩ := hrel
      by_cases h6 : k < 6
      · by_cases hkt : k < u
        · obtain ⟨x, y, hxy, S1, S2⟩ := HCU.out k hkt
          have HS1 := Lib.hid S1
          have HS2 := Lib.hid S2
          obtain ⟨r, hr⟩ : ∃ r, c + k = r := ⟨_, rfl⟩
          obtain ⟨s, hs⟩ : ∃ s, c + k + 1 = s := ⟨_, rfl⟩
          rw [hr] at HS1
          rw [hs] at HS2
          have e1 : (c : Int) + (k : Int) = (r : Int) := by omega
          have e2 : (r : Int) + 1 = (s : Int) := by omega
          have hrl : s < 18446744073709551616 := by omega
          have hxyI : ¬ ((y : Int) ≤ (x : Int)) := by omega
          clear S1 S2 HCU hr
          go_wp2_with fail
          go_loud (with_reducible refine (HS1.out _).mono ?_)
          rintro e w2 ⟨rfl, hb2⟩
          have HB2 := Lib.hid (below_next HB.out hb2)
          clear hb2 HB HS1
          go_wp2_with fail
          go_loud (with_reducible refine (HS2.out _).mono ?_)
          rintro e w3 ⟨rfl, hb3⟩
          have HB3 := Lib.hid (below_next HB2.out hb3)
          clear hb3 HB2 HS2
          go_wp2_with fail
          go_roundw
          case rel => exact ⟨k + 1, by omega, by go_num, HB3⟩
          case measure => simp [intOf]; omega
        · clear HCU
          go_wp2_with fail
          go_ret
          exact ⟨rfl, HB⟩
      · clear HCU
        go_wp2_with fail
        go_ret
        exact ⟨rfl, HB⟩

theorem law6NearI (p : Int) (w : World) (hp : (Lit.int .u64 p).wf = true) :
    Calls Try.prog 7 #[.int .u64 p] w fun e w' => e = .returned (.bool true) ∧ Below w.heap.size w w' := by
  have hb := u64_bounds hp
  obtain ⟨q, rfl⟩ := Int.eq_ofNat_of_zero_le hb.1
  exact law6Near q (by omega) w
end Go.Proofs.Yticeabijpihkhaa

