/- RootsPrimes. -/
import Derived.Test.YticeabijpihkhaaLaw6Whole
namespace Go.Proofs.Yticeabijpihkhaa
open Go.RowKit
set_option linter.unusedVariables false
set_option maxRecDepth 100000

set_option maxHeartbeats 800000 in
theorem law6Primes (n : Int) (h1 : -9223372036854775808 ≤ n) (h2 : n ≤ 9223372036854775807) (w : World) :
    Calls Try.prog 4 #[.int .i64 n] w fun e w' => e = .returned (.bool true) ∧ Below w.heap.size w w' := by
  obtain ⟨K, hK⟩ : ∃ K, clampN n = K := ⟨_, rfl⟩
  have hK2 : K ≤ 100 := by rw [← hK]; unfold clampN; omega
  have HP : Hid (∀ W : World, Calls Try.prog 13 #[.int .i64 n] W (PrimesPost W K)) := Lib.hid (fun W => (primes_any n h1 h2 W).mono fun e w' h => primes_post hK h)
  have HR : Hid (∀ W : World, Calls Try.prog 14 #[.int .i64 n] W (PrimesPost W K)) := Lib.hid (fun W => (rprimes_any n h1 h2 W).mono fun e w' h => primes_post hK h)
  have HA := Lib.hid (alive6_any w)
  have HLn : Hid ((P100.take K).length = K) := Lib.hid (by rw [List.length_take, P100_len]; omega)
  clear hK h1 h2
  go_enter Try.func4, Try.ntmps4
  go_wp2_with fail
  with_reducible refine HA.out.mono ?_
  rintro e w1 ⟨rfl, hb1⟩
  have HB1 := Lib.hid hb1
  clear hb1
  go_wp2_with fail
  with_reducible refine (HP.out _).mono ?_
  rintro e w2 ⟨A2, c2, rfl, hu2, hb2⟩
  have HB2 := Lib.hid (below_next HB1.out hb2)
  have HU2 := Lib.hid hu2
  clear hb2 hu2
  go_wp2_with fail
  with_reducible refine (HR.out _).mono ?_
  rintro e w3 ⟨A3, c3, rfl, hu3, hb3⟩
  have HB3 := Lib.hid (below_next HB2.out hb3)
  have HU2' := Lib.hid (HU2.out.below hb3)
  have HU3 := Lib.hid hu3
  clear hb3 hu3 HU2 HA HP HR
  go_wp2_with fail
  go_loopw [6] (fun i wr => ∃ k nd : Nat, k ≤ K ∧ i = .int .i64 (k : Int) ∧ wr = w3.drewN nd) (fun i _ => K - (intOf i).toNat)
  case atStart => exact ⟨0, 0, by omega, rfl, rfl⟩
  case round =>
    obtain ⟨k, nd, hk, rfl, rfl⟩ := hrel
    by_cases hlt : k < K
    · obtain ⟨b2, o2, rfl, cc2⟩ := HU2'.out.at_ (k := k) (by have := HLn.out; omega)
      obtain ⟨b3, o3, rfl, cc3⟩ := HU3.out.at_ (k := k) (by have := HLn.out; omega)
      generalize (P100.take K).getD k 0 = x at *
      go_wp2_with fail
      go_quiet (fail)
      go_wp2_with fail
      go_roundw
      case rel => exact ⟨k + 1, _, by omega, by go_num, by first | rfl | exact World.drewN_drewN _ _ _⟩
      case measure => simp [intOf]; omega
    · obtain rfl : k = K := by omega
      go_wp2
      go_ret
      exact ⟨rfl, below_drewN' HB3.out nd⟩

theorem i64_bounds {p : Int} (hp : (Lit.int .i64 p).wf = true) : -9223372036854775808 ≤ p ∧ p ≤ 9223372036854775807 := by
  simpa [Lit.wf, IntKind.min, IntKind.max, IntKind.signed, IntKind.bits] using hp
theorem law6PrimesI (p : Int) (w : World) (hp : (Lit.int .i64 p).wf = true) :
    Calls Try.prog 4 #[.int .i64 p] w fun e w' => e = .returned (.bool true) ∧ Below w.heap.size w w' :=
  law6Primes p (i64_bounds hp).1 (i64_bounds hp).2 w
end Go.Proofs.Yticeabijpihkhaa

