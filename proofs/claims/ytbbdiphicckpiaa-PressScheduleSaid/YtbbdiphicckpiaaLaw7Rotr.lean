/- PressRotr. -/
import Derived.Test.YtbbdiphicckpiaaLaw7Spec
namespace Go.Proofs.Ytbbdiphicckpiaa
open Go.RowKit
set_option linter.unusedVariables false
set_option maxRecDepth 100000

set_option maxHeartbeats 800000 in
theorem law7Rotr (P : PressC) (x : W64) (n k : Int) (n1 : -9223372036854775808 ≤ n) (n2 : n ≤ 9223372036854775807) (k1 : -9223372036854775808 ≤ k) (k2 : k ≤ 9223372036854775807) (w : World) :
    Calls Try.prog 5 #[.int .u64 (x.toNat : Int), .int .i64 n, .int .i64 k] w fun e w' => e = .returned (.bool true) ∧ Below w.heap.size w w' := by
  have HA := Lib.hid (alive7_any P w)
  by_cases g : -1000 ≤ n ∧ n ≤ 1000 ∧ -1000 ≤ k ∧ k ≤ 1000
  · obtain ⟨a1, a2, a3, a4⟩ := g
    have d1 : decide (n < -1000) = false := decide_eq_false (by omega)
    have d2 : decide (1000 < n) = false := decide_eq_false (by omega)
    have d3 : decide (k < -1000) = false := decide_eq_false (by omega)
    have d4 : decide (1000 < k) = false := decide_eq_false (by omega)
    obtain ⟨s, hs⟩ : ∃ s, n + k = s := ⟨_, rfl⟩
    obtain ⟨m, hm⟩ : ∃ m, -n = m := ⟨_, rfl⟩
    obtain ⟨t, ht⟩ : ∃ t, 64 * n = t := ⟨_, rfl⟩
    have R1 := P.rotr x n (by omega) (by omega)
    have R2 := P.rotr (rot x n) k (by omega) (by omega)
    have R3 := P.rotr x s (by omega) (by omega)
    have R4 := P.rotr (rot x n) m (by omega) (by omega)
    have R5 := P.rotr x t (by omega) (by omega)
    rw [← hs, ← rot_rot] at R3
    rw [rot_rot, show n + m = 0 by omega, rot_zero x (n := 0) (by omega)] at R4
    rw [rot_zero x (n := t) (by omega)] at R5
    rw [hs] at R3
    have s1 : IntKind.i64.wrap s = s := by rw [IntKind.wrap_i64]; omega
    have m0 : 0 - n = m := by omega
    have m1 : IntKind.i64.wrap m = m := by rw [IntKind.wrap_i64]; omega
    have t1 : IntKind.i64.wrap t = t := by rw [IntKind.wrap_i64]; omega
    generalize rot (rot x n) k = z at *
    generalize rot x n = y at *
    generalize x.toNat = X at *
    generalize y.toNat = Y at *
    generalize z.toNat = Z at *
    have HR1 := Lib.hid R1
    have HR2 := Lib.hid R2
    have HR3 := Lib.hid R3
    have HR4 := Lib.hid R4
    have HR5 := Lib.hid R5
    clear R1 R2 R3 R4 R5 a1 a2 a3 a4 n1 n2 k1 k2
    go_enter Try.func5, Try.ntmps5
    go_wp2_with fail
    with_reducible refine HA.out.mono ?_
    rintro e w1 ⟨rfl, hb1⟩
    have HB1 := Lib.hid hb1
    clear hb1 HA
    go_wp2_with fail
    with_reducible refine (HR1.out _).mono ?_
    rintro e w2 ⟨rfl, hb2⟩
    have HB2 := Lib.hid (below_next HB1.out hb2)
    clear hb2
    go_wp2_with fail
    with_reducible refine (HR2.out _).mono ?_
    rintro e w3 ⟨rfl, hb3⟩
    have HB3 := Lib.hid (below_next HB2.out hb3)
    clear hb3
    go_wp2_with fail
    with_reducible refine (HR3.out _).mono ?_
    rintro e w4 ⟨rfl, hb4⟩
    have HB4 := Lib.hid (below_next HB3.out hb4)
    clear hb4
    go_wp2_with fail
    with_reducible refine (HR1.out _).mono ?_
    rintro e w5 ⟨rfl, hb5⟩
    have HB5 := Lib.hid (below_next HB4.out hb5)
    clear hb5
    go_wp2_with fail
    with_reducible refine (HR4.out _).mono ?_
    rintro e w6 ⟨rfl, hb6⟩
    have HB6 := Lib.hid (below_next HB5.out hb6)
    clear hb6
    go_wp2_with fail
    with_reducible refine (HR5.out _).mono ?_
    rintro e w7 ⟨rfl, hb7⟩
    have HB7 := Lib.hid (below_next HB6.out hb7)
    clear hb7
    go_wp2_with fail
    go_ret
    exact ⟨rfl, HB7.out⟩
  · generalize x.toNat = X at *
    by_cases g1 : n < -1000
    · have d1 : decide (n < -1000) = true := decide_eq_true g1
      clear g
      go_enter Try.func5, Try.ntmps5
      go_wp2_with fail
      with_reducible refine HA.out.mono ?_
      rintro e w1 ⟨rfl, hb1⟩
      have HB1 := Lib.hid hb1
      clear hb1 HA
      go_wp2_with fail
      go_ret
      exact ⟨rfl, HB1.out⟩
    · have d1 : decide (n < -1000) = false := decide_eq_false g1
      by_cases g2 : 1000 < n
      · have d2 : decide (1000 < n) = true := decide_eq_true g2
        clear g
        go_enter Try.func5, Try.ntmps5
        go_wp2_with fail
        with_reducible refine HA.out.mono ?_
        rintro e w1 ⟨rfl, hb1⟩
        have HB1 := Lib.hid hb1
        clear hb1 HA
        go_wp2_with fail
        go_ret
        exact ⟨rfl, HB1.out⟩
      · have d2 : decide (1000 < n) = false := decide_eq_false g2
        by_cases g3 : k < -1000
        · have d3 : decide (k < -1000) = true := decide_eq_true g3
          clear g
          go_enter Try.func5, Try.ntmps5
          go_wp2_with fail
          with_reducible refine HA.out.mono ?_
          rintro e w1 ⟨rfl, hb1⟩
          have HB1 := Lib.hid hb1
          clear hb1 HA
          go_wp2_with fail
          go_ret
          exact ⟨rfl, HB1.out⟩
        · have d3 : decide (k < -1000) = false := decide_eq_false g3
          have g4 : 1000 < k := by omega
          have d4 : decide (1000 < k) = true := decide_eq_true g4
          clear g
          go_enter Try.func5, Try.ntmps5
          go_wp2_with fail
          with_reducible refine HA.out.mono ?_
          rintro e w1 ⟨rfl, hb1⟩
          have HB1 := Lib.hid hb1
          clear hb1 HA
          go_wp2_with fail
          go_ret
          exact ⟨rfl, HB1.out⟩
end Go.Proofs.Ytbbdiphicckpiaa

