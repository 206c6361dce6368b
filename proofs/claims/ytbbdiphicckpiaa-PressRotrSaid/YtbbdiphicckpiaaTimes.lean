/- roots.times; the four closures; roots.greatest. -/
import Derived.Test.YtbbdiphicckpiaaCarry
import Derived.Test.YtbbdiphicckpiaaRoots
namespace Go.Proofs.Ytbbdiphicckpiaa
open Go.RowKit
set_option linter.unusedVariables false
set_option maxRecDepth 100000

theorem times_sum (x0 x1 x2 y : Nat) : val4 x0 x1 x2 0 * y = x0 * y + (x1 * y) * 18446744073709551616 + (x2 * y) * 340282366920938463463374607431768211456 := by
  have h : ∀ a b c : Nat, (x0 + x1 * a + x2 * b + 0 * c) * y = x0 * y + (x1 * y) * a + (x2 * y) * b := by intro a b c; grind
  exact h _ _ _

set_option maxHeartbeats 3200000 in
theorem times_ex (x0 x1 x2 y : Nat) (h0 : x0 < 18446744073709551616) (h1 : x1 < 18446744073709551616) (h2 : x2 < 18446744073709551616) (hy : y < 18446744073709551616) : ∃ r0 r1 r2 r3 : Nat,
    Hid (∀ w : World, Calls Try.prog 35 #[.agg #[.int .u64 (x0 : Int), .int .u64 (x1 : Int), .int .u64 (x2 : Int), .int .u64 0], .int .u64 (y : Int)] w fun e w' =>
      e = .returned (.agg #[.int .u64 (r0 : Int), .int .u64 (r1 : Int), .int .u64 (r2 : Int), .int .u64 (r3 : Int)]) ∧ Below w.heap.size w w') ∧
    val4 r0 r1 r2 r3 = val4 x0 x1 x2 0 * y ∧ r0 < 18446744073709551616 ∧ r1 < 18446744073709551616 ∧ r2 < 18446744073709551616 ∧ r3 < 18446744073709551616 := by
  obtain ⟨u0, l0, M0, m0, p0, q0⟩ := mul_ex x0 y h0 hy
  obtain ⟨u1, l1, M1, m1, p1, q1⟩ := mul_ex x1 y h1 hy
  obtain ⟨u2, l2, M2, m2, p2, q2⟩ := mul_ex x2 y h2 hy
  obtain ⟨z1, d1, s1, e1, k1⟩ := add_ex l1 u0 0 (by omega)
  obtain ⟨z2, d2, s2, e2, k2⟩ := add_ex l2 u1 d1 (by omega)
  obtain ⟨z3, d3, s3, e3, k3⟩ := add_ex 0 u2 d2 (by omega)
  refine ⟨l0, z1, z2, z3, Lib.hid fun w => ?_, ?_, p0, k1, k2, k3⟩
  · clear m0 m1 m2 e1 e2 e3 p0 p1 p2 q0 q1 q2 k1 k2 k3 h0 h1 h2
    simp only [Int.ofNat_zero] at s1 s3
    go_enter Try.func35, Try.ntmps35
    go_wp2_with fail
    with_reducible refine (M0.out _).mono ?_
    rintro e w' ⟨rfl, rfl⟩
    go_wp2_with fail
    with_reducible refine (M1.out _).mono ?_
    rintro e w' ⟨rfl, rfl⟩
    go_wp2_with fail
    with_reducible refine (M2.out _).mono ?_
    rintro e w' ⟨rfl, rfl⟩
    go_wp2
    simp [bodyPost, results, Try.results35, go_sem]
    exact ((Below.refl _ _).alloc (Nat.le_refl _) _).alloc (by simp) _
  · have hs := times_sum x0 x1 x2 y
    rw [hs, ← m0, ← m1, ← m2]
    have hX : val4 x0 x1 x2 0 * y ≤ 6277101735386680763835789423207666416102355444464034512895 * 18446744073709551615 := Nat.mul_le_mul (by unfold val4; omega) (by omega)
    rw [hs, ← m0, ← m1, ← m2] at hX
    unfold val4
    omega
end Go.Proofs.Ytbbdiphicckpiaa

