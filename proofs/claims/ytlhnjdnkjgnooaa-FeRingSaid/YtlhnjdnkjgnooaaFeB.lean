/- The contracts of the developers' product, plus, limb, carry, narrowed. -/
import Derived.Test.YtlhnjdnkjgnooaaFeA
namespace Go.Proofs.Ytlhnjdnkjgnooaa
open Go.RowKit
set_option linter.unusedVariables false
set_option maxRecDepth 100000

theorem or_add13 (h q : Nat) (hq : q < 8192) (hh : h * 8192 < 18446744073709551616) : bits .or .u64 ((h * 8192 : Nat) : Int) (q : Int) = ((h * 8192 + q : Nat) : Int) := by
  have e := u64_or_nat (h * 8192) q hh (by omega)
  rw [e, show h * 8192 = 2 ^ 13 * h by rw [Nat.mul_comm], ← Nat.two_pow_add_eq_or_of_lt (show q < 2 ^ 13 from hq)]
theorem wide2_info (v : Nat) : (Try.prog.info? 54).map (·.size) = some (wide2 v).size := by kernel_rfl
theorem wide2_one (v : Nat) : (wide2 v).all (·.oneCell') = true := by simp [wide2, Value.oneCell']

set_option maxHeartbeats 1600000 in
theorem product_any (x y : Nat) (hx : x < 18446744073709551616) (hy : y < 18446744073709551616) (W : World) :
    Calls Try.prog 35 #[.int .u64 (x : Int), .int .u64 (y : Int)] W (RetV W (.agg (wide2 (x * y)))) := by
  have HM : Hid (∀ W' : World, Calls Try.prog 39 #[.int .u64 (x : Int), .int .u64 (y : Int)] W' fun e w' => e = .returned (.tuple #[.int .u64 ((x * y / 18446744073709551616 : Nat) : Int), .int .u64 ((x * y % 18446744073709551616 : Nat) : Int)]) ∧ w' = W') := Lib.hid fun W' => mul_any x y hx hy W'
  unfold wide2
  generalize x * y / 18446744073709551616 = h at *
  generalize x * y % 18446744073709551616 = l at *
  clear hx hy
  go_enter Try.func35, Try.ntmps35
  go_wp2_with fail
  with_reducible refine (HM.out _).mono ?_
  rintro e w2 ⟨rfl, h2⟩
  rw [h2]
  clear h2 w2
  go_wp2_with fail
  refine bodyPost_ret (v := .agg #[.int .u64 (h : Int), .int .u64 (l : Int)]) (by simp [results, Try.results35, go_sem]) rfl ⟨rfl, ?_⟩
  exact (Below.refl _ _).alloc (Nat.le_refl _) _

set_option maxHeartbeats 1600000 in
theorem plus_any (v x y : Nat) (hx : x < 18446744073709551616) (hy : y < 18446744073709551616) (hv : v + x * y < 340282366920938463463374607431768211456) (W : World) :
    Calls Try.prog 36 #[.agg (wide2 v), .int .u64 (x : Int), .int .u64 (y : Int)] W (RetV W (.agg (wide2 (v + x * y)))) := by
  obtain ⟨h, l, HM, e, hl, hh⟩ := mul_ex x y hx hy
  generalize x * y = p at *
  have v1 : v / 18446744073709551616 < 18446744073709551616 := by omega
  have v0 : v % 18446744073709551616 < 18446744073709551616 := by omega
  have ve : v = v / 18446744073709551616 * 18446744073709551616 + v % 18446744073709551616 := by omega
  obtain ⟨z0, d0, s0, e0, k0⟩ := add_ex l (v % 18446744073709551616) 0 (by omega)
  obtain ⟨z1, d1, s1, e1, k1⟩ := add_ex h (v / 18446744073709551616) d0 (by omega)
  have r1 : (v + p) / 18446744073709551616 = z1 := by omega
  have r0 : (v + p) % 18446744073709551616 = z0 := by omega
  unfold wide2
  rw [r1, r0]
  generalize v / 18446744073709551616 = a1 at *
  generalize v % 18446744073709551616 = a0 at *
  simp only [Int.ofNat_zero] at s0
  clear e hl hh v1 v0 ve e0 e1 k0 k1 r1 r0 hv hx hy
  go_enter Try.func36, Try.ntmps36
  go_wp2_with fail
  with_reducible refine (HM.out _).mono ?_
  rintro e w2 ⟨rfl, h2⟩
  rw [h2]
  clear h2 w2
  go_wp2_with fail
  refine bodyPost_ret (v := .agg #[.int .u64 (z1 : Int), .int .u64 (z0 : Int)]) (by simp [results, Try.results36, go_sem]) rfl ⟨rfl, ?_⟩
  exact ((Below.refl _ _).alloc (Nat.le_refl _) _).alloc (by simp) _

set_option maxHeartbeats 1600000 in
theorem limb_any (v : Nat) (W : World) : Calls Try.prog 41 #[.agg (wide2 v)] W (RetV W (.int .u64 ((v % M51 : Nat) : Int))) := by
  have a0 := and51 (v % 18446744073709551616) (by omega)
  rw [show v % 18446744073709551616 % 2251799813685248 = v % 2251799813685248 by omega] at a0
  unfold wide2 M51
  generalize v / 18446744073709551616 = h at *
  generalize v % 18446744073709551616 = l at *
  generalize v % 2251799813685248 = r at *
  go_enter Try.func41, Try.ntmps41
  go_wp2
  go_ret
  exact ⟨rfl, (Below.refl _ _).alloc (Nat.le_refl _) _⟩

set_option maxHeartbeats 1600000 in
theorem carry_any (v : Nat) (hv : v < 41538374868278621028243970633760768) (W : World) : Calls Try.prog 42 #[.agg (wide2 v)] W (RetV W (.int .u64 ((v / M51 : Nat) : Int))) := by
  have b1 : v / 18446744073709551616 < 2251799813685248 := by omega
  have b0 : v % 18446744073709551616 / 2251799813685248 < 8192 := by omega
  have a0 := or_add13 (v / 18446744073709551616) (v % 18446744073709551616 / 2251799813685248) b0 (by omega)
  rw [show v / 18446744073709551616 * 8192 + v % 18446744073709551616 / 2251799813685248 = v / 2251799813685248 by omega] at a0
  have d0 : ((v % 18446744073709551616 : Nat) : Int) / 2251799813685248 = ((v % 18446744073709551616 / 2251799813685248 : Nat) : Int) := by omega
  have m0 : ((v / 18446744073709551616 : Nat) : Int) * 8192 = ((v / 18446744073709551616 * 8192 : Nat) : Int) := by omega
  have m1 : v / 18446744073709551616 * 8192 < 18446744073709551616 := by omega
  unfold wide2 M51
  generalize v % 18446744073709551616 / 2251799813685248 = q at *
  generalize v / 18446744073709551616 * 8192 = k at *
  generalize v / 18446744073709551616 = h at *
  generalize v % 18446744073709551616 = l at *
  generalize v / 2251799813685248 = r at *
  clear hv
  go_enter Try.func42, Try.ntmps42
  go_wp2
  go_ret
  exact ⟨rfl, (Below.refl _ _).alloc (Nat.le_refl _) _⟩
end Go.Proofs.Ytlhnjdnkjgnooaa

