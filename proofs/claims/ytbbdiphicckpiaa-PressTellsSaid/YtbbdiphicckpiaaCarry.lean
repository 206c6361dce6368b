/- math/bits: Mul64, Add64, Sub64, each with its answer under names; then roots.times and roots.atMost. -/
import Derived.Test.YtbbdiphicckpiaaGbase
import Derived.Test.YtbbdiphicckpiaaUs
import Derived.Shelf.Bits.Mul64
import Derived.Shelf.Spec.BitsCarry
namespace Go.Proofs.Ytbbdiphicckpiaa
open Go.RowKit
set_option linter.unusedVariables false
set_option maxRecDepth 100000

set_option maxHeartbeats 1600000 in
theorem mul_any (x y : Nat) (hx : x < 18446744073709551616) (hy : y < 18446744073709551616) (w : World) :
    Calls Try.prog 37 #[.int .u64 x, .int .u64 y] w fun e w' => e = .returned (.tuple #[.int .u64 ((x * y / 18446744073709551616 : Nat) : Int), .int .u64 ((x * y % 18446744073709551616 : Nat) : Int)]) ∧ w' = w := by
  obtain ⟨bd, bt, bw, hhi⟩ := Lib.mul64_hi x y hx hy
  have ba := Lib.half_mul_le (a := x / 4294967296) (b := y / 4294967296) (by omega) (by omega)
  have bb := Lib.half_mul_le (a := x / 4294967296) (b := y % 4294967296) (by omega) (by omega)
  have bc := Lib.half_mul_le (a := x % 4294967296) (b := y / 4294967296) (by omega) (by omega)
  have ba' : x / 4294967296 * (y / 4294967296) < 18446744073709551616 := by omega
  have bb' : x / 4294967296 * (y % 4294967296) < 18446744073709551616 := by omega
  have bc' : x % 4294967296 * (y / 4294967296) < 18446744073709551616 := by omega
  have bh1 : x / 4294967296 * (y / 4294967296) + (x / 4294967296 * (y % 4294967296) + x % 4294967296 * (y % 4294967296) / 4294967296) / 4294967296 < 18446744073709551616 := by omega
  have bh : x / 4294967296 * (y / 4294967296) + (x / 4294967296 * (y % 4294967296) + x % 4294967296 * (y % 4294967296) / 4294967296) / 4294967296 + ((x / 4294967296 * (y % 4294967296) + x % 4294967296 * (y % 4294967296) / 4294967296) % 4294967296 + x % 4294967296 * (y / 4294967296)) / 4294967296 < 18446744073709551616 := by omega
  go_enter Try.func37, Try.ntmps37
  go_wp2
  simp only [Mul64.maskN x hx, Mul64.maskN y hy, Mul64.divN, Mul64.mulN, Mul64.addN, Mul64.wrapN _ bd, Mul64.wrapN _ bb', Mul64.wrapN _ bt, Mul64.maskN _ bt, Mul64.wrapN _ bc', Mul64.wrapN _ bw, Mul64.wrapN _ ba', Mul64.wrapN _ bh1, Mul64.wrapN _ bh, Mul64.wrapM (x * y)]
  rw [hhi]
  go_ret2
  exact ⟨rfl, rfl⟩

theorem mul_ex (x y : Nat) (hx : x < 18446744073709551616) (hy : y < 18446744073709551616) : ∃ h l : Nat,
    Hid (∀ w : World, Calls Try.prog 37 #[.int .u64 (x : Int), .int .u64 (y : Int)] w fun e w' => e = .returned (.tuple #[.int .u64 (h : Int), .int .u64 (l : Int)]) ∧ w' = w) ∧
    h * 18446744073709551616 + l = x * y ∧ l < 18446744073709551616 ∧ h < 18446744073709551616 := by
  have hxy : x * y ≤ 18446744073709551615 * 18446744073709551615 := Nat.mul_le_mul (by omega) (by omega)
  exact ⟨_, _, Lib.hid (mul_any x y hx hy), by omega, by omega, by omega⟩

theorem add_ex (x y c : Nat) (hc : c ≤ 1) : ∃ z d : Nat,
    (∀ w : World, (callFunc 38 #[.int .u64 (x : Int), .int .u64 (y : Int), .int .u64 (c : Int)]).run Try.prog w = .ok (.value (.tuple #[.int .u64 (z : Int), .int .u64 (d : Int)])) w) ∧
    z + d * 18446744073709551616 = x + y + c ∧ z < 18446744073709551616 := by
  refine ⟨(x + y + c) % 18446744073709551616, (x + y + c) / 18446744073709551616, fun w => ?_, by omega, by omega⟩
  rw [run_callFunc_extern Try.func38 (by kernel_rfl) (by kernel_rfl) (by kernel_rfl) (e := add64Entry) (by kernel_rfl), run_add64 x y c (by omega) (by omega) (by omega) (by omega)]
  simp only [Result.andThen]
  congr 5 <;> omega

theorem sub_ex (x y b : Nat) (hx : x < 18446744073709551616) (hy : y < 18446744073709551616) (hb : b ≤ 1) : ∃ z d : Nat,
    (∀ w : World, (callFunc 39 #[.int .u64 (x : Int), .int .u64 (y : Int), .int .u64 (b : Int)]).run Try.prog w = .ok (.value (.tuple #[.int .u64 (z : Int), .int .u64 (d : Int)])) w) ∧
    z + y + b = x + d * 18446744073709551616 ∧ z < 18446744073709551616 ∧ d ≤ 1 := by
  refine ⟨(x + 18446744073709551616 - y - b) % 18446744073709551616, if x < y + b then 1 else 0, fun w => ?_, by split <;> omega, by omega, by split <;> omega⟩
  rw [run_callFunc_extern Try.func39 (by kernel_rfl) (by kernel_rfl) (by kernel_rfl) (e := sub64Entry) (by kernel_rfl), run_sub64 x y b hb]
  rfl

/-- four words, the lowest first -/
def val4 (a b c d : Nat) : Nat := a + b * 18446744073709551616 + c * 340282366920938463463374607431768211456 + d * 6277101735386680763835789423207666416102355444464034512896

set_option maxHeartbeats 3200000 in
theorem atMost_any (a0 a1 a2 a3 b0 b1 b2 b3 : Nat) (ha0 : a0 < 18446744073709551616) (ha1 : a1 < 18446744073709551616) (ha2 : a2 < 18446744073709551616) (ha3 : a3 < 18446744073709551616)
    (hb0 : b0 < 18446744073709551616) (hb1 : b1 < 18446744073709551616) (hb2 : b2 < 18446744073709551616) (hb3 : b3 < 18446744073709551616) (w : World) :
    Calls Try.prog 36 #[.agg #[.int .u64 (a0 : Int), .int .u64 (a1 : Int), .int .u64 (a2 : Int), .int .u64 (a3 : Int)], .agg #[.int .u64 (b0 : Int), .int .u64 (b1 : Int), .int .u64 (b2 : Int), .int .u64 (b3 : Int)]] w fun e w' =>
      e = .returned (.bool (decide (val4 a0 a1 a2 a3 ≤ val4 b0 b1 b2 b3))) ∧ Below w.heap.size w w' := by
  obtain ⟨z0, d0, s0, e0, l0, k0⟩ := sub_ex b0 a0 0 hb0 ha0 (by omega)
  obtain ⟨z1, d1, s1, e1, l1, k1⟩ := sub_ex b1 a1 d0 hb1 ha1 k0
  obtain ⟨z2, d2, s2, e2, l2, k2⟩ := sub_ex b2 a2 d1 hb2 ha2 k1
  obtain ⟨z3, d3, s3, e3, l3, k3⟩ := sub_ex b3 a3 d2 hb3 ha3 k2
  have hd : Hid (decide (val4 a0 a1 a2 a3 ≤ val4 b0 b1 b2 b3) = ((d3 : Int) == 0)) := Lib.hid (by
    have hE : val4 z0 z1 z2 z3 + val4 a0 a1 a2 a3 = val4 b0 b1 b2 b3 + d3 * 115792089237316195423570985008687907853269984665640564039457584007913129639936 := by unfold val4; omega
    have hz : val4 z0 z1 z2 z3 < 115792089237316195423570985008687907853269984665640564039457584007913129639936 := by unfold val4; omega
    have hd3 : d3 = 0 ∨ d3 = 1 := by omega
    rcases hd3 with rfl | rfl
    · rw [decide_eq_true (by omega)]; rfl
    · rw [decide_eq_false (by omega)]; rfl)
  rw [hd.out]
  clear e0 e1 e2 e3 l0 l1 l2 l3 k0 k1 k2 k3 hd ha0 ha1 ha2 ha3 hb0 hb1 hb2 hb3
  simp only [Int.ofNat_zero] at s0
  go_enter Try.func36, Try.ntmps36
  go_wp2
  go_ret
  exact ⟨rfl, ((Below.refl _ _).alloc (Nat.le_refl _) _).alloc (by simp) _⟩
end Go.Proofs.Ytbbdiphicckpiaa

