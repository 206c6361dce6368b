/- The contracts of the developers' Rotr, Ch, Maj and of the four sums of turns. -/
import Derived.Test.YtbkcglfdliicpaaGpre2
namespace Go.Proofs.Ytbkcglfdliicpaa
open Go.RowKit
set_option linter.unusedVariables false
set_option maxRecDepth 100000

theorem rot_mod (x : W64) {n m : Int} (h : n % 64 = m % 64) : rot x n = rot x m := by unfold rot; rw [h]
theorem and63 (k : Int) : ∃ s : Nat, s < 64 ∧ k % 64 = (s : Int) ∧ bits .and .u64 (IntKind.u64.wrap k) 63 = (s : Int) := by
  obtain ⟨K, hK⟩ : ∃ K : Nat, IntKind.u64.wrap k = (K : Int) := ⟨(IntKind.u64.wrap k).toNat, by rw [IntKind.wrap_u64]; omega⟩
  have hK2 : (K : Int) = k % 18446744073709551616 := by rw [← hK, IntKind.wrap_u64]
  refine ⟨K % 64, Nat.mod_lt _ (by omega), by omega, ?_⟩
  rw [hK]
  have h := u64_and_nat K 63 (by omega) (by omega)
  rw [show (63 : Nat) = 2 ^ 6 - 1 by decide, Nat.and_two_pow_sub_one_eq_mod] at h
  exact h
theorem left_is (x : W64) (k : Int) {s : Nat} (hs : s < 64) (h : k % 64 = (s : Int)) : x <<< s ||| x >>> (64 - s) = rot x (-k) := by
  by_cases h0 : s = 0
  · subst h0
    rw [rot_zero x (n := -k) (by omega)]
    apply w_ext
    intro i hi
    simp
  · rw [rot_shifts x (-k) (r := 64 - s) (by omega), BitVec.or_comm]
    congr 2
    omega

set_option maxHeartbeats 800000 in
theorem rotl_any (x : W64) (k : Int) (w : World) :
    Calls Try.prog 70 #[.int .u64 (x.toNat : Int), .int .i64 k] w fun e w' => e = .returned (.int .u64 ((rot x (-k)).toNat : Int)) ∧ w' = w := by
  obtain ⟨s, hs, hk, ha⟩ := and63 k
  rw [← left_is x k hs hk]
  obtain ⟨r, hr⟩ : ∃ r, 64 - s = r := ⟨_, rfl⟩
  have t5 : (64 : Int) - (s : Int) = (r : Int) := by omega
  have t6 : IntKind.u64.wrap (r : Int) = (r : Int) := by rw [IntKind.wrap_u64]; omega
  have t7 := shr_w x r
  have t8 := shl_w x s
  have t9 := or_w (x <<< s) (x >>> r)
  rw [hr]
  generalize (x <<< s ||| x >>> r).toNat = v at *
  generalize (x >>> r).toNat = y at *
  generalize (x <<< s).toNat = z at *
  have hX := x.isLt
  generalize x.toNat = X at *
  have hrl : r < 65 := by omega
  clear hk hr
  go_enter Try.func70, Try.ntmps70
  go_wp2
  go_ret
  exact ⟨rfl, rfl⟩
set_option maxHeartbeats 800000 in
theorem protr_any (x : W64) (n : Int) (h1 : -9223372036854775808 ≤ n) (h2 : n ≤ 9223372036854775807) (w : World) :
    Calls Try.prog 69 #[.int .u64 (x.toNat : Int), .int .i64 n] w fun e w' => e = .returned (.int .u64 ((rot x n).toNat : Int)) ∧ w' = w := by
  obtain ⟨m, hm⟩ : ∃ m, IntKind.i64.wrap (-n) = m := ⟨_, rfl⟩
  have e : rot x n = rot x (-m) := rot_mod x (by rw [← hm, IntKind.wrap_i64]; omega)
  have H := Lib.hid (fun W => rotl_any x m W)
  rw [e]
  clear e
  generalize (rot x (-m)).toNat = v at *
  generalize x.toNat = X at *
  go_enter Try.func69, Try.ntmps69
  go_wp2_with ((with_reducible refine (H.out _).mono ?_); rintro e w' ⟨rfl, rfl⟩)
  go_ret
  exact ⟨rfl, rfl⟩
set_option maxHeartbeats 800000 in
theorem pch_any (x y z : W64) (w : World) :
    Calls Try.prog 56 #[.int .u64 (x.toNat : Int), .int .u64 (y.toNat : Int), .int .u64 (z.toNat : Int)] w fun e w' => e = .returned (.int .u64 ((chW x y z).toNat : Int)) ∧ w' = w := by
  unfold chW
  have f1 := and_w x y
  have f2 : bits .xor .u64 IntKind.u64.max (x.toNat : Int) = ((~~~x).toNat : Int) := not_w x
  generalize ~~~x = nx at *
  have f3 := and_w nx z
  generalize x &&& y = a at *
  generalize nx &&& z = b at *
  have f4 := or_w a b
  go_enter Try.func56, Try.ntmps56
  go_wp2
  go_ret
  exact ⟨rfl, rfl⟩
set_option maxHeartbeats 800000 in
theorem pmaj_any (x y z : W64) (w : World) :
    Calls Try.prog 58 #[.int .u64 (x.toNat : Int), .int .u64 (y.toNat : Int), .int .u64 (z.toNat : Int)] w fun e w' => e = .returned (.int .u64 ((majW x y z).toNat : Int)) ∧ w' = w := by
  unfold majW
  have f1 := and_w x y
  have f2 := and_w x z
  have f3 := and_w y z
  generalize x &&& y = a at *
  generalize x &&& z = b at *
  generalize y &&& z = c at *
  have f4 := or_w a b
  generalize a ||| b = d at *
  have f5 := or_w d c
  go_enter Try.func58, Try.ntmps58
  go_wp2
  go_ret
  exact ⟨rfl, rfl⟩
/-- the two capital sums -/
def bigE (x : W64) : W64 := rot x 14 ^^^ rot x 18 ^^^ rot x 41
def bigA (x : W64) : W64 := rot x 28 ^^^ rot x 34 ^^^ rot x 39
set_option maxHeartbeats 800000 in
theorem small0_any (x : W64) (w : World) :
    Calls Try.prog 68 #[.int .u64 (x.toNat : Int)] w fun e w' => e = .returned (.int .u64 ((sig0 x).toNat : Int)) ∧ w' = w := by
  unfold sig0
  have R1 := Lib.hid (fun W => protr_any x 1 (by omega) (by omega) W)
  have R2 := Lib.hid (fun W => protr_any x 8 (by omega) (by omega) W)
  have f0 := shr_w x 7
  generalize x >>> 7 = s at *
  generalize rot x 1 = a at *
  generalize rot x 8 = b at *
  have f1 := xor_w a b
  generalize a ^^^ b = c at *
  have f2 := xor_w c s
  have g0 : (x.toNat : Int) / 128 = (s.toNat : Int) := f0
  go_enter Try.func68, Try.ntmps68
  go_wp2_with (first | ((with_reducible refine (R1.out _).mono ?_); rintro e w' ⟨rfl, rfl⟩) | ((with_reducible refine (R2.out _).mono ?_); rintro e w' ⟨rfl, rfl⟩))
  go_ret
  exact ⟨rfl, rfl⟩
set_option maxHeartbeats 800000 in
theorem small1_any (x : W64) (w : World) :
    Calls Try.prog 67 #[.int .u64 (x.toNat : Int)] w fun e w' => e = .returned (.int .u64 ((sig1 x).toNat : Int)) ∧ w' = w := by
  unfold sig1
  have R1 := Lib.hid (fun W => protr_any x 19 (by omega) (by omega) W)
  have R2 := Lib.hid (fun W => protr_any x 61 (by omega) (by omega) W)
  have f0 := shr_w x 6
  generalize x >>> 6 = s at *
  generalize rot x 19 = a at *
  generalize rot x 61 = b at *
  have f1 := xor_w a b
  generalize a ^^^ b = c at *
  have f2 := xor_w c s
  have g0 : (x.toNat : Int) / 64 = (s.toNat : Int) := f0
  go_enter Try.func67, Try.ntmps67
  go_wp2_with (first | ((with_reducible refine (R1.out _).mono ?_); rintro e w' ⟨rfl, rfl⟩) | ((with_reducible refine (R2.out _).mono ?_); rintro e w' ⟨rfl, rfl⟩))
  go_ret
  exact ⟨rfl, rfl⟩
set_option maxHeartbeats 800000 in
theorem big0_any (x : W64) (w : World) :
    Calls Try.prog 57 #[.int .u64 (x.toNat : Int)] w fun e w' => e = .returned (.int .u64 ((bigA x).toNat : Int)) ∧ w' = w := by
  unfold bigA
  have R1 := Lib.hid (fun W => protr_any x 28 (by omega) (by omega) W)
  have R2 := Lib.hid (fun W => protr_any x 34 (by omega) (by omega) W)
  have R3 := Lib.hid (fun W => protr_any x 39 (by omega) (by omega) W)
  generalize rot x 28 = a at *
  generalize rot x 34 = b at *
  generalize rot x 39 = s at *
  have f1 := xor_w a b
  generalize a ^^^ b = c at *
  have f2 := xor_w c s
  go_enter Try.func57, Try.ntmps57
  go_wp2_with (first | ((with_reducible refine (R1.out _).mono ?_); rintro e w' ⟨rfl, rfl⟩) | ((with_reducible refine (R2.out _).mono ?_); rintro e w' ⟨rfl, rfl⟩) | ((with_reducible refine (R3.out _).mono ?_); rintro e w' ⟨rfl, rfl⟩))
  go_ret
  exact ⟨rfl, rfl⟩
set_option maxHeartbeats 800000 in
theorem big1_any (x : W64) (w : World) :
    Calls Try.prog 55 #[.int .u64 (x.toNat : Int)] w fun e w' => e = .returned (.int .u64 ((bigE x).toNat : Int)) ∧ w' = w := by
  unfold bigE
  have R1 := Lib.hid (fun W => protr_any x 14 (by omega) (by omega) W)
  have R2 := Lib.hid (fun W => protr_any x 18 (by omega) (by omega) W)
  have R3 := Lib.hid (fun W => protr_any x 41 (by omega) (by omega) W)
  generalize rot x 14 = a at *
  generalize rot x 18 = b at *
  generalize rot x 41 = s at *
  have f1 := xor_w a b
  generalize a ^^^ b = c at *
  have f2 := xor_w c s
  go_enter Try.func55, Try.ntmps55
  go_wp2_with (first | ((with_reducible refine (R1.out _).mono ?_); rintro e w' ⟨rfl, rfl⟩) | ((with_reducible refine (R2.out _).mono ?_); rintro e w' ⟨rfl, rfl⟩) | ((with_reducible refine (R3.out _).mono ?_); rintro e w' ⟨rfl, rfl⟩))
  go_ret
  exact ⟨rfl, rfl⟩
end Go.Proofs.Ytbkcglfdliicpaa

