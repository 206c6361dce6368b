/- The contracts of the reference's Rotr, Ch, Maj. -/
import Derived.Test.YtbbdiphicckpiaaGbase
import Derived.Test.YtbbdiphicckpiaaPress
namespace Go.Proofs.Ytbbdiphicckpiaa
open Go.RowKit
set_option linter.unusedVariables false
set_option maxRecDepth 100000

/-- the value of a word -/
def wv (x : W64) : Value := .int .u64 (x.toNat : Int)

theorem xor_w (x y : W64) : bits .xor .u64 (x.toNat : Int) (y.toNat : Int) = ((x ^^^ y).toNat : Int) := by
  rw [u64_xor_nat _ _ x.isLt y.isLt, BitVec.toNat_xor]
theorem and_w (x y : W64) : bits .and .u64 (x.toNat : Int) (y.toNat : Int) = ((x &&& y).toNat : Int) := by
  rw [u64_and_nat _ _ x.isLt y.isLt, BitVec.toNat_and]
theorem or_w (x y : W64) : bits .or .u64 (x.toNat : Int) (y.toNat : Int) = ((x ||| y).toNat : Int) := by
  rw [u64_or_nat _ _ x.isLt y.isLt, BitVec.toNat_or]
theorem add_w (x y : W64) : IntKind.u64.wrap ((x.toNat : Int) + (y.toNat : Int)) = ((x + y).toNat : Int) := by
  rw [BitVec.toNat_add, IntKind.wrap_u64]; omega
theorem shr_w (x : W64) (n : Nat) : (x.toNat : Int) / 2 ^ n = ((x >>> n).toNat : Int) := by
  rw [BitVec.toNat_ushiftRight, Nat.shiftRight_eq_div_pow]; simp
theorem shl_w (x : W64) (n : Nat) : IntKind.u64.wrap ((x.toNat : Int) * 2 ^ n) = ((x <<< n).toNat : Int) := by
  rw [BitVec.toNat_shiftLeft, Nat.shiftLeft_eq, IntKind.wrap_u64]; simp

theorem tmod64 (n : Int) : ∃ m : Nat, n.tmod 64 + 64 = (m : Int) ∧ (m : Int) % 64 = n % 64 ∧ m < 128 := by
  rcases Int.le_total 0 n with h | h
  · rw [Int.tmod_eq_emod_of_nonneg h]
    exact ⟨(n % 64 + 64).toNat, by omega, by omega, by omega⟩
  · obtain ⟨k, rfl⟩ : ∃ k, n = -k := ⟨-n, by omega⟩
    rw [Int.neg_tmod, Int.tmod_eq_emod_of_nonneg (by omega)]
    exact ⟨(-(k % 64) + 64).toNat, by omega, by omega, by omega⟩

set_option maxHeartbeats 800000 in
theorem rrotr_any (x : W64) (n : Int) (h1 : -9223372036854775808 ≤ n) (h2 : n ≤ 9223372036854775807) (w : World) :
    Calls Try.prog 14 #[.int .u64 (x.toNat : Int), .int .i64 n] w fun e w' => e = .returned (.int .u64 ((rot x n).toNat : Int)) ∧ w = w' := by
  obtain ⟨r, hr⟩ : ∃ r : Nat, n % 64 = (r : Int) := ⟨(n % 64).toNat, by omega⟩
  have hrl : r < 64 := by omega
  obtain ⟨m, hm, hm2, hm3⟩ := tmod64 n
  have t1 : wrap64 (n.tmod 64 + 64) = (m : Int) := by rw [hm]; unfold wrap64; omega
  have t2 : (m : Int).tmod 64 = (r : Int) := by rw [Int.tmod_eq_emod_of_nonneg (by omega)]; omega
  have t2' : (m : Int) % 64 = (r : Int) := by omega
  have t3 : IntKind.u64.wrap (r : Int) = (r : Int) := by rw [IntKind.wrap_u64]; omega
  by_cases h0 : r = 0
  · subst h0
    rw [rot_zero x hr]
    have t4 : IntKind.u64.wrap 0 = 0 := by decide
    simp only [Int.ofNat_zero] at t2 t2'
    clear t3 hm hm2 hm3 hr hrl
    go_enter Try.func14, Try.ntmps14
    go_wp2
    go_ret
    exact ⟨rfl, rfl⟩
  · obtain ⟨s, hs⟩ : ∃ s, 64 - r = s := ⟨_, rfl⟩
    have t5 : (64 : Int) - (r : Int) = (s : Int) := by omega
    have t6 : IntKind.u64.wrap (s : Int) = (s : Int) := by rw [IntKind.wrap_u64]; omega
    have t7 := shr_w x r
    have t8 := shl_w x s
    have t9 := or_w (x >>> r) (x <<< s)
    have h0' : ¬ (r : Int) = 0 := by omega
    rw [rot_shifts x n hr, hs]
    generalize (x >>> r ||| x <<< s).toNat = v at *
    generalize (x >>> r).toNat = y at *
    generalize (x <<< s).toNat = z at *
    have hX := x.isLt
    generalize x.toNat = X at *
    have hsl : s < 64 := by omega
    clear hm hm2 hm3 hr hs
    go_enter Try.func14, Try.ntmps14
    go_wp2
    go_ret
    exact ⟨rfl, rfl⟩
/-- a word's bit, as a number -/
theorem bit_nat (x : W64) (k : Nat) : x.toNat / 2 ^ k % 2 = if x.getLsbD k then 1 else 0 := by
  rw [BitVec.getLsbD, Nat.testBit_eq_decide_div_mod_eq]
  have := Nat.mod_lt (x.toNat / 2 ^ k) (show 0 < 2 by omega)
  split
  · rename_i h; simpa using h
  · rename_i h; have h2 : ¬ x.toNat / 2 ^ k % 2 = 1 := by simpa using h
    omega
theorem and1_u64 (q : Nat) (h : q < 18446744073709551616) : bits .and .u64 (q : Int) 1 = ((q % 2 : Nat) : Int) := by
  have := u64_and_nat q 1 h (by omega)
  rwa [Nat.and_one_is_mod] at this
theorem low_step (C k : Nat) : C % 2 ^ (k + 1) = C % 2 ^ k + C / 2 ^ k % 2 * 2 ^ k := by
  rw [Nat.pow_succ, Nat.mod_mul, Nat.mul_comm (2 ^ k)]
theorem low_or (C k b : Nat) : C % 2 ^ k ||| b * 2 ^ k = C % 2 ^ k + b * 2 ^ k := by
  have h := Nat.mod_lt C (Nat.two_pow_pos k)
  rw [Nat.mul_comm b, Nat.or_comm, ← Nat.two_pow_add_eq_or_of_lt h, Nat.add_comm]

set_option maxHeartbeats 1600000 in
theorem rch_any (x y z : W64) (w : World) :
    Calls Try.prog 16 #[.int .u64 (x.toNat : Int), .int .u64 (y.toNat : Int), .int .u64 (z.toNat : Int)] w fun e w' => e = .returned (.int .u64 ((chW x y z).toNat : Int)) ∧ w = w' := by
  obtain ⟨C, hC⟩ : ∃ C, (chW x y z).toNat = C := ⟨_, rfl⟩
  have hb : ∀ k, k < 64 → C / 2 ^ k % 2 = if x.toNat / 2 ^ k % 2 = 1 then y.toNat / 2 ^ k % 2 else z.toNat / 2 ^ k % 2 := fun k hk => by
    rw [← hC, bit_nat, ch_bit _ _ _ _ hk, bit_nat, bit_nat, bit_nat]
    cases x.getLsbD k <;> simp
  have hCl : C < 2 ^ 64 := by rw [← hC]; exact (chW x y z).isLt
  have hX := x.isLt
  have hY := y.isLt
  have hZ := z.isLt
  rw [hC]
  clear hC
  generalize x.toNat = X at *
  generalize y.toNat = Y at *
  generalize z.toNat = Z at *
  have HB := Lib.hid hb
  have HC := Lib.hid hCl
  have e64 : (2 : Nat) ^ 64 = 18446744073709551616 := by decide
  rw [e64] at hX hY hZ
  clear hb hCl e64
  go_enter Try.func16, Try.ntmps16
  go_wp2
  go_loop [7, 8] (fun o i => ∃ k : Nat, k ≤ 64 ∧ i = .int .u64 (k : Int) ∧ o = .int .u64 ((C % 2 ^ k : Nat) : Int)) (fun _ i => 64 - (intOf i).toNat)
  case atStart => exact ⟨0, by omega, rfl, by simp⟩
  case round =>
    obtain ⟨k, hk, rfl, rfl⟩ := hrel
    by_cases hlt : k < 64
    · obtain ⟨zq, hzq⟩ : ∃ q, Z / 2 ^ k = q := ⟨_, rfl⟩
      obtain ⟨xq, hxq⟩ : ∃ q, X / 2 ^ k = q := ⟨_, rfl⟩
      obtain ⟨yq, hyq⟩ : ∃ q, Y / 2 ^ k = q := ⟨_, rfl⟩
      have lz : zq ≤ Z := by rw [← hzq]; exact Nat.div_le_self _ _
      have lx : xq ≤ X := by rw [← hxq]; exact Nat.div_le_self _ _
      have ly : yq ≤ Y := by rw [← hyq]; exact Nat.div_le_self _ _
      have z1 : (Z : Int) / 2 ^ k = (zq : Int) := by rw [← hzq]; simp
      have x1 : (X : Int) / 2 ^ k = (xq : Int) := by rw [← hxq]; simp
      have y1 : (Y : Int) / 2 ^ k = (yq : Int) := by rw [← hyq]; simp
      have z2 := and1_u64 zq (by omega)
      have x2 := and1_u64 xq (by omega)
      have y2 := and1_u64 yq (by omega)
      have hs := HB.out k hlt
      have hl := low_step C k
      have hor := low_or C k (C / 2 ^ k % 2)
      have hpl : 2 ^ k ≤ 9223372036854775808 := by
        have : 2 ^ k ≤ 2 ^ 63 := Nat.pow_le_pow_right (by omega) (by omega)
        have e : (2 : Nat) ^ 63 = 9223372036854775808 := by decide
        omega
      have ho2 : C % 2 ^ (k + 1) < 18446744073709551616 := by
        have : 2 ^ (k + 1) ≤ 2 ^ 64 := Nat.pow_le_pow_right (by omega) (by omega)
        have := Nat.mod_lt C (Nat.two_pow_pos (k + 1))
        have e : (2 : Nat) ^ 64 = 18446744073709551616 := by decide
        omega
      rw [hxq, hyq, hzq] at hs
      obtain ⟨b, hbb⟩ : ∃ b, C / 2 ^ k % 2 = b := ⟨_, rfl⟩
      have hb2 : b < 2 := by rw [← hbb]; exact Nat.mod_lt _ (by omega)
      rw [hbb] at hs hl hor
      obtain ⟨s, hss⟩ : ∃ s, b * 2 ^ k = s := ⟨_, rfl⟩
      obtain ⟨O, hO⟩ : ∃ O, C % 2 ^ k = O := ⟨_, rfl⟩
      obtain ⟨O2, hO2⟩ : ∃ O, C % 2 ^ (k + 1) = O := ⟨_, rfl⟩
      rw [hss, hO] at hor hl
      rw [hO2] at hl ho2
      have hsl : s ≤ 9223372036854775808 := by
        rw [← hss]
        have : b * 2 ^ k ≤ 1 * 2 ^ k := Nat.mul_le_mul_right _ (by omega)
        omega
      have s1 : IntKind.u64.wrap ((b : Int) * 2 ^ k) = (s : Int) := by
        have e : (b : Int) * 2 ^ k = ((b * 2 ^ k : Nat) : Int) := by simp
        rw [e, hss, IntKind.wrap_u64]; omega
      have o1 : bits .or .u64 (O : Int) (s : Int) = (O2 : Int) := by
        rw [u64_or_nat O s (by omega) (by omega), hor, ← hl]
      rw [hO]
      have HO2 := Lib.hid hO2
      by_cases hx1 : xq % 2 = 1
      · rw [if_pos hx1] at hs
        rw [hx1] at x2
        rw [← hs] at y2
        clear hzq hxq hyq lz lx ly hl hor hpl ho2 hbb hb2 hss hO hO2 hsl hs hx1
        go_wp2_with fail
        go_round
        case rel => exact ⟨k + 1, by omega, by go_num, by rw [HO2.out]⟩
        case measure => simp [intOf]; omega
      · rw [if_neg hx1] at hs
        have hx0 : xq % 2 = 0 := by omega
        rw [hx0] at x2
        rw [← hs] at z2
        clear hzq hxq hyq lz lx ly hl hor hpl ho2 hbb hb2 hss hO hO2 hsl hs hx1 hx0
        go_wp2_with fail
        go_round
        case rel => exact ⟨k + 1, by omega, by go_num, by rw [HO2.out]⟩
        case measure => simp [intOf]; omega
    · obtain rfl : k = 64 := by omega
      have hm : C % 2 ^ 64 = C := Nat.mod_eq_of_lt HC.out
      rw [hm]
      go_wp2
      go_ret
      exact ⟨rfl, rfl⟩
set_option maxHeartbeats 1600000 in
theorem rmaj_any (x y z : W64) (w : World) :
    Calls Try.prog 18 #[.int .u64 (x.toNat : Int), .int .u64 (y.toNat : Int), .int .u64 (z.toNat : Int)] w fun e w' => e = .returned (.int .u64 ((majW x y z).toNat : Int)) ∧ w = w' := by
  obtain ⟨C, hC⟩ : ∃ C, (majW x y z).toNat = C := ⟨_, rfl⟩
  have hb : ∀ k, k < 64 → C / 2 ^ k % 2 = if 2 ≤ x.toNat / 2 ^ k % 2 + y.toNat / 2 ^ k % 2 + z.toNat / 2 ^ k % 2 then 1 else 0 := fun k hk => by
    rw [← hC, bit_nat, maj_bit, bit_nat, bit_nat, bit_nat]
    cases x.getLsbD k <;> cases y.getLsbD k <;> cases z.getLsbD k <;> simp
  have hCl : C < 2 ^ 64 := by rw [← hC]; exact (majW x y z).isLt
  have hX := x.isLt
  have hY := y.isLt
  have hZ := z.isLt
  rw [hC]
  clear hC
  generalize x.toNat = X at *
  generalize y.toNat = Y at *
  generalize z.toNat = Z at *
  have HB := Lib.hid hb
  have HC := Lib.hid hCl
  have e64 : (2 : Nat) ^ 64 = 18446744073709551616 := by decide
  rw [e64] at hX hY hZ
  clear hb hCl e64
  go_enter Try.func18, Try.ntmps18
  go_wp2
  go_loop [7, 8] (fun o i => ∃ k : Nat, k ≤ 64 ∧ i = .int .u64 (k : Int) ∧ o = .int .u64 ((C % 2 ^ k : Nat) : Int)) (fun _ i => 64 - (intOf i).toNat)
  case atStart => exact ⟨0, by omega, rfl, by simp⟩
  case round =>
    obtain ⟨k, hk, rfl, rfl⟩ := hrel
    by_cases hlt : k < 64
    · obtain ⟨zq, hzq⟩ : ∃ q, Z / 2 ^ k = q := ⟨_, rfl⟩
      obtain ⟨xq, hxq⟩ : ∃ q, X / 2 ^ k = q := ⟨_, rfl⟩
      obtain ⟨yq, hyq⟩ : ∃ q, Y / 2 ^ k = q := ⟨_, rfl⟩
      have lz : zq ≤ Z := by rw [← hzq]; exact Nat.div_le_self _ _
      have lx : xq ≤ X := by rw [← hxq]; exact Nat.div_le_self _ _
      have ly : yq ≤ Y := by rw [← hyq]; exact Nat.div_le_self _ _
      have z1 : (Z : Int) / 2 ^ k = (zq : Int) := by rw [← hzq]; simp
      have x1 : (X : Int) / 2 ^ k = (xq : Int) := by rw [← hxq]; simp
      have y1 : (Y : Int) / 2 ^ k = (yq : Int) := by rw [← hyq]; simp
      have z2 := and1_u64 zq (by omega)
      have x2 := and1_u64 xq (by omega)
      have y2 := and1_u64 yq (by omega)
      have hs := HB.out k hlt
      have hl := low_step C k
      have hor := low_or C k (C / 2 ^ k % 2)
      have hpl : 2 ^ k ≤ 9223372036854775808 := by
        have : 2 ^ k ≤ 2 ^ 63 := Nat.pow_le_pow_right (by omega) (by omega)
        have e : (2 : Nat) ^ 63 = 9223372036854775808 := by decide
        omega
      have ho2 : C % 2 ^ (k + 1) < 18446744073709551616 := by
        have : 2 ^ (k + 1) ≤ 2 ^ 64 := Nat.pow_le_pow_right (by omega) (by omega)
        have := Nat.mod_lt C (Nat.two_pow_pos (k + 1))
        have e : (2 : Nat) ^ 64 = 18446744073709551616 := by decide
        omega
      rw [hxq, hyq, hzq] at hs
      obtain ⟨b, hbb⟩ : ∃ b, C / 2 ^ k % 2 = b := ⟨_, rfl⟩
      have hb2 : b < 2 := by rw [← hbb]; exact Nat.mod_lt _ (by omega)
      rw [hbb] at hs hl hor
      obtain ⟨s, hss⟩ : ∃ s, b * 2 ^ k = s := ⟨_, rfl⟩
      obtain ⟨O, hO⟩ : ∃ O, C % 2 ^ k = O := ⟨_, rfl⟩
      obtain ⟨O2, hO2⟩ : ∃ O, C % 2 ^ (k + 1) = O := ⟨_, rfl⟩
      rw [hss, hO] at hor hl
      rw [hO2] at hl ho2
      have hsl : s ≤ 9223372036854775808 := by
        rw [← hss]
        have : b * 2 ^ k ≤ 1 * 2 ^ k := Nat.mul_le_mul_right _ (by omega)
        omega
      have s1 : IntKind.u64.wrap ((b : Int) * 2 ^ k) = (s : Int) := by
        have e : (b : Int) * 2 ^ k = ((b * 2 ^ k : Nat) : Int) := by simp
        rw [e, hss, IntKind.wrap_u64]; omega
      have o1 : bits .or .u64 (O : Int) (s : Int) = (O2 : Int) := by
        rw [u64_or_nat O s (by omega) (by omega), hor, ← hl]
      rw [hO]
      have HO2 := Lib.hid hO2
      obtain ⟨xb, hxb⟩ : ∃ b, xq % 2 = b := ⟨_, rfl⟩
      obtain ⟨yb, hyb⟩ : ∃ b, yq % 2 = b := ⟨_, rfl⟩
      obtain ⟨zb, hzb⟩ : ∃ b, zq % 2 = b := ⟨_, rfl⟩
      have kx : xb < 2 := by rw [← hxb]; exact Nat.mod_lt _ (by omega)
      have ky : yb < 2 := by rw [← hyb]; exact Nat.mod_lt _ (by omega)
      have kz : zb < 2 := by rw [← hzb]; exact Nat.mod_lt _ (by omega)
      rw [hxb] at x2
      rw [hyb] at y2
      rw [hzb] at z2
      rw [hxb, hyb, hzb] at hs
      by_cases h2 : 2 ≤ xb + yb + zb
      · rw [if_pos h2] at hs
        have s2 : IntKind.u64.wrap (2 ^ k) = (s : Int) := by rw [← s1, hs]; simp
        have h2' : (2 : Int) ≤ (xb : Int) + (yb : Int) + (zb : Int) := by omega
        clear hzq hxq hyq lz lx ly hl hor hpl ho2 hbb hb2 hss hO hO2 hsl hs s1 hxb hyb hzb h2
        go_wp2_with fail
        go_round
        case rel => exact ⟨k + 1, by omega, by go_num, by rw [HO2.out]⟩
        case measure => simp [intOf]; omega
      · rw [if_neg h2] at hs
        have h2' : ¬ (2 : Int) ≤ (xb : Int) + (yb : Int) + (zb : Int) := by omega
        have hOO : O = O2 := by rw [hl, ← hss, hs]; simp
        subst hOO
        clear hzq hxq hyq lz lx ly hl hor hpl ho2 hbb hb2 hss hO hO2 hsl hs s1 o1 hxb hyb hzb h2
        go_wp2_with fail
        go_round
        case rel => exact ⟨k + 1, by omega, by go_num, by rw [HO2.out]⟩
        case measure => simp [intOf]; omega
    · obtain rfl : k = 64 := by omega
      have hm : C % 2 ^ 64 = C := Nat.mod_eq_of_lt HC.out
      rw [hm]
      go_wp2
      go_ret
      exact ⟨rfl, rfl⟩
end Go.Proofs.Ytbbdiphicckpiaa

