/- The contracts of bootjackref1.Fall, Sum and Size. -/
import Derived.Test.YtddalnmoahpljaaRec
namespace Go.Proofs.Ytddalnmoahpljaa
open Go.RowKit
set_option linter.unusedVariables false
set_option maxRecDepth 100000

/-- a halving, in two steps as the code has it -/
theorem halve_odd {x : Nat} (h : x % 2 = 1) : halve x = (x / 2) ^^^ 3988292384 := by unfold halve; rw [if_pos h]
theorem halve_even {x : Nat} (h : ¬ x % 2 = 1) : halve x = x / 2 := by unfold halve; rw [if_neg h, Nat.xor_zero]

set_option maxHeartbeats 800000 in
theorem rfall_any (b : UInt8) (w : World) :
    Calls Try.prog 20 #[.int .u8 (b.toNat : Int)] w fun e w' => e = .returned (.int .u32 (fallN b.toNat : Nat)) ∧ w' = w := by
  have hb := b.toNat_lt
  generalize b.toNat = n at *
  go_enter Try.func20, Try.ntmps20
  go_wp2
  go_loop [3, 4] (fun x i => ∃ k X : Nat, k ≤ 8 ∧ i = .int .i64 k ∧ X = halves k n ∧ x = .int .u32 (X : Int)) (fun _ i => 8 - (intOf i).toNat)
  case atStart => exact ⟨0, n, by omega, rfl, rfl, by go_num⟩
  case round =>
    obtain ⟨k, X, hk, rfl, hX, rfl⟩ := hrel
    have hXl : X < 4294967296 := by rw [hX]; exact halves_lt k (by omega)
    by_cases hlt : k < 8
    · have hs : Hid (halve X = halves (k + 1) n) := Lib.hid (by rw [hX]; rfl)
      clear hX
      by_cases ho : X % 2 = 1
      · have hx : bits .xor .u32 ((X : Int) / 2) 3988292384 = ((X / 2 ^^^ 3988292384 : Nat) : Int) := by
          have := u32_xor_nat (X / 2) 3988292384 (by omega) (by omega)
          simpa using this
        have hd : ((X : Int) % 2 == 1) = true := by simp; omega
        go_wp2
        go_round
        case rel => exact ⟨k + 1, X / 2 ^^^ 3988292384, by omega, by go_num, by rw [← hs.out, halve_odd ho], by go_num⟩
        case measure => simp [intOf]; omega
      · have hd : ((X : Int) % 2 == 1) = false := by simp; omega
        go_wp2
        go_round
        case rel => exact ⟨k + 1, X / 2, by omega, by go_num, by rw [← hs.out, halve_even ho], by go_num⟩
        case measure => simp [intOf]; omega
    · obtain rfl : k = 8 := by omega
      go_wp2
      go_ret
      exact ⟨rfl, rfl⟩

set_option maxHeartbeats 800000 in
theorem rsum_any (A : Option Addr) (l : List UInt8) (c : Nat) (w : World) (h : Bs w A l) (hl : l.length ≤ 2147483648) :
    Calls Try.prog 18 #[.slice A l.length c] w fun e w' => e = .returned (.int .u32 (crc l : Nat)) ∧ ∃ n, w' = w.drewN n := by
  go_enter Try.func18, Try.ntmps18
  go_wp2
  go_loopw [3, 4] (fun x i wr => ∃ k X nd : Nat, k ≤ l.length ∧ i = .int .i64 k ∧ X = crcRun 4294967295 (l.take k) ∧ x = .int .u32 (X : Int) ∧ wr = w.drewN nd) (fun _ i _ => l.length - (intOf i).toNat)
  case atStart => exact ⟨0, 4294967295, 0, by omega, rfl, by simp [crcRun], rfl, rfl⟩
  case round =>
    obtain ⟨k, X, nd, hk, rfl, hX, rfl, rfl⟩ := hrel
    have hXl : X < 4294967296 := by rw [hX]; exact crcRun_lt _ (by omega)
    by_cases hlt : k < l.length
    · obtain ⟨bb, oo, rfl, hc⟩ := h.at_ hlt
      obtain ⟨y, hy⟩ : ∃ y, l.getD k 0 = y := ⟨_, rfl⟩
      rw [hy] at hc
      have hs : Hid (crcStep X y = crcRun 4294967295 (l.take (k + 1))) := Lib.hid (by
        rw [hX, List.take_succ_eq_append_getElem hlt, crcRun_append]
        have : l[k] = y := by rw [← hy]; simp [List.getD, hlt]
        rw [this]; rfl)
      clear hX hy
      have hyl := y.toNat_lt
      obtain ⟨z, hz⟩ : ∃ z : UInt8, z.toNat = X % 256 ^^^ y.toNat := ⟨UInt8.ofNat (X % 256 ^^^ y.toNat), by
        have : X % 256 ^^^ y.toNat < 256 := Nat.xor_lt_two_pow (n := 8) (by omega) hyl
        simp⟩
      have hx32 : bits .xor .u32 ((X : Int) / 256) ((fallN z.toNat : Nat) : Int) = ((crcStep X y : Nat) : Int) := by
        have := u32_xor_nat (X / 256) (fallN z.toNat) (by omega) (fallN_lt z.toNat_lt)
        unfold crcStep
        rw [← hz]
        simpa using this
      have Cf : Hid (∀ W : World, Calls Try.prog 20 #[.int .u8 (z.toNat : Int)] W fun e w' => e = .returned (.int .u32 (fallN z.toNat : Nat)) ∧ w' = W) := Lib.hid (fun W => rfall_any z W)
      have hzl := fallN_lt z.toNat_lt
      generalize fallN z.toNat = F at hx32 hzl Cf
      have hx8 : bits .xor .u8 ((X : Int) % 256) (y.toNat : Int) = (z.toNat : Int) := by
        rw [hz]
        have := u8_xor_nat (X % 256) y.toNat (by omega) hyl
        simpa using this
      clear hz
      go_wp2_with fail
      refine (Cf.out _).mono ?_
      rintro e w' ⟨rfl, rfl⟩
      go_wp2_with fail
      go_roundw
      case rel => exact ⟨k + 1, _, _, by omega, by go_num, hs.out, rfl, by first | rfl | exact World.drewN_drewN _ _ _⟩
      case measure => simp [intOf]; omega
    · obtain rfl : k = l.length := by omega
      have he : crc l = 4294967295 - X := by rw [hX, List.take_length]; rfl
      have hx : bits .xor .u32 IntKind.u32.max (X : Int) = ((crc l : Nat) : Int) := by
        rw [he, comp_xor hXl, show IntKind.u32.max = 4294967295 by decide]
        exact u32_xor_nat 4294967295 X (by omega) hXl
      clear he hX
      go_wp2
      go_ret
      exact ⟨rfl, nd, rfl⟩

/-- Size, over whatever number -/
def sizeI (n : Int) : Int := if n < 0 ∨ 512 < n then 0 else (sizeR n.toNat : Nat)

set_option maxHeartbeats 800000 in
theorem rsize_any (n : Int) (w : World) (hn1 : -9223372036854775808 ≤ n) (hn2 : n ≤ 9223372036854775807) :
    Calls Try.prog 16 #[.int .i64 n] w fun e w' => e = .returned (.int .i64 (sizeI n)) ∧ w' = w := by
  by_cases h : n < 0 ∨ 512 < n
  · have e : sizeI n = 0 := if_pos h
    rw [e]
    by_cases h1 : n < 0
    · clear h e
      go_enter Try.func16, Try.ntmps16
      go_wp2
      go_ret
      exact ⟨rfl, rfl⟩
    · have h2 : 512 < n := by omega
      clear h e
      go_enter Try.func16, Try.ntmps16
      go_wp2
      go_ret
      exact ⟨rfl, rfl⟩
  · have h1 : ¬ n < 0 := by omega
    have h2 : ¬ 512 < n := by omega
    have e : (n + 8 - 1) / 8 * 8 + 16 = sizeI n := by
      unfold sizeI
      rw [if_neg h]
      unfold sizeR
      omega
    have e' : (n + 7) / 8 * 8 + 16 = sizeI n := by rw [← e]; omega
    clear h
    generalize sizeI n = s at *
    go_enter Try.func16, Try.ntmps16
    go_wp2
    go_ret
    exact ⟨by first | rfl | (congr 2; omega) | go_num, rfl⟩
end Go.Proofs.Ytddalnmoahpljaa

