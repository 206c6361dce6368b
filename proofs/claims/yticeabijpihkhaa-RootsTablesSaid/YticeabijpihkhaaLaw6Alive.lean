/- Layer 6: the reference's Square and Cube; alive; RootsTell. -/
import Derived.Test.YticeabijpihkhaaRefRoot
namespace Go.Proofs.Yticeabijpihkhaa
open Go.RowKit
set_option linter.unusedVariables false
set_option maxRecDepth 100000

theorem sqv_2 : sqv false 2 = 7640891576956012808 := by
  unfold sqv
  rw [if_pos (by omega), rt_eq false (y := 26087635650665564424) (by omega) (by decide) (by decide)]
theorem cuv_2 : sqv true 2 = 4794697086780616226 := by
  unfold sqv
  rw [if_pos (by omega), rt_eq true (y := 23241441160490167842) (by omega) (by decide) (by decide)]

set_option maxHeartbeats 800000 in
theorem rsquare_any (p : Nat) (hp : p < 18446744073709551616) (w : World) :
    Calls Try.prog 10 #[.int .u64 (p : Int)] w fun e w' => e = .returned (.int .u64 ((sqv false p : Nat) : Int)) ∧ Below w.heap.size w w' := by
  have HC := Lib.hid (root2_any p hp w)
  generalize sqv false p = v at *
  go_enter Try.func10, Try.ntmps10
  go_wp2_with fail
  with_reducible refine HC.out.mono ?_
  rintro e w1 ⟨rfl, hb⟩
  go_wp2_with fail
  go_ret
  exact ⟨rfl, hb⟩
set_option maxHeartbeats 800000 in
theorem rcube_any (p : Nat) (hp : p < 18446744073709551616) (w : World) :
    Calls Try.prog 12 #[.int .u64 (p : Int)] w fun e w' => e = .returned (.int .u64 ((sqv true p : Nat) : Int)) ∧ Below w.heap.size w w' := by
  have HC := Lib.hid (root3_any p hp w)
  generalize sqv true p = v at *
  go_enter Try.func12, Try.ntmps12
  go_wp2_with fail
  with_reducible refine HC.out.mono ?_
  rintro e w1 ⟨rfl, hb⟩
  go_wp2_with fail
  go_ret
  exact ⟨rfl, hb⟩

/-- the call returns a slice of the first K primes -/
def PrimesPost (w : World) (K : Nat) (e : Ending) (w' : World) : Prop :=
  ∃ A c, e = .returned (.slice A K c) ∧ Us w' A (P100.take K) ∧ Below w.heap.size w w'

theorem primes_post {w w' : World} {e : Ending} {n : Int} {K : Nat} (hK : clampN n = K) (h : ∃ v, e = .returned v ∧ Uo 22 w' w.heap.size v (P100.take (clampN n)) ∧ Below w.heap.size w w') : PrimesPost w K e w' := by
  obtain ⟨v, rfl, ho, hb⟩ := h
  have hl : (P100.take K).length = K := by
    rw [List.length_take, P100_len, ← hK]
    unfold clampN
    omega
  rw [hK] at ho
  obtain ⟨A, c, rfl, hu, -⟩ := ho.form
  exact ⟨A, c, by rw [hl], hu, hb⟩

set_option maxHeartbeats 800000 in
theorem alive6_any (w : World) : Calls Try.prog 8 #[] w fun e w' => e = .returned (.bool true) ∧ Below w.heap.size w w' := by
  have HS : Hid (∀ W : World, Calls Try.prog 9 #[.int .u64 2] W fun e w' => e = .returned (.int .u64 7640891576956012808) ∧ Below W.heap.size W w') := Lib.hid (fun W => by
    have := square_any 2 (by omega) W
    rw [sqv_2] at this
    exact this)
  have HC : Hid (∀ W : World, Calls Try.prog 11 #[.int .u64 2] W fun e w' => e = .returned (.int .u64 4794697086780616226) ∧ Below W.heap.size W w') := Lib.hid (fun W => by
    have := cube_any 2 (by omega) W
    rw [cuv_2] at this
    exact this)
  have HP : Hid (∀ W : World, Calls Try.prog 13 #[.int .i64 3] W (PrimesPost W 3)) := Lib.hid (fun W => (primes_any 3 (by omega) (by omega) W).mono fun e w' h => primes_post (by decide) h)
  go_enter Try.func8, Try.ntmps8
  go_wp2_with fail
  with_reducible refine (HS.out _).mono ?_
  rintro e w1 ⟨rfl, hb1⟩
  have HB1 := Lib.hid hb1
  clear hb1
  go_wp2_with fail
  with_reducible refine (HC.out _).mono ?_
  rintro e w2 ⟨rfl, hb2⟩
  have HB2 := Lib.hid (below_next HB1.out hb2)
  clear hb2
  go_wp2_with fail
  with_reducible refine (HP.out _).mono ?_
  rintro e w3 ⟨A, c, rfl, -, hb3⟩
  have HB3 := Lib.hid (below_next HB2.out hb3)
  clear hb3
  go_wp2_with fail
  go_ret
  exact ⟨rfl, HB3⟩

set_option maxHeartbeats 800000 in
theorem law6Tell (p : Nat) (hp : p < 18446744073709551616) (w : World) :
    Calls Try.prog 3 #[.int .u64 (p : Int)] w fun e w' => e = .returned (.bool true) ∧ Below w.heap.size w w' := by
  have HA := Lib.hid (alive6_any w)
  have HS := Lib.hid (fun W : World => square_any p hp W)
  have HC := Lib.hid (fun W : World => cube_any p hp W)
  have HRS := Lib.hid (fun W : World => rsquare_any p hp W)
  have HRC := Lib.hid (fun W : World => rcube_any p hp W)
  generalize sqv false p = x at *
  generalize sqv true p = y at *
  clear hp
  go_enter Try.func3, Try.ntmps3
  go_wp2_with fail
  with_reducible refine HA.out.mono ?_
  rintro e w1 ⟨rfl, hb1⟩
  have HB1 := Lib.hid hb1
  clear hb1
  go_wp2_with fail
  with_reducible refine (HS.out _).mono ?_
  rintro e w2 ⟨rfl, hb2⟩
  have HB2 := Lib.hid (below_next HB1.out hb2)
  clear hb2
  go_wp2_with fail
  with_reducible refine (HRS.out _).mono ?_
  rintro e w3 ⟨rfl, hb3⟩
  have HB3 := Lib.hid (below_next HB2.out hb3)
  clear hb3
  go_wp2_with fail
  with_reducible refine (HC.out _).mono ?_
  rintro e w4 ⟨rfl, hb4⟩
  have HB4 := Lib.hid (below_next HB3.out hb4)
  clear hb4
  go_wp2_with fail
  with_reducible refine (HRC.out _).mono ?_
  rintro e w5 ⟨rfl, hb5⟩
  have HB5 := Lib.hid (below_next HB4.out hb5)
  clear hb5
  go_wp2_with fail
  go_ret
  exact ⟨rfl, HB5⟩

theorem law6TellI (p : Int) (w : World) (hp : (Lit.int .u64 p).wf = true) :
    Calls Try.prog 3 #[.int .u64 p] w fun e w' => e = .returned (.bool true) ∧ Below w.heap.size w w' := by
  have hb : 0 ≤ p ∧ p ≤ 18446744073709551615 := by simpa [Lit.wf, IntKind.min, IntKind.max, IntKind.signed, IntKind.bits] using hp
  obtain ⟨q, rfl⟩ := Int.eq_ofNat_of_zero_le hb.1
  exact law6Tell q (by omega) w
end Go.Proofs.Yticeabijpihkhaa

