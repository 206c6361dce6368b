/- RegionNone walked. -/
import Derived.Test.YtmhcogpjgllgjaaLaw3Alive
namespace Go.Proofs.Ytmhcogpjgllgjaa
open Go.RowKit
set_option linter.unusedVariables false

set_option maxRecDepth 100000 in
set_option maxHeartbeats 3200000 in
theorem law3None (t n : Int) (A : Option Addr) (l : List UInt8) (c : Nat) (w : World) (hc : l.length ≤ c) (t1 : -9223372036854775808 ≤ t) (t2 : t ≤ 9223372036854775807) (n1 : -9223372036854775808 ≤ n) (n2 : n ≤ 9223372036854775807) :
    Calls Try.prog 6 #[.int .i64 t, .int .i64 n, .slice A l.length c] w fun e w' => e = .returned (.bool true) ∧ Below w.heap.size w w' := by
  obtain ⟨z, Hz⟩ : ∃ z : Nat, Hid (l.length = z) := ⟨_, rfl⟩
  rw [Hz.out]
  rw [Hz.out] at hc
  by_cases hl : z ≤ 100
  · have HOF : Hid (∀ W, Calls Try.prog 11 #[.pointer none, .int .i64 0, .int .i64 1] W (PartPost W (.pointer none) 0 1 false)) := Lib.hid fun W => by
      have := dof_is none 0 (by omega) 0 (by omega) W (fun W' _ => dsize_none W') 0 1 (by omega) (by omega) (by omega) (by omega)
      rw [show ofB 0 0 1 = false from by decide] at this
      exact this
    have HPT : Hid (∀ W, Calls Try.prog 23 #[.agg #[.pointer none, .int .i64 0, .int .i64 0], .int .i64 t, .int .i64 n] W (PartPost W (.pointer none) t n false)) := Lib.hid fun W => dgpart_is (a := 0) (c := 0) (Lib.hid (by
      rw [Bool.eq_false_iff]; intro h; have := ofB_iff.1 h; omega)) (by omega) (by omega) (by omega) t1 t2 n1 n2
    have HSZ : Hid (∀ W, Calls Try.prog 14 #[.agg #[.pointer none, .int .i64 0, .int .i64 0]] W fun e w' => e = .returned (.int .i64 0) ∧ Below W.heap.size W w') := Lib.hid fun W => dgsize_any _ 0 0 W (by omega)
    go_enter Try.func6, Try.ntmps6
    go_wp2_with fail
    refine (alive3_any _).mono ?_
    rintro e w1 ⟨rfl, hb1⟩
    have B1 := Lib.hid hb1
    have hcell := box_cells w1 (.pointer none) (.int .i64 0) (.int .i64 0) 30
    obtain ⟨w2, Hw2⟩ : ∃ w2, Hid (w1.alloc (.cells #[.pointer none, .int .i64 0, .int .i64 0] 30) = w2) := ⟨_, rfl⟩
    have hb2 : Below w1.heap.size w1 w2 := by rw [← Hw2.out]; exact (Below.refl _ _).alloc (Nat.le_refl _) _
    rw [Hw2.out] at hcell
    have B2 := Lib.hid (below_on B1.out hb2)
    have L : ∀ W, Below w2.heap.size w2 W → _ := hcell
    obtain ⟨m0, m1, m2⟩ := L w2 (Below.refl _ _)
    have kS : Below w2.heap.size w2 w2 := Below.refl _ _
    clear hb1 hb2 hcell
    go_wp2_with fail
    rw [Hw2.out]
    refine (zread_any t n _ t1 t2 n1 n2).mono ?_
    rintro e w3 ⟨rfl, hb3⟩
    replace kS := below_on kS hb3
    clear hb3 m0 m1 m2
    obtain ⟨m0, m1, m2⟩ := L w3 kS
    go_wp2_with fail
    refine (zblank_any t _ t1 t2).mono ?_
    rintro e w4 ⟨rfl, hb4⟩
    replace kS := below_on kS hb4
    clear hb4 m0 m1 m2
    obtain ⟨m0, m1, m2⟩ := L w4 kS
    go_wp2_with fail
    refine (HPT.out _).mono ?_
    rintro e w5 ⟨rfl, hb5⟩
    replace kS := below_on kS hb5
    clear hb5 m0 m1 m2
    obtain ⟨w6, Hw6⟩ : ∃ w6, Hid (w5.alloc (.cells #[.pointer none, .int .i64 0, .int .i64 0] 30) = w6) := ⟨_, rfl⟩
    have hb6 : Below w5.heap.size w5 w6 := by rw [← Hw6.out]; exact (Below.refl _ _).alloc (Nat.le_refl _) _
    replace kS := below_on kS hb6
    clear hb6
    obtain ⟨m0, m1, m2⟩ := L w6 kS
    go_wp2_with fail
    rw [Hw6.out]
    refine (HOF.out _).mono ?_
    rintro e w7 ⟨rfl, hb7⟩
    replace kS := below_on kS hb7
    clear hb7 m0 m1 m2
    have hb8 : Below w7.heap.size w7 (w7.alloc (.cells #[.pointer none, .int .i64 0, .int .i64 0] 30)) := (Below.refl _ _).alloc (Nat.le_refl _) _
    replace kS := below_on kS hb8
    clear hb8
    obtain ⟨m0, m1, m2⟩ := L _ kS
    go_wp2_with fail
    refine (HSZ.out _).mono ?_
    rintro e w9 ⟨rfl, hb9⟩
    replace kS := below_on kS hb9
    clear hb9 m0 m1 m2
    obtain ⟨m0, m1, m2⟩ := L w9 kS
    go_wp2_with fail
    refine (num3_any _ _).mono ?_
    rintro e w' ⟨rfl, rfl⟩
    go_wp2_with fail
    refine (zprog_any t _ t1 t2 A z c (by omega)).mono ?_
    rintro e w10 ⟨rfl, hb10⟩
    replace kS := below_on kS hb10
    clear hb10 m0 m1 m2
    obtain ⟨m0, m1, m2⟩ := L w10 kS
    go_wp2_with fail
    refine (num3_any _ _).mono ?_
    rintro e w' ⟨rfl, rfl⟩
    go_wp2_with fail
    refine (zerase_any t _ t1 t2).mono ?_
    rintro e w11 ⟨rfl, hb11⟩
    replace kS := below_on kS hb11
    clear hb11 m0 m1 m2
    go_wp2_with (go_at_call 13; refine (num3_any _ _).mono ?_; rintro e w4 ⟨rfl, rfl⟩)
    go_ret
    exact ⟨rfl, below_on B2.out kS⟩
  · have hl2 : ¬ ((z : Int) ≤ 100) := by omega
    go_enter Try.func6, Try.ntmps6
    go_wp2_with (go_at_call 7; refine (alive3_any _).mono ?_; rintro e w1 ⟨rfl, hb1⟩; have B1 := Lib.hid hb1; clear hb1)
    go_ret
    exact ⟨rfl, B1.out⟩
end Go.Proofs.Ytmhcogpjgllgjaa

