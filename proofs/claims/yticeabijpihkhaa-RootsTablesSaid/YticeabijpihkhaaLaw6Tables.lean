/- RootsTables walked. Written by wip/tools/mk_ltab6.py. -/
import Derived.Test.YticeabijpihkhaaRefTables6
namespace Go.Proofs.Yticeabijpihkhaa
open Go.RowKit
set_option linter.unusedVariables false
set_option maxRecDepth 100000

theorem run_index_arr6 {P : Program} (t e : TypeId) (n : Nat) (cs : Array Value) (k : IntKind) (i : Nat) (v : Value) (w : World) (h : P.underlying t = some (.array n e)) (hi : i < n)
    (ha : (isAgg e).run P w = .ok false w) (hs : (sizeOf e).run P w = .ok 1 w) (hv : cs[i]? = some v) : (Instr.index t (.agg cs) (.int k (i : Int))).run P w = .ok v w := by
  have h1 : (0 : Int) ≤ (i : Int) ∧ (i : Int) < (n : Int) := by omega
  simp [Instr.index, run_underlying h, asIntOf, h1, hi, go_sem, ha, hs, hv]

theorem below_on6 {w w1 w2 : World} (h : Below w.heap.size w w1) (h2 : Below w1.heap.size w1 w2) : Below w.heap.size w w2 := h.trans (h2.mono h.size)

set_option maxHeartbeats 3200000 in
theorem law6Tables (i : Nat) (hi : i < 80) (w : World) :
    Calls Try.prog 5 #[.int .i64 (i : Int)] w fun e w' => e = .returned (.bool true) ∧ Below w.heap.size w w' := by
  have HA := Lib.hid (alive6_any w)
  have HP : Hid (∀ W : World, Calls Try.prog 13 #[.int .i64 80] W (PrimesPost W 80)) := Lib.hid (fun W => (primes_any 80 (by omega) (by omega) W).mono fun e w' h => primes_post (by decide) h)
  obtain ⟨TB, hTB⟩ : ∃ t, tabU fB 8 8 = t := ⟨_, rfl⟩
  obtain ⟨TR, hTR⟩ : ∃ t, tabU fR 80 80 = t := ⟨_, rfl⟩
  have HBEG : Hid (∀ W : World, Calls Try.prog 15 #[] W fun e w' => e = .returned (.agg TB) ∧ Below W.heap.size W w') := Lib.hid (fun W => by rw [← hTB]; exact begin_any W)
  have HRBEG : Hid (∀ W : World, Calls Try.prog 16 #[] W fun e w' => e = .returned (.agg TB) ∧ Below W.heap.size W w') := Lib.hid (fun W => by rw [← hTB]; exact rbegin_any W)
  have HROU : Hid (∀ W : World, Calls Try.prog 17 #[] W fun e w' => e = .returned (.agg TR) ∧ Below W.heap.size W w') := Lib.hid (fun W => by rw [← hTR]; exact rounds_any W)
  have HRROU : Hid (∀ W : World, Calls Try.prog 18 #[] W fun e w' => e = .returned (.agg TR) ∧ Below W.heap.size W w') := Lib.hid (fun W => by rw [← hTR]; exact rrounds_any W)
  obtain ⟨p, hp⟩ : ∃ p, (P100.take 80).getD i 0 = p := ⟨_, rfl⟩
  have hpl : p < 542 := by rw [← hp]; exact P100_getD_lt hi (by omega)
  have hpi : P100.getD i 0 = p := by rw [← hp]; simp [List.getD, hi]
  obtain ⟨x, hx⟩ : ∃ x, sqv false p = x := ⟨_, rfl⟩
  obtain ⟨y, hy⟩ : ∃ y, sqv true p = y := ⟨_, rfl⟩
  have HSQ : Hid (∀ W : World, Calls Try.prog 9 #[.int .u64 (p : Int)] W fun e w' => e = .returned (.int .u64 (x : Int)) ∧ Below W.heap.size W w') := Lib.hid (fun W => by rw [← hx]; exact square_any p (by omega) W)
  have HCU : Hid (∀ W : World, Calls Try.prog 11 #[.int .u64 (p : Int)] W fun e w' => e = .returned (.int .u64 (y : Int)) ∧ Below W.heap.size W w') := Lib.hid (fun W => by rw [← hy]; exact cube_any p (by omega) W)
  have hixR : ∀ u : World, (Instr.index 31 (.agg TR) (.int .i64 (i : Int))).run Try.prog u = .ok (.int .u64 (y : Int)) u := fun u => by
    refine run_index_arr6 31 22 80 TR .i64 i _ u Try.underlying31 hi (by kernel_rfl) (by kernel_rfl) ?_
    rw [← hTR, tabU_get _ _ _ _ hi, if_pos hi, show fR i = sqv true (P100.getD i 0) from rfl, hpi, hy]
  have dn : decide ((i : Int) < 0) = false := decide_eq_false (by omega)
  have dn2 : decide (80 ≤ (i : Int)) = false := decide_eq_false (by omega)
  have hiI : (i : Int) < 80 := by omega
  by_cases h8 : i < 8
  · have hixB : ∀ u : World, (Instr.index 29 (.agg TB) (.int .i64 (i : Int))).run Try.prog u = .ok (.int .u64 (x : Int)) u := fun u => by
      refine run_index_arr6 29 22 8 TB .i64 i _ u Try.underlying29 h8 (by kernel_rfl) (by kernel_rfl) ?_
      rw [← hTB, tabU_get _ _ _ _ h8, if_pos h8, show fB i = sqv false (P100.getD i 0) from rfl, hpi, hx]
    have d8 : decide ((i : Int) < 8) = true := decide_eq_true (by omega)
    have HPL := Lib.hid hp
    clear hTB hTR hp hpl hpi hx hy
    go_enter Try.func5, Try.ntmps5
    go_wp2_with fail
    with_reducible refine HA.out.mono ?_
    rintro e w1 ⟨rfl, hb1⟩
    have HB1 := Lib.hid hb1
    clear hb1
    go_wp2_with fail
    with_reducible refine (HP.out _).mono ?_
    rintro e W0 ⟨A, c, rfl, hu, hb2⟩
    have HB2 := Lib.hid (below_next HB1.out hb2)
    obtain ⟨b, o, rfl, hc⟩ := hu.at_ (k := i) (by rw [P100_take (by omega)]; exact hi)
    rw [HPL.out] at hc
    have hL : ∀ W, Below W0.heap.size W0 W → W.cell? ⟨b, o + i, none⟩ = some (.int .u64 (p : Int)) := fun W hW => cell_below hc hW
    clear hu hb2 hc HP HA HB1
    go_upto_region 7 with fail
    refine wp_region_noPanic ?_
    refine wp_region_held_drew (S := fun W => Below W0.heap.size W0 W) (by kernel_rfl) (by exact (Below.refl _ _).drew) (fun hS => ?_)
    refine' take_at 0 rfl (by kernel_rfl) (by kernel_rfl) (by kernel_rfl) (fun _ _ _ h => h) (by rfl) hS ?_ ?_ ?_
    rotate_left 2
    · intro W hSW; go_simp; try with_reducible rfl
    · simp only [List.set_cons_succ, List.set_cons_zero]; rfl
    refine' take_at 1 rfl (by kernel_rfl) (by kernel_rfl) (by kernel_rfl) (fun _ _ _ h => h) (by rfl) hS ?_ ?_ ?_
    rotate_left 2
    · intro W hSW; go_simp; try with_reducible rfl
    · simp only [List.set_cons_succ, List.set_cons_zero]; rfl
    refine' take_at 2 rfl (by kernel_rfl) (by kernel_rfl) (by kernel_rfl) (fun _ _ _ h => h) (by rfl) hS ?_ ?_ ?_
    rotate_left 2
    · intro W hSW; go_simp; try with_reducible rfl
    · simp only [List.set_cons_succ, List.set_cons_zero]; rfl
    refine' take_at 4 rfl (by kernel_rfl) (by kernel_rfl) (by kernel_rfl) (fun _ _ _ h => h) (by rfl) hS ?_ ?_ ?_
    rotate_left 2
    · intro W hSW; go_simp; try with_reducible rfl
    · simp only [List.set_cons_succ, List.set_cons_zero]; rfl
    refine' take_at 6 rfl (by kernel_rfl) (by kernel_rfl) (by kernel_rfl) (fun _ _ _ h => h) (by rfl) hS ?_ ?_ ?_
    rotate_left 2
    · intro W hSW; go_simp; try with_reducible rfl
    · simp only [List.set_cons_succ, List.set_cons_zero]; rfl
    refine' take_at 7 rfl (by kernel_rfl) (by kernel_rfl) (by kernel_rfl) (fun _ _ _ h => h) (by rfl) hS ?_ ?_ ?_
    rotate_left 2
    · intro W hSW; go_simp; try with_reducible rfl
    · simp only [List.set_cons_succ, List.set_cons_zero]; rfl
    refine' take_at 8 rfl (by kernel_rfl) (by kernel_rfl) (by kernel_rfl) (fun _ _ _ h => h) (by rfl) hS ?_ ?_ ?_
    rotate_left 2
    · intro W hSW; go_simp; try with_reducible rfl
    · simp only [List.set_cons_succ, List.set_cons_zero]; rfl
    refine' take_at 9 rfl (by kernel_rfl) (by kernel_rfl) (by kernel_rfl) (fun _ _ _ h => h) (by rfl) hS ?_ ?_ ?_
    rotate_left 2
    · intro W hSW; go_simp; try with_reducible rfl
    · simp only [List.set_cons_succ, List.set_cons_zero]; rfl
    refine call_at 3 rfl (by kernel_rfl) (by rfl) (fun K hK => ?_)
    go_simp
    with_reducible refine (HBEG.out _).mono ?_
    rintro e v1 ⟨rfl, hb1⟩
    have kb1 := below_on6 hS hb1
    clear hS hb1
    refine hK.out _ _ (by exact kb1) (fun hS => ?_)
    clear hK K
    refine' take_at 5 rfl (by kernel_rfl) (by kernel_rfl) (by kernel_rfl) (fun _ _ _ h => h) (by rfl) hS ?_ ?_ ?_
    rotate_left 2
    · intro W hSW; go_simp; try with_reducible rfl
    · simp only [List.set_cons_succ, List.set_cons_zero]; rfl
    refine call_at 10 rfl (by kernel_rfl) (by rfl) (fun K hK => ?_)
    go_simp
    with_reducible refine (HSQ.out _).mono ?_
    rintro e v2 ⟨rfl, hb2⟩
    have kb2 := below_on6 hS hb2
    clear hS hb2
    refine hK.out _ _ (by exact kb2) (fun hS => ?_)
    clear hK K
    refine' take_at 11 rfl (by kernel_rfl) (by kernel_rfl) (by kernel_rfl) (fun _ _ _ h => h) (by rfl) hS ?_ ?_ ?_
    rotate_left 2
    · intro W hSW; go_simp; try with_reducible rfl
    · simp only [List.set_cons_succ, List.set_cons_zero]; rfl
    refine' take_at 12 rfl (by kernel_rfl) (by kernel_rfl) (by kernel_rfl) (fun _ _ _ h => h) (by rfl) hS ?_ ?_ ?_
    rotate_left 2
    · intro W hSW; go_simp; try with_reducible rfl
    · simp only [List.set_cons_succ, List.set_cons_zero]; rfl
    refine' take_at 14 rfl (by kernel_rfl) (by kernel_rfl) (by kernel_rfl) (fun _ _ _ h => h) (by rfl) hS ?_ ?_ ?_
    rotate_left 2
    · intro W hSW; go_simp; try with_reducible rfl
    · simp only [List.set_cons_succ, List.set_cons_zero]; rfl
    refine' take_at 17 rfl (by kernel_rfl) (by kernel_rfl) (by kernel_rfl) (fun _ _ _ h => h) (by rfl) hS ?_ ?_ ?_
    rotate_left 2
    · intro W hSW; go_simp; try with_reducible rfl
    · simp only [List.set_cons_succ, List.set_cons_zero]; rfl
    refine call_at 13 rfl (by kernel_rfl) (by rfl) (fun K hK => ?_)
    go_simp
    with_reducible refine (HBEG.out _).mono ?_
    rintro e v3 ⟨rfl, hb3⟩
    have kb3 := below_on6 hS hb3
    clear hS hb3
    refine hK.out _ _ (by exact kb3) (fun hS => ?_)
    clear hK K
    refine' take_at 15 rfl (by kernel_rfl) (by kernel_rfl) (by kernel_rfl) (fun _ _ _ h => h) (by rfl) hS ?_ ?_ ?_
    rotate_left 2
    · intro W hSW; go_simp; try with_reducible rfl
    · simp only [List.set_cons_succ, List.set_cons_zero]; rfl
    refine call_at 16 rfl (by kernel_rfl) (by rfl) (fun K hK => ?_)
    go_simp
    with_reducible refine (HRBEG.out _).mono ?_
    rintro e v4 ⟨rfl, hb4⟩
    have kb4 := below_on6 hS hb4
    clear hS hb4
    refine hK.out _ _ (by exact kb4) (fun hS => ?_)
    clear hK K
    refine' take_at 18 rfl (by kernel_rfl) (by kernel_rfl) (by kernel_rfl) (fun _ _ _ h => h) (by rfl) hS ?_ ?_ ?_
    rotate_left 2
    · intro W hSW; go_simp; try with_reducible rfl
    · simp only [List.set_cons_succ, List.set_cons_zero]; rfl
    refine' take_at 19 rfl (by kernel_rfl) (by kernel_rfl) (by kernel_rfl) (fun _ _ _ h => h) (by rfl) hS ?_ ?_ ?_
    rotate_left 2
    · intro W hSW; go_simp; try with_reducible rfl
    · simp only [List.set_cons_succ, List.set_cons_zero]; rfl
    refine' take_at 20 rfl (by kernel_rfl) (by kernel_rfl) (by kernel_rfl) (fun _ _ _ h => h) (by rfl) hS ?_ ?_ ?_
    rotate_left 2
    · intro W hSW; go_simp; try with_reducible rfl
    · simp only [List.set_cons_succ, List.set_cons_zero]; rfl
    refine' take_at 21 rfl (by kernel_rfl) (by kernel_rfl) (by kernel_rfl) (fun _ _ _ h => h) (by rfl) hS ?_ ?_ ?_
    rotate_left 2
    · intro W hSW; go_simp; try with_reducible rfl
    · simp only [List.set_cons_succ, List.set_cons_zero]; rfl
    refine wpAnyH_done (by kernel_rfl) ?_ _
    refine NoPanic.normal ?_
    go_wp2_with fail
    go_upto_region 9 with fail
    refine wp_region_noPanic ?_
    refine wp_region_held_drew (S := fun W => Below W0.heap.size W0 W) (by kernel_rfl) (by exact kb4.drew) (fun hS => ?_)
    refine' take_at 1 rfl (by kernel_rfl) (by kernel_rfl) (by kernel_rfl) (fun _ _ _ h => h) (by rfl) hS ?_ ?_ ?_
    rotate_left 2
    · intro W hSW; go_simp; try with_reducible rfl
    · simp only [List.set_cons_succ, List.set_cons_zero]; rfl
    refine' take_at 3 rfl (by kernel_rfl) (by kernel_rfl) (by kernel_rfl) (fun _ _ _ h => h) (by rfl) hS ?_ ?_ ?_
    rotate_left 2
    · intro W hSW; go_simp; try with_reducible rfl
    · simp only [List.set_cons_succ, List.set_cons_zero]; rfl
    refine' take_at 4 rfl (by kernel_rfl) (by kernel_rfl) (by kernel_rfl) (fun _ _ _ h => h) (by rfl) hS ?_ ?_ ?_
    rotate_left 2
    · intro W hSW; go_simp; try with_reducible rfl
    · simp only [List.set_cons_succ, List.set_cons_zero]; rfl
    refine' take_at 5 rfl (by kernel_rfl) (by kernel_rfl) (by kernel_rfl) (fun _ _ _ h => h) (by rfl) hS ?_ ?_ ?_
    rotate_left 2
    · intro W hSW; go_simp; try with_reducible rfl
    · simp only [List.set_cons_succ, List.set_cons_zero]; rfl
    refine' take_at 6 rfl (by kernel_rfl) (by kernel_rfl) (by kernel_rfl) (fun _ _ _ h => h) (by rfl) hS ?_ ?_ ?_
    rotate_left 2
    · intro W hSW; go_simp; try with_reducible rfl
    · simp only [List.set_cons_succ, List.set_cons_zero]; rfl
    refine call_at 0 rfl (by kernel_rfl) (by rfl) (fun K hK => ?_)
    go_simp
    with_reducible refine (HROU.out _).mono ?_
    rintro e v5 ⟨rfl, hb5⟩
    have kb5 := below_on6 hS hb5
    clear hS hb5
    refine hK.out _ _ (by exact kb5) (fun hS => ?_)
    clear hK K
    refine' take_at 2 rfl (by kernel_rfl) (by kernel_rfl) (by kernel_rfl) (fun _ _ _ h => h) (by rfl) hS ?_ ?_ ?_
    rotate_left 2
    · intro W hSW; go_simp; try with_reducible rfl
    · simp only [List.set_cons_succ, List.set_cons_zero]; rfl
    refine call_at 7 rfl (by kernel_rfl) (by rfl) (fun K hK => ?_)
    go_simp
    with_reducible refine (HCU.out _).mono ?_
    rintro e v6 ⟨rfl, hb6⟩
    have kb6 := below_on6 hS hb6
    clear hS hb6
    refine hK.out _ _ (by exact kb6) (fun hS => ?_)
    clear hK K
    refine' take_at 8 rfl (by kernel_rfl) (by kernel_rfl) (by kernel_rfl) (fun _ _ _ h => h) (by rfl) hS ?_ ?_ ?_
    rotate_left 2
    · intro W hSW; go_simp; try with_reducible rfl
    · simp only [List.set_cons_succ, List.set_cons_zero]; rfl
    refine' take_at 9 rfl (by kernel_rfl) (by kernel_rfl) (by kernel_rfl) (fun _ _ _ h => h) (by rfl) hS ?_ ?_ ?_
    rotate_left 2
    · intro W hSW; go_simp; try with_reducible rfl
    · simp only [List.set_cons_succ, List.set_cons_zero]; rfl
    refine' take_at 11 rfl (by kernel_rfl) (by kernel_rfl) (by kernel_rfl) (fun _ _ _ h => h) (by rfl) hS ?_ ?_ ?_
    rotate_left 2
    · intro W hSW; go_simp; try with_reducible rfl
    · simp only [List.set_cons_succ, List.set_cons_zero]; rfl
    refine' take_at 14 rfl (by kernel_rfl) (by kernel_rfl) (by kernel_rfl) (fun _ _ _ h => h) (by rfl) hS ?_ ?_ ?_
    rotate_left 2
    · intro W hSW; go_simp; try with_reducible rfl
    · simp only [List.set_cons_succ, List.set_cons_zero]; rfl
    refine call_at 10 rfl (by kernel_rfl) (by rfl) (fun K hK => ?_)
    go_simp
    with_reducible refine (HROU.out _).mono ?_
    rintro e v7 ⟨rfl, hb7⟩
    have kb7 := below_on6 hS hb7
    clear hS hb7
    refine hK.out _ _ (by exact kb7) (fun hS => ?_)
    clear hK K
    refine' take_at 12 rfl (by kernel_rfl) (by kernel_rfl) (by kernel_rfl) (fun _ _ _ h => h) (by rfl) hS ?_ ?_ ?_
    rotate_left 2
    · intro W hSW; go_simp; try with_reducible rfl
    · simp only [List.set_cons_succ, List.set_cons_zero]; rfl
    refine call_at 13 rfl (by kernel_rfl) (by rfl) (fun K hK => ?_)
    go_simp
    with_reducible refine (HRROU.out _).mono ?_
    rintro e v8 ⟨rfl, hb8⟩
    have kb8 := below_on6 hS hb8
    clear hS hb8
    refine hK.out _ _ (by exact kb8) (fun hS => ?_)
    clear hK K
    refine' take_at 15 rfl (by kernel_rfl) (by kernel_rfl) (by kernel_rfl) (fun _ _ _ h => h) (by rfl) hS ?_ ?_ ?_
    rotate_left 2
    · intro W hSW; go_simp; try with_reducible rfl
    · simp only [List.set_cons_succ, List.set_cons_zero]; rfl
    refine' take_at 16 rfl (by kernel_rfl) (by kernel_rfl) (by kernel_rfl) (fun _ _ _ h => h) (by rfl) hS ?_ ?_ ?_
    rotate_left 2
    · intro W hSW; go_simp; try with_reducible rfl
    · simp only [List.set_cons_succ, List.set_cons_zero]; rfl
    refine' take_at 17 rfl (by kernel_rfl) (by kernel_rfl) (by kernel_rfl) (fun _ _ _ h => h) (by rfl) hS ?_ ?_ ?_
    rotate_left 2
    · intro W hSW; go_simp; try with_reducible rfl
    · simp only [List.set_cons_succ, List.set_cons_zero]; rfl
    refine' take_at 18 rfl (by kernel_rfl) (by kernel_rfl) (by kernel_rfl) (fun _ _ _ h => h) (by rfl) hS ?_ ?_ ?_
    rotate_left 2
    · intro W hSW; go_simp; try with_reducible rfl
    · simp only [List.set_cons_succ, List.set_cons_zero]; rfl
    refine wpAnyH_done (by kernel_rfl) ?_ _
    refine NoPanic.normal ?_
    go_wp2_with fail
    go_ret
    exact ⟨rfl, below_on6 HB2.out kb8⟩
  · have d8 : decide ((i : Int) < 8) = false := decide_eq_false (by omega)
    have HPL := Lib.hid hp
    clear hTB hTR hp hpl hpi hx hy
    go_enter Try.func5, Try.ntmps5
    go_wp2_with fail
    with_reducible refine HA.out.mono ?_
    rintro e w1 ⟨rfl, hb1⟩
    have HB1 := Lib.hid hb1
    clear hb1
    go_wp2_with fail
    with_reducible refine (HP.out _).mono ?_
    rintro e W0 ⟨A, c, rfl, hu, hb2⟩
    have HB2 := Lib.hid (below_next HB1.out hb2)
    obtain ⟨b, o, rfl, hc⟩ := hu.at_ (k := i) (by rw [P100_take (by omega)]; exact hi)
    rw [HPL.out] at hc
    have hL : ∀ W, Below W0.heap.size W0 W → W.cell? ⟨b, o + i, none⟩ = some (.int .u64 (p : Int)) := fun W hW => cell_below hc hW
    clear hu hb2 hc HP HA HB1
    go_upto_region 7 with fail
    refine wp_region_noPanic ?_
    refine wp_region_held_drew (S := fun W => Below W0.heap.size W0 W) (by kernel_rfl) (by exact (Below.refl _ _).drew) (fun hS => ?_)
    refine' take_at 0 rfl (by kernel_rfl) (by kernel_rfl) (by kernel_rfl) (fun _ _ _ h => h) (by rfl) hS ?_ ?_ ?_
    rotate_left 2
    · intro W hSW; go_simp; try with_reducible rfl
    · simp only [List.set_cons_succ, List.set_cons_zero]; rfl
    refine' take_at 1 rfl (by kernel_rfl) (by kernel_rfl) (by kernel_rfl) (fun _ _ _ h => h) (by rfl) hS ?_ ?_ ?_
    rotate_left 2
    · intro W hSW; go_simp; try with_reducible rfl
    · simp only [List.set_cons_succ, List.set_cons_zero]; rfl
    refine' take_at 2 rfl (by kernel_rfl) (by kernel_rfl) (by kernel_rfl) (fun _ _ _ h => h) (by rfl) hS ?_ ?_ ?_
    rotate_left 2
    · intro W hSW; go_simp; try with_reducible rfl
    · simp only [List.set_cons_succ, List.set_cons_zero]; rfl
    refine' skip_at 4 rfl (by kernel_rfl) (by kernel_rfl) (by kernel_rfl) (fun _ _ _ h => h) (by rfl) hS ?_ ?_
    rotate_left 1
    · simp only [List.set_cons_succ, List.set_cons_zero]; rfl
    refine' skip_at 6 rfl (by kernel_rfl) (by kernel_rfl) (by kernel_rfl) (fun _ _ _ h => h) (by rfl) hS ?_ ?_
    rotate_left 1
    · simp only [List.set_cons_succ, List.set_cons_zero]; rfl
    refine' skip_at 7 rfl (by kernel_rfl) (by kernel_rfl) (by kernel_rfl) (fun _ _ _ h => h) (by rfl) hS ?_ ?_
    rotate_left 1
    · simp only [List.set_cons_succ, List.set_cons_zero]; rfl
    refine' skip_at 8 rfl (by kernel_rfl) (by kernel_rfl) (by kernel_rfl) (fun _ _ _ h => h) (by rfl) hS ?_ ?_
    rotate_left 1
    · simp only [List.set_cons_succ, List.set_cons_zero]; rfl
    refine' skip_at 9 rfl (by kernel_rfl) (by kernel_rfl) (by kernel_rfl) (fun _ _ _ h => h) (by rfl) hS ?_ ?_
    rotate_left 1
    · simp only [List.set_cons_succ, List.set_cons_zero]; rfl
    refine' skipcall_at 3 rfl (by kernel_rfl) (by rfl) hS ?_ ?_
    rotate_left 1
    · simp only [List.set_cons_succ, List.set_cons_zero]; rfl
    refine' skip_at 5 rfl (by kernel_rfl) (by kernel_rfl) (by kernel_rfl) (fun _ _ _ h => h) (by rfl) hS ?_ ?_
    rotate_left 1
    · simp only [List.set_cons_succ, List.set_cons_zero]; rfl
    refine' skipcall_at 10 rfl (by kernel_rfl) (by rfl) hS ?_ ?_
    rotate_left 1
    · simp only [List.set_cons_succ, List.set_cons_zero]; rfl
    refine' skip_at 11 rfl (by kernel_rfl) (by kernel_rfl) (by kernel_rfl) (fun _ _ _ h => h) (by rfl) hS ?_ ?_
    rotate_left 1
    · simp only [List.set_cons_succ, List.set_cons_zero]; rfl
    refine' skip_at 12 rfl (by kernel_rfl) (by kernel_rfl) (by kernel_rfl) (fun _ _ _ h => h) (by rfl) hS ?_ ?_
    rotate_left 1
    · simp only [List.set_cons_succ, List.set_cons_zero]; rfl
    refine' skip_at 14 rfl (by kernel_rfl) (by kernel_rfl) (by kernel_rfl) (fun _ _ _ h => h) (by rfl) hS ?_ ?_
    rotate_left 1
    · simp only [List.set_cons_succ, List.set_cons_zero]; rfl
    refine' skip_at 17 rfl (by kernel_rfl) (by kernel_rfl) (by kernel_rfl) (fun _ _ _ h => h) (by rfl) hS ?_ ?_
    rotate_left 1
    · simp only [List.set_cons_succ, List.set_cons_zero]; rfl
    refine' skipcall_at 13 rfl (by kernel_rfl) (by rfl) hS ?_ ?_
    rotate_left 1
    · simp only [List.set_cons_succ, List.set_cons_zero]; rfl
    refine' skip_at 15 rfl (by kernel_rfl) (by kernel_rfl) (by kernel_rfl) (fun _ _ _ h => h) (by rfl) hS ?_ ?_
    rotate_left 1
    · simp only [List.set_cons_succ, List.set_cons_zero]; rfl
    refine' skipcall_at 16 rfl (by kernel_rfl) (by rfl) hS ?_ ?_
    rotate_left 1
    · simp only [List.set_cons_succ, List.set_cons_zero]; rfl
    refine' skip_at 18 rfl (by kernel_rfl) (by kernel_rfl) (by kernel_rfl) (fun _ _ _ h => h) (by rfl) hS ?_ ?_
    rotate_left 1
    · simp only [List.set_cons_succ, List.set_cons_zero]; rfl
    refine' skip_at 19 rfl (by kernel_rfl) (by kernel_rfl) (by kernel_rfl) (fun _ _ _ h => h) (by rfl) hS ?_ ?_
    rotate_left 1
    · simp only [List.set_cons_succ, List.set_cons_zero]; rfl
    refine' skip_at 20 rfl (by kernel_rfl) (by kernel_rfl) (by kernel_rfl) (fun _ _ _ h => h) (by rfl) hS ?_ ?_
    rotate_left 1
    · simp only [List.set_cons_succ, List.set_cons_zero]; rfl
    refine' take_at 21 rfl (by kernel_rfl) (by kernel_rfl) (by kernel_rfl) (fun _ _ _ h => h) (by rfl) hS ?_ ?_ ?_
    rotate_left 2
    · intro W hSW; go_simp; try with_reducible rfl
    · simp only [List.set_cons_succ, List.set_cons_zero]; rfl
    refine wpAnyH_done (by kernel_rfl) ?_ _
    refine NoPanic.normal ?_
    go_wp2_with fail
    go_upto_region 9 with fail
    refine wp_region_noPanic ?_
    refine wp_region_held_drew (S := fun W => Below W0.heap.size W0 W) (by kernel_rfl) (by exact hS.drew) (fun hS => ?_)
    refine' take_at 1 rfl (by kernel_rfl) (by kernel_rfl) (by kernel_rfl) (fun _ _ _ h => h) (by rfl) hS ?_ ?_ ?_
    rotate_left 2
    · intro W hSW; go_simp; try with_reducible rfl
    · simp only [List.set_cons_succ, List.set_cons_zero]; rfl
    refine' take_at 3 rfl (by kernel_rfl) (by kernel_rfl) (by kernel_rfl) (fun _ _ _ h => h) (by rfl) hS ?_ ?_ ?_
    rotate_left 2
    · intro W hSW; go_simp; try with_reducible rfl
    · simp only [List.set_cons_succ, List.set_cons_zero]; rfl
    refine' take_at 4 rfl (by kernel_rfl) (by kernel_rfl) (by kernel_rfl) (fun _ _ _ h => h) (by rfl) hS ?_ ?_ ?_
    rotate_left 2
    · intro W hSW; go_simp; try with_reducible rfl
    · simp only [List.set_cons_succ, List.set_cons_zero]; rfl
    refine' take_at 5 rfl (by kernel_rfl) (by kernel_rfl) (by kernel_rfl) (fun _ _ _ h => h) (by rfl) hS ?_ ?_ ?_
    rotate_left 2
    · intro W hSW; go_simp; try with_reducible rfl
    · simp only [List.set_cons_succ, List.set_cons_zero]; rfl
    refine' take_at 6 rfl (by kernel_rfl) (by kernel_rfl) (by kernel_rfl) (fun _ _ _ h => h) (by rfl) hS ?_ ?_ ?_
    rotate_left 2
    · intro W hSW; go_simp; try with_reducible rfl
    · simp only [List.set_cons_succ, List.set_cons_zero]; rfl
    refine call_at 0 rfl (by kernel_rfl) (by rfl) (fun K hK => ?_)
    go_simp
    with_reducible refine (HROU.out _).mono ?_
    rintro e v5 ⟨rfl, hb5⟩
    have kb5 := below_on6 hS hb5
    clear hS hb5
    refine hK.out _ _ (by exact kb5) (fun hS => ?_)
    clear hK K
    refine' take_at 2 rfl (by kernel_rfl) (by kernel_rfl) (by kernel_rfl) (fun _ _ _ h => h) (by rfl) hS ?_ ?_ ?_
    rotate_left 2
    · intro W hSW; go_simp; try with_reducible rfl
    · simp only [List.set_cons_succ, List.set_cons_zero]; rfl
    refine call_at 7 rfl (by kernel_rfl) (by rfl) (fun K hK => ?_)
    go_simp
    with_reducible refine (HCU.out _).mono ?_
    rintro e v6 ⟨rfl, hb6⟩
    have kb6 := below_on6 hS hb6
    clear hS hb6
    refine hK.out _ _ (by exact kb6) (fun hS => ?_)
    clear hK K
    refine' take_at 8 rfl (by kernel_rfl) (by kernel_rfl) (by kernel_rfl) (fun _ _ _ h => h) (by rfl) hS ?_ ?_ ?_
    rotate_left 2
    · intro W hSW; go_simp; try with_reducible rfl
    · simp only [List.set_cons_succ, List.set_cons_zero]; rfl
    refine' take_at 9 rfl (by kernel_rfl) (by kernel_rfl) (by kernel_rfl) (fun _ _ _ h => h) (by rfl) hS ?_ ?_ ?_
    rotate_left 2
    · intro W hSW; go_simp; try with_reducible rfl
    · simp only [List.set_cons_succ, List.set_cons_zero]; rfl
    refine' take_at 11 rfl (by kernel_rfl) (by kernel_rfl) (by kernel_rfl) (fun _ _ _ h => h) (by rfl) hS ?_ ?_ ?_
    rotate_left 2
    · intro W hSW; go_simp; try with_reducible rfl
    · simp only [List.set_cons_succ, List.set_cons_zero]; rfl
    refine' take_at 14 rfl (by kernel_rfl) (by kernel_rfl) (by kernel_rfl) (fun _ _ _ h => h) (by rfl) hS ?_ ?_ ?_
    rotate_left 2
    · intro W hSW; go_simp; try with_reducible rfl
    · simp only [List.set_cons_succ, List.set_cons_zero]; rfl
    refine call_at 10 rfl (by kernel_rfl) (by rfl) (fun K hK => ?_)
    go_simp
    with_reducible refine (HROU.out _).mono ?_
    rintro e v7 ⟨rfl, hb7⟩
    have kb7 := below_on6 hS hb7
    clear hS hb7
    refine hK.out _ _ (by exact kb7) (fun hS => ?_)
    clear hK K
    refine' take_at 12 rfl (by kernel_rfl) (by kernel_rfl) (by kernel_rfl) (fun _ _ _ h => h) (by rfl) hS ?_ ?_ ?_
    rotate_left 2
    · intro W hSW; go_simp; try with_reducible rfl
    · simp only [List.set_cons_succ, List.set_cons_zero]; rfl
    refine call_at 13 rfl (by kernel_rfl) (by rfl) (fun K hK => ?_)
    go_simp
    with_reducible refine (HRROU.out _).mono ?_
    rintro e v8 ⟨rfl, hb8⟩
    have kb8 := below_on6 hS hb8
    clear hS hb8
    refine hK.out _ _ (by exact kb8) (fun hS => ?_)
    clear hK K
    refine' take_at 15 rfl (by kernel_rfl) (by kernel_rfl) (by kernel_rfl) (fun _ _ _ h => h) (by rfl) hS ?_ ?_ ?_
    rotate_left 2
    · intro W hSW; go_simp; try with_reducible rfl
    · simp only [List.set_cons_succ, List.set_cons_zero]; rfl
    refine' take_at 16 rfl (by kernel_rfl) (by kernel_rfl) (by kernel_rfl) (fun _ _ _ h => h) (by rfl) hS ?_ ?_ ?_
    rotate_left 2
    · intro W hSW; go_simp; try with_reducible rfl
    · simp only [List.set_cons_succ, List.set_cons_zero]; rfl
    refine' take_at 17 rfl (by kernel_rfl) (by kernel_rfl) (by kernel_rfl) (fun _ _ _ h => h) (by rfl) hS ?_ ?_ ?_
    rotate_left 2
    · intro W hSW; go_simp; try with_reducible rfl
    · simp only [List.set_cons_succ, List.set_cons_zero]; rfl
    refine' take_at 18 rfl (by kernel_rfl) (by kernel_rfl) (by kernel_rfl) (fun _ _ _ h => h) (by rfl) hS ?_ ?_ ?_
    rotate_left 2
    · intro W hSW; go_simp; try with_reducible rfl
    · simp only [List.set_cons_succ, List.set_cons_zero]; rfl
    refine wpAnyH_done (by kernel_rfl) ?_ _
    refine NoPanic.normal ?_
    go_wp2_with fail
    go_ret
    exact ⟨rfl, below_on6 HB2.out kb8⟩

set_option maxHeartbeats 800000 in
theorem law6TablesOut (i : Int) (h : i < 0 ∨ 80 ≤ i) (h1 : -9223372036854775808 ≤ i) (h2 : i ≤ 9223372036854775807) (w : World) :
    Calls Try.prog 5 #[.int .i64 i] w fun e w' => e = .returned (.bool true) ∧ Below w.heap.size w w' := by
  have HA := Lib.hid (alive6_any w)
  have HP : Hid (∀ W : World, Calls Try.prog 13 #[.int .i64 80] W (PrimesPost W 80)) := Lib.hid (fun W => (primes_any 80 (by omega) (by omega) W).mono fun e w' h => primes_post (by decide) h)
  rcases h with h | h
  · have d1 : decide (i < 0) = true := decide_eq_true h
    go_enter Try.func5, Try.ntmps5
    go_wp2_with fail
    with_reducible refine HA.out.mono ?_
    rintro e w1 ⟨rfl, hb1⟩
    have HB1 := Lib.hid hb1
    clear hb1
    go_wp2_with fail
    with_reducible refine (HP.out _).mono ?_
    rintro e W0 ⟨A, c, rfl, hu, hb2⟩
    have HB2 := Lib.hid (below_next HB1.out hb2)
    clear hu hb2 HP HA HB1
    go_wp2_with fail
    go_ret
    exact ⟨rfl, HB2⟩
  · have d1 : decide (i < 0) = false := decide_eq_false (by omega)
    have d2 : decide (80 ≤ i) = true := decide_eq_true h
    go_enter Try.func5, Try.ntmps5
    go_wp2_with fail
    with_reducible refine HA.out.mono ?_
    rintro e w1 ⟨rfl, hb1⟩
    have HB1 := Lib.hid hb1
    clear hb1
    go_wp2_with fail
    with_reducible refine (HP.out _).mono ?_
    rintro e W0 ⟨A, c, rfl, hu, hb2⟩
    have HB2 := Lib.hid (below_next HB1.out hb2)
    clear hu hb2 HP HA HB1
    go_wp2_with fail
    go_ret
    exact ⟨rfl, HB2⟩

theorem law6TablesI (p : Int) (w : World) (hp : (Lit.int .i64 p).wf = true) :
    Calls Try.prog 5 #[.int .i64 p] w fun e w' => e = .returned (.bool true) ∧ Below w.heap.size w w' := by
  have hb := i64_bounds hp
  by_cases h : p < 0 ∨ 80 ≤ p
  · exact law6TablesOut p h hb.1 hb.2 w
  · obtain ⟨q, rfl⟩ := Int.eq_ofNat_of_zero_le (show 0 ≤ p by omega)
    exact law6Tables q (by omega) w
end Go.Proofs.Yticeabijpihkhaa

