/- The walk of PowersSqrt. Written by wip/tools. -/
import Derived.Test.YtjekeblcppkghaaLaw10Alive
import Derived.Test.YtjekeblcppkghaaGheld
namespace Go.Proofs.Ytjekeblcppkghaa
open Go.RowKit
set_option linter.unusedVariables false
set_option maxRecDepth 100000

theorem dbl_t {a b : Bool} (h : a = !b) (ha : a = false) : b = true := by cases a <;> cases b <;> first | rfl | exact absurd ha (by decide) | exact absurd h (by decide)
theorem dbl_f {a b : Bool} (h : a = !b) (ha : a = true) : b = false := by cases a <;> cases b <;> first | rfl | exact absurd ha (by decide) | exact absurd h (by decide)

set_option maxHeartbeats 6400000 in
theorem law10Sqrt {R : Array Value → Nat → Prop} (C : Fe10C R) (D : PowC R) (a : List UInt8) (ha : a.length = 32) (w : World) : Calls Try.prog 5 #[.agg (arrB a)] w fun e w' => e = .returned (.bool true) ∧ Below w.heap.size w w' := by
  have HAL : Hid (∀ W : World, Calls Try.prog 8 #[] W fun e w' => e = .returned (.bool true) ∧ Below W.heap.size W w') := Lib.hid (fun W => alive10_any C D W)
  obtain ⟨Z, hZ, RZ⟩ := C.base.zero
  have hzR := refT_zero
  have hz32 := zero32_zero
  have Ha := Lib.hid ha
  clear ha
  go_enter Try.func5, Try.ntmps5
  go_wp2_with fail
  have HR0 := Lib.hid ((RowsW.nil w).box (arrB a) 22)
  have HB0 := Lib.hid (below_box (Below.refl w.heap.size w) (arrB a) 22)
  obtain ⟨W0, hW0⟩ : ∃ W, (w.alloc (.cells (arrB a) 22)) = W := ⟨_, rfl⟩
  obtain ⟨g0, hg0⟩ : ∃ g, w.heap.size = g := ⟨_, rfl⟩
  rw [hW0] at HR0 HB0
  rw [hg0] at HR0
  rw [hW0, hg0]
  have HG0 := Lib.hid hg0
  clear hW0 hg0
  with_reducible refine (HAL.out _).mono ?_
  rintro e v1 ⟨rfl, hb1⟩
  have HR1 := Lib.hid (HR0.out.below hb1)
  have HB1 := Lib.hid (below_next HB0.out hb1)
  clear hb1
  go_upto_region 2 with fail
  have l1 := HR1.out.head
  go_wp2_with (refine wpList_load_row rfl 22 (.tmp 1) rfl g0 rfl 22 (arrB a) (0, 0) _ l1 Try.underlying22 rfl (arr32_info Ha.out) ?_)
  obtain ⟨n2, hn2⟩ : ∃ x : Nat, feN a = x := ⟨_, rfl⟩
  have Hn2 := Lib.hid hn2
  have HLn2 : Hid (n2 < PP) := Lib.hid (by rw [← hn2]; exact Nat.mod_lt _ (by decide))
  clear hn2
  with_reducible refine ((C.from_ a Ha.out) _).mono ?_
  rintro e vq3 ⟨cq3, rfl, rq3, hbq3⟩
  rw [Hn2.out] at rq3
  have Rq3 := Lib.hid rq3
  clear rq3
  have HRq3 := Lib.hid (HR1.out.below hbq3)
  have HBq3 := Lib.hid (below_next HB1.out hbq3)
  clear hbq3
  have h0q4 : (vq3.alloc (.cells Z 26)).heap[vq3.heap.size]? = some (.cells Z 26 (0, 0)) := heap_alloc_new _ _
  have HRq4 := Lib.hid (HRq3.out.new Z cq3 26)
  have HBq4 := Lib.hid (below_new HBq3.out Z cq3 26)
  have HNq4 := Lib.hid HRq3.out.ne
  have HGq4 := Lib.hid HBq3.out.size
  go_upto_region 3 with (refine wpList_store_row rfl 26 (.tmp 4) (.tmp 14) rfl vq3.heap.size cq3 rfl rfl 26 Z h0q4 (C.base.info Rq3.out) (C.base.size RZ Rq3.out) (C.base.one Rq3.out) ?_)
  obtain ⟨Wq4, hWq4⟩ : ∃ W, (vq3.alloc (.cells Z 26)).setRow vq3.heap.size cq3 = W := ⟨_, rfl⟩
  obtain ⟨gq4, hgq4⟩ : ∃ g, vq3.heap.size = g := ⟨_, rfl⟩
  rw [hWq4, hgq4] at HRq4
  rw [hWq4] at HBq4
  rw [hgq4] at HNq4 HGq4
  rw [hWq4, hgq4]
  clear hWq4 hgq4 h0q4
  have NEq4_0 : Hid (g0 ≠ gq4) := Lib.hid (HNq4.out (g0, (arrB a), 22) (by simp))
  have l5 := HRq4.out.head
  go_wp2_with (refine wpList_load_row rfl 26 (.tmp 4) rfl gq4 rfl 26 cq3 (0, 0) _ l5 Try.underlying26 rfl (C.base.info Rq3.out) ?_)
  obtain ⟨n6, hn6⟩ : ∃ x : Nat, (n2 * n2) % PP = x := ⟨_, rfl⟩
  have Hn6 := Lib.hid hn6
  have HLn6 : Hid (n6 < PP) := Lib.hid (by rw [← hn6]; exact Nat.mod_lt _ (by decide))
  clear hn6
  with_reducible refine ((C.square Rq3.out) _).mono ?_
  rintro e vq7 ⟨cq7, rfl, rq7, hbq7⟩
  rw [Hn6.out] at rq7
  have Rq7 := Lib.hid rq7
  clear rq7
  have HRq7 := Lib.hid (HRq4.out.below hbq7)
  have HBq7 := Lib.hid (below_next HBq4.out hbq7)
  clear hbq7
  have h0q8 : (vq7.alloc (.cells Z 26)).heap[vq7.heap.size]? = some (.cells Z 26 (0, 0)) := heap_alloc_new _ _
  have HRq8 := Lib.hid (HRq7.out.new Z cq7 26)
  have HBq8 := Lib.hid (below_new HBq7.out Z cq7 26)
  have HNq8 := Lib.hid HRq7.out.ne
  have HGq8 := Lib.hid HBq7.out.size
  go_upto_region 4 with (refine wpList_store_row rfl 26 (.tmp 5) (.tmp 16) rfl vq7.heap.size cq7 rfl rfl 26 Z h0q8 (C.base.info Rq7.out) (C.base.size RZ Rq7.out) (C.base.one Rq7.out) ?_)
  obtain ⟨Wq8, hWq8⟩ : ∃ W, (vq7.alloc (.cells Z 26)).setRow vq7.heap.size cq7 = W := ⟨_, rfl⟩
  obtain ⟨gq8, hgq8⟩ : ∃ g, vq7.heap.size = g := ⟨_, rfl⟩
  rw [hWq8, hgq8] at HRq8
  rw [hWq8] at HBq8
  rw [hgq8] at HNq8 HGq8
  rw [hWq8, hgq8]
  clear hWq8 hgq8 h0q8
  have NEq8_0 : Hid (g0 ≠ gq8) := Lib.hid (HNq8.out (g0, (arrB a), 22) (by simp))
  have NEq8_1 : Hid (gq4 ≠ gq8) := Lib.hid (HNq8.out (gq4, cq3, 26) (by simp))
  have l9 := HRq8.out.head
  go_wp2_with (refine wpList_load_row rfl 26 (.tmp 5) rfl gq8 rfl 26 cq7 (0, 0) _ l9 Try.underlying26 rfl (C.base.info Rq7.out) ?_)
  obtain ⟨n10, hn10⟩ : ∃ y : Nat, rootN n6 = y := ⟨_, rfl⟩
  have Hn10 := Lib.hid hn10
  have HLn10 : Hid (n10 < PP) := Lib.hid (by rw [← hn10]; exact rootN_lt _)
  clear hn10
  have Ht11 : Hid (isN n6 = true) := Lib.hid (by rw [← Hn6.out]; exact isN_sq _)
  have kq12 := fun W : World => (D.sqrt Rq7.out) W
  rw [Hn10.out, Ht11.out] at kq12
  have Kq12 := Lib.hid kq12
  clear kq12
  with_reducible refine (Kq12.out _).mono ?_
  rintro e vq12 ⟨cq12, rfl, rq12, hbq12⟩
  have Rq12 := Lib.hid rq12
  clear rq12
  have HRq12 := Lib.hid (HRq8.out.below hbq12)
  have HBq12 := Lib.hid (below_next HBq8.out hbq12)
  clear hbq12
  have h0q13 : (vq12.alloc (.cells Z 26)).heap[vq12.heap.size]? = some (.cells Z 26 (0, 0)) := heap_alloc_new _ _
  have HRq13 := Lib.hid (HRq12.out.new Z cq12 26)
  have HBq13 := Lib.hid (below_new HBq12.out Z cq12 26)
  have HNq13 := Lib.hid HRq12.out.ne
  have HGq13 := Lib.hid HBq12.out.size
  go_upto_region 5 with (refine wpList_store_row rfl 26 (.tmp 6) (.tmp 20) rfl vq12.heap.size cq12 rfl rfl 26 Z h0q13 (C.base.info Rq12.out) (C.base.size RZ Rq12.out) (C.base.one Rq12.out) ?_)
  obtain ⟨Wq13, hWq13⟩ : ∃ W, (vq12.alloc (.cells Z 26)).setRow vq12.heap.size cq12 = W := ⟨_, rfl⟩
  obtain ⟨gq13, hgq13⟩ : ∃ g, vq12.heap.size = g := ⟨_, rfl⟩
  rw [hWq13, hgq13] at HRq13
  rw [hWq13] at HBq13
  rw [hgq13] at HNq13 HGq13
  rw [hWq13, hgq13]
  clear hWq13 hgq13 h0q13
  have NEq13_0 : Hid (g0 ≠ gq13) := Lib.hid (HNq13.out (g0, (arrB a), 22) (by simp))
  have NEq13_1 : Hid (gq4 ≠ gq13) := Lib.hid (HNq13.out (gq4, cq3, 26) (by simp))
  have NEq13_2 : Hid (gq8 ≠ gq13) := Lib.hid (HNq13.out (gq8, cq7, 26) (by simp))
  obtain ⟨n14, hn14⟩ : ∃ x : Nat, (2 * n2) % PP = x := ⟨_, rfl⟩
  have Hn14 := Lib.hid hn14
  have HLn14 : Hid (n14 < PP) := Lib.hid (by rw [← hn14]; exact Nat.mod_lt _ (by decide))
  clear hn14
  by_cases h0 : n2 = 0
  · have HX0 := Lib.hid h0
    clear h0
    by_cases hrx : n10 = n2
    · have HRX := Lib.hid hrx
      clear hrx
      refine wp_region_noPanic ?_
      refine wp_region_held_drew (S := fun W => Below Wq13.heap.size Wq13 W) (by kernel_rfl) (by exact (Below.refl _ _).drew) (fun hS => ?_)
      refine' take_at 0 rfl (by kernel_rfl) (by kernel_rfl) (by kernel_rfl) (fun _ _ _ h => h) (by rfl) hS ?_ ?_ ?_
      rotate_left 2
      · intro W hSW; go_simp; try with_reducible rfl
      · simp only [List.set_cons_succ, List.set_cons_zero]; rfl
      refine' take_at 1 rfl (by kernel_rfl) (by kernel_rfl) (by kernel_rfl) (fun _ _ _ h => h) (by rfl) hS ?_ ?_ ?_
      rotate_left 2
      · intro W hSW; go_simp; try with_reducible rfl
      · simp only [List.set_cons_succ, List.set_cons_zero]; rfl
      refine' take_at 2 rfl (by kernel_rfl) (by kernel_rfl) (by kernel_rfl) (fun _ _ _ h => h) (by rfl) hS ?_ ?_ ?_
      rotate_left 2
      · intro W hSW; go_simp; try with_reducible rfl
      · simp only [List.set_cons_succ, List.set_cons_zero]; rfl
      refine' take_at 3 rfl (by kernel_rfl) (by kernel_rfl) (by kernel_rfl) (fun _ _ _ h => h) (by rfl) hS ?_ ?_ ?_
      rotate_left 2
      · intro W hSW; go_simp; try with_reducible rfl
      · simp only [List.set_cons_succ, List.set_cons_zero]; rfl
      refine' take_at 4 rfl (by kernel_rfl) (by kernel_rfl) (by kernel_rfl) (fun _ _ _ h => h) (by rfl) hS ?_ ?_ ?_
      rotate_left 2
      · intro W hSW; go_simp; try with_reducible rfl
      · simp only [List.set_cons_succ, List.set_cons_zero]; rfl
      refine' take_at 5 rfl (by kernel_rfl) (by kernel_rfl) (by kernel_rfl) (fun _ _ _ h => h) (by rfl) hS ?_ ?_ ?_
      rotate_left 2
      · intro W hSW; go_simp; try with_reducible rfl
      · simp only [List.set_cons_succ, List.set_cons_zero]; rfl
      refine' take_at 6 rfl (by kernel_rfl) (by kernel_rfl) (by kernel_rfl) (fun _ _ _ h => h) (by rfl) hS ?_ ?_ ?_
      rotate_left 2
      · intro W hSW; go_simp; try with_reducible rfl
      · simp only [List.set_cons_succ, List.set_cons_zero]; rfl
      refine' take_at 7 rfl (by kernel_rfl) (by kernel_rfl) (by kernel_rfl) (fun _ _ _ h => h) (by rfl) hS ?_ ?_ ?_
      rotate_left 2
      · intro W hSW; exact run_loadR rfl rfl (HRq13.out.below hSW).head Try.underlying26 rfl (C.base.info Rq12.out)
      · simp only [List.set_cons_succ, List.set_cons_zero]; rfl
      refine call_at 8 rfl (by kernel_rfl) (by rfl) (fun K hK => ?_)
      go_simp
      have Ht15 : Hid (decide (n10 % 2 = 1) = false) := Lib.hid (decide_eq_false (by rw [← Hn10.out]; have := rootN_even n6; omega))
      have kq16 := fun W : World => (C.odd Rq12.out) W
      rw [Ht15.out] at kq16
      have Kq16 := Lib.hid kq16
      clear kq16
      with_reducible refine (Kq16.out _).mono ?_
      rintro e vq16 ⟨rfl, hbq16⟩
      have kbq16 := below_next hS hbq16
      clear hS hbq16
      refine hK.out _ _ (by exact kbq16) (fun hS => ?_)
      clear hK K
      refine' take_at 9 rfl (by kernel_rfl) (by kernel_rfl) (by kernel_rfl) (fun _ _ _ h => h) (by rfl) hS ?_ ?_ ?_
      rotate_left 2
      · intro W hSW; go_simp; try with_reducible rfl
      · simp only [List.set_cons_succ, List.set_cons_zero]; rfl
      refine' take_at 10 rfl (by kernel_rfl) (by kernel_rfl) (by kernel_rfl) (fun _ _ _ h => h) (by rfl) hS ?_ ?_ ?_
      rotate_left 2
      · intro W hSW; go_simp; try with_reducible rfl
      · simp only [List.set_cons_succ, List.set_cons_zero]; rfl
      refine' take_at 11 rfl (by kernel_rfl) (by kernel_rfl) (by kernel_rfl) (fun _ _ _ h => h) (by rfl) hS ?_ ?_ ?_
      rotate_left 2
      · intro W hSW; exact run_loadR rfl rfl (HRq13.out.below hSW).head Try.underlying26 rfl (C.base.info Rq12.out)
      · simp only [List.set_cons_succ, List.set_cons_zero]; rfl
      refine' take_at 13 rfl (by kernel_rfl) (by kernel_rfl) (by kernel_rfl) (fun _ _ _ h => h) (by rfl) hS ?_ ?_ ?_
      rotate_left 2
      · intro W hSW; exact run_loadR rfl rfl (HRq13.out.below hSW).tail.head Try.underlying26 rfl (C.base.info Rq7.out)
      · simp only [List.set_cons_succ, List.set_cons_zero]; rfl
      refine call_at 12 rfl (by kernel_rfl) (by rfl) (fun K hK => ?_)
      go_simp
      obtain ⟨n17, hn17⟩ : ∃ x : Nat, (n10 * n10) % PP = x := ⟨_, rfl⟩
      have Hn17 := Lib.hid hn17
      have HLn17 : Hid (n17 < PP) := Lib.hid (by rw [← hn17]; exact Nat.mod_lt _ (by decide))
      clear hn17
      with_reducible refine ((C.square Rq12.out) _).mono ?_
      rintro e vq18 ⟨cq18, rfl, rq18, hbq18⟩
      rw [Hn17.out] at rq18
      have Rq18 := Lib.hid rq18
      clear rq18
      have kbq18 := below_next kbq16 hbq18
      clear hS hbq18
      refine hK.out _ _ (by exact kbq18) (fun hS => ?_)
      clear hK K
      refine call_at 14 rfl (by kernel_rfl) (by rfl) (fun K hK => ?_)
      go_simp
      have kq19 := fun W : World => (C.equal Rq18.out Rq7.out) W
      rw [decide_eq_true (show n17 = n6 from (by rw [← Hn17.out, ← Hn10.out]; exact rootN_sq (show isN n6 = true by rw [← Hn6.out]; exact isN_sq _)))] at kq19
      have Kq19 := Lib.hid kq19
      clear kq19
      with_reducible refine (Kq19.out _).mono ?_
      rintro e vq19 ⟨rfl, hbq19⟩
      have kbq19 := below_next kbq18 hbq19
      clear hS hbq19
      refine hK.out _ _ (by exact kbq19) (fun hS => ?_)
      clear hK K
      refine' take_at 15 rfl (by kernel_rfl) (by kernel_rfl) (by kernel_rfl) (fun _ _ _ h => h) (by rfl) hS ?_ ?_ ?_
      rotate_left 2
      · intro W hSW; go_simp; try with_reducible rfl
      · simp only [List.set_cons_succ, List.set_cons_zero]; rfl
      refine' take_at 16 rfl (by kernel_rfl) (by kernel_rfl) (by kernel_rfl) (fun _ _ _ h => h) (by rfl) hS ?_ ?_ ?_
      rotate_left 2
      · intro W hSW; go_simp; try with_reducible rfl
      · simp only [List.set_cons_succ, List.set_cons_zero]; rfl
      refine' take_at 17 rfl (by kernel_rfl) (by kernel_rfl) (by kernel_rfl) (fun _ _ _ h => h) (by rfl) hS ?_ ?_ ?_
      rotate_left 2
      · intro W hSW; go_simp; try with_reducible rfl
      · simp only [List.set_cons_succ, List.set_cons_zero]; rfl
      refine' take_at 18 rfl (by kernel_rfl) (by kernel_rfl) (by kernel_rfl) (fun _ _ _ h => h) (by rfl) hS ?_ ?_ ?_
      rotate_left 2
      · intro W hSW; exact run_loadR rfl rfl (HRq13.out.below hSW).head Try.underlying26 rfl (C.base.info Rq12.out)
      · simp only [List.set_cons_succ, List.set_cons_zero]; rfl
      refine' take_at 19 rfl (by kernel_rfl) (by kernel_rfl) (by kernel_rfl) (fun _ _ _ h => h) (by rfl) hS ?_ ?_ ?_
      rotate_left 2
      · intro W hSW; exact run_loadR rfl rfl (HRq13.out.below hSW).tail.tail.head Try.underlying26 rfl (C.base.info Rq3.out)
      · simp only [List.set_cons_succ, List.set_cons_zero]; rfl
      refine call_at 20 rfl (by kernel_rfl) (by rfl) (fun K hK => ?_)
      go_simp
      have kq20 := fun W : World => (C.equal Rq12.out Rq3.out) W
      rw [decide_eq_true (show n10 = n2 from HRX.out)] at kq20
      have Kq20 := Lib.hid kq20
      clear kq20
      with_reducible refine (Kq20.out _).mono ?_
      rintro e vq20 ⟨rfl, hbq20⟩
      have kbq20 := below_next kbq19 hbq20
      clear hS hbq20
      refine hK.out _ _ (by exact kbq20) (fun hS => ?_)
      clear hK K
      refine' take_at 21 rfl (by kernel_rfl) (by kernel_rfl) (by kernel_rfl) (fun _ _ _ h => h) (by rfl) hS ?_ ?_ ?_
      rotate_left 2
      · intro W hSW; go_simp; try with_reducible rfl
      · simp only [List.set_cons_succ, List.set_cons_zero]; rfl
      refine' take_at 22 rfl (by kernel_rfl) (by kernel_rfl) (by kernel_rfl) (fun _ _ _ h => h) (by rfl) hS ?_ ?_ ?_
      rotate_left 2
      · intro W hSW; go_simp; try with_reducible rfl
      · simp only [List.set_cons_succ, List.set_cons_zero]; rfl
      refine' skip_at 23 rfl (by kernel_rfl) (by kernel_rfl) (by kernel_rfl) (fun _ _ _ h => h) (by rfl) hS ?_ ?_
      rotate_left 1
      · simp only [List.set_cons_succ, List.set_cons_zero]; rfl
      refine' skip_at 24 rfl (by kernel_rfl) (by kernel_rfl) (by kernel_rfl) (fun _ _ _ h => h) (by rfl) hS ?_ ?_
      rotate_left 1
      · simp only [List.set_cons_succ, List.set_cons_zero]; rfl
      refine' skip_at 25 rfl (by kernel_rfl) (by kernel_rfl) (by kernel_rfl) (fun _ _ _ h => h) (by rfl) hS ?_ ?_
      rotate_left 1
      · simp only [List.set_cons_succ, List.set_cons_zero]; rfl
      refine' skip_at 26 rfl (by kernel_rfl) (by kernel_rfl) (by kernel_rfl) (fun _ _ _ h => h) (by rfl) hS ?_ ?_
      rotate_left 1
      · simp only [List.set_cons_succ, List.set_cons_zero]; rfl
      refine' skip_at 27 rfl (by kernel_rfl) (by kernel_rfl) (by kernel_rfl) (fun _ _ _ h => h) (by rfl) hS ?_ ?_
      rotate_left 1
      · simp only [List.set_cons_succ, List.set_cons_zero]; rfl
      refine' take_at 28 rfl (by kernel_rfl) (by kernel_rfl) (by kernel_rfl) (fun _ _ _ h => h) (by rfl) hS ?_ ?_ ?_
      rotate_left 2
      · intro W hSW; go_simp; try with_reducible rfl
      · simp only [List.set_cons_succ, List.set_cons_zero]; rfl
      refine' take_at 29 rfl (by kernel_rfl) (by kernel_rfl) (by kernel_rfl) (fun _ _ _ h => h) (by rfl) hS ?_ ?_ ?_
      rotate_left 2
      · intro W hSW; go_simp; try with_reducible rfl
      · simp only [List.set_cons_succ, List.set_cons_zero]; rfl
      refine wpAnyH_done (by kernel_rfl) ?_ _
      refine NoPanic.normal ?_
      clear hS
      (try simp only [Act.put])
      have HRq21 := Lib.hid (HRq13.out.below kbq20)
      have HBq21 := Lib.hid (below_next HBq13.out kbq20)
      go_upto_region 7 with fail
      have l22 := HRq21.out.tail.tail.head
      go_wp2_with (refine wpList_load_row rfl 26 (.tmp 4) rfl gq4 rfl 26 cq3 (0, 0) _ l22 Try.underlying26 rfl (C.base.info Rq3.out) ?_)
      obtain ⟨n23, hn23⟩ : ∃ y : Nat, rootN n2 = y := ⟨_, rfl⟩
      have Hn23 := Lib.hid hn23
      have HLn23 : Hid (n23 < PP) := Lib.hid (by rw [← hn23]; exact rootN_lt _)
      clear hn23
      have Ht24 : Hid (isN n2 = true) := Lib.hid (by rw [HX0.out]; exact root_zero.2)
      have kq25 := fun W : World => (D.sqrt Rq3.out) W
      rw [Hn23.out, Ht24.out] at kq25
      have Kq25 := Lib.hid kq25
      clear kq25
      with_reducible refine (Kq25.out _).mono ?_
      rintro e vq25 ⟨cq25, rfl, rq25, hbq25⟩
      have Rq25 := Lib.hid rq25
      clear rq25
      have HRq25 := Lib.hid (HRq21.out.below hbq25)
      have HBq25 := Lib.hid (below_next HBq21.out hbq25)
      clear hbq25
      have h0q26 : (vq25.alloc (.cells Z 26)).heap[vq25.heap.size]? = some (.cells Z 26 (0, 0)) := heap_alloc_new _ _
      have HRq26 := Lib.hid (HRq25.out.new Z cq25 26)
      have HBq26 := Lib.hid (below_new HBq25.out Z cq25 26)
      have HNq26 := Lib.hid HRq25.out.ne
      have HGq26 := Lib.hid HBq25.out.size
      go_upto_region 8 with (refine wpList_store_row rfl 26 (.tmp 8) (.tmp 55) rfl vq25.heap.size cq25 rfl rfl 26 Z h0q26 (C.base.info Rq25.out) (C.base.size RZ Rq25.out) (C.base.one Rq25.out) ?_)
      obtain ⟨Wq26, hWq26⟩ : ∃ W, (vq25.alloc (.cells Z 26)).setRow vq25.heap.size cq25 = W := ⟨_, rfl⟩
      obtain ⟨gq26, hgq26⟩ : ∃ g, vq25.heap.size = g := ⟨_, rfl⟩
      rw [hWq26, hgq26] at HRq26
      rw [hWq26] at HBq26
      rw [hgq26] at HNq26 HGq26
      rw [hWq26, hgq26]
      clear hWq26 hgq26 h0q26
      have NEq26_0 : Hid (g0 ≠ gq26) := Lib.hid (HNq26.out (g0, (arrB a), 22) (by simp))
      have NEq26_1 : Hid (gq4 ≠ gq26) := Lib.hid (HNq26.out (gq4, cq3, 26) (by simp))
      have NEq26_2 : Hid (gq8 ≠ gq26) := Lib.hid (HNq26.out (gq8, cq7, 26) (by simp))
      have NEq26_3 : Hid (gq13 ≠ gq26) := Lib.hid (HNq26.out (gq13, cq12, 26) (by simp))
      refine wp_region_noPanic ?_
      refine wp_region_heldB 7 10 26 Z (by kernel_rfl) (by kernel_rfl) ⟨by kernel_rfl, by kernel_rfl, hZ, fun _ _ _ h => h⟩ (fun hA hS => ?_)
      refine' take_atB 1 hA rfl (by kernel_rfl) (by kernel_rfl) (by kernel_rfl) (by kernel_rfl) (by kernel_rfl) (by rfl) (by rfl) hS ?_ ?_ ?_
      rotate_left 2
      · intro W hSW; exact run_loadR rfl rfl (HRq26.out.below hSW).tail.tail.tail.head Try.underlying26 rfl (C.base.info Rq3.out)
      · simp only [List.set_cons_succ, List.set_cons_zero]; rfl
      refine call_atB 0 hA rfl (by kernel_rfl) (by kernel_rfl) (by kernel_rfl) (by kernel_rfl) (by rfl) (by rfl) hS (fun oq27 Xq27 hS K hK => ?_)
      go_simp
      have s58_2 : ∀ W : World, Calls Try.prog 24 #[.int .u64 2] W (RetFe R W 2) := fun W => C.small 2 (by decide) W
      with_reducible refine (s58_2 _).mono ?_
      rintro e vq27 ⟨cq27, rfl, rq27, hbq27⟩
      have Rq27 := Lib.hid rq27
      clear rq27
      refine hK.out _ _ hbq27 (fun hS => ?_)
      clear hK K hbq27
      refine call_atB 2 hA rfl (by kernel_rfl) (by kernel_rfl) (by kernel_rfl) (by kernel_rfl) (by rfl) (by rfl) hS (fun oq28 Xq28 hS K hK => ?_)
      go_simp
      with_reducible refine ((C.mul Rq27.out Rq3.out) _).mono ?_
      rintro e vq28 ⟨cq28, rfl, rq28, hbq28⟩
      rw [Hn14.out] at rq28
      have Rq28 := Lib.hid rq28
      clear rq28
      refine hK.out _ _ hbq28 (fun hS => ?_)
      clear hK K hbq28
      refine call_atB 3 hA rfl (by kernel_rfl) (by kernel_rfl) (by kernel_rfl) (by kernel_rfl) (by rfl) (by rfl) hS (fun oq31 Xq31 hS K hK => ?_)
      go_simp
      obtain ⟨n29, hn29⟩ : ∃ y : Nat, rootN n14 = y := ⟨_, rfl⟩
      have Hn29 := Lib.hid hn29
      have HLn29 : Hid (n29 < PP) := Lib.hid (by rw [← hn29]; exact rootN_lt _)
      clear hn29
      have Ht30 : Hid (isN n14 = true) := Lib.hid (by rw [← Hn14.out, HX0.out]; exact root_zero.2)
      have kq31 := fun W : World => (D.sqrt Rq28.out) W
      rw [Hn29.out, Ht30.out] at kq31
      have Kq31 := Lib.hid kq31
      clear kq31
      with_reducible refine (Kq31.out _).mono ?_
      rintro e vq31 ⟨cq31, rfl, rq31, hbq31⟩
      have Rq31 := Lib.hid rq31
      clear rq31
      refine hK.out _ _ hbq31 (fun hS => ?_)
      clear hK K hbq31
      refine' take_atB 4 hA rfl (by kernel_rfl) (by kernel_rfl) (by kernel_rfl) (by kernel_rfl) (by kernel_rfl) (by rfl) (by rfl) hS ?_ ?_ ?_
      rotate_left 2
      · intro W hSW; go_simp; try with_reducible rfl
      · simp only [List.set_cons_succ, List.set_cons_zero]; rfl
      refine' take_atB 5 hA rfl (by kernel_rfl) (by kernel_rfl) (by kernel_rfl) (by kernel_rfl) (by kernel_rfl) (by rfl) (by rfl) hS ?_ ?_ ?_
      rotate_left 2
      · intro W hSW; go_simp; try with_reducible rfl
      · simp only [List.set_cons_succ, List.set_cons_zero]; rfl
      refine' take_atB 6 hA rfl (by kernel_rfl) (by kernel_rfl) (by kernel_rfl) (by kernel_rfl) (by kernel_rfl) (by rfl) (by rfl) hS ?_ ?_ ?_
      rotate_left 2
      · intro W hSW; go_simp; try with_reducible rfl
      · simp only [List.set_cons_succ, List.set_cons_zero]; rfl
      refine' store_atB 8 hA rfl (by kernel_rfl) (by kernel_rfl) (by kernel_rfl) hS (by kernel_rfl) rfl (by intro h; cases h) (C.base.info Rq31.out) (C.base.size RZ Rq31.out) (C.base.one Rq31.out) ?_ ?_
      rotate_left 1
      · intro g; simp only [List.set_cons_succ, List.set_cons_zero]; rfl
      intro gq32 Wq32 hgq32 hbq32 hrowq32
      clear hA hS
      refine' take_at 9 rfl (by kernel_rfl) (by kernel_rfl) (by kernel_rfl) (fun _ _ _ h => h) (by rfl) hbq32 ?_ ?_ ?_
      rotate_left 2
      · intro W hSW; go_simp; try with_reducible rfl
      · simp only [List.set_cons_succ, List.set_cons_zero]; rfl
      refine wpAnyH_done (by kernel_rfl) ?_ _
      refine NoPanic.normal ?_
      (try simp only [Act.put])
      have HRq32 : Hid (RowsW Wq32 [(gq32, cq31, 26), (gq26, cq25, 26), (gq13, cq12, 26), (gq8, cq7, 26), (gq4, cq3, 26), (g0, (arrB a), 22)]) := Lib.hid ⟨hrowq32, HRq26.out.below hbq32⟩
      have HBq32 := Lib.hid (below_next HBq26.out hbq32)
      have NEq32_0 : Hid (g0 ≠ gq32) := Lib.hid (by have h := HRq26.out.lt (g0, (arrB a), 22) (by simp); have := hgq32; simp only at h; omega)
      have NEq32_1 : Hid (gq4 ≠ gq32) := Lib.hid (by have h := HRq26.out.lt (gq4, cq3, 26) (by simp); have := hgq32; simp only at h; omega)
      have NEq32_2 : Hid (gq8 ≠ gq32) := Lib.hid (by have h := HRq26.out.lt (gq8, cq7, 26) (by simp); have := hgq32; simp only at h; omega)
      have NEq32_3 : Hid (gq13 ≠ gq32) := Lib.hid (by have h := HRq26.out.lt (gq13, cq12, 26) (by simp); have := hgq32; simp only at h; omega)
      have NEq32_4 : Hid (gq26 ≠ gq32) := Lib.hid (by have h := HRq26.out.lt (gq26, cq25, 26) (by simp); have := hgq32; simp only at h; omega)
      have HGq32 := Lib.hid (Nat.le_trans HBq26.out.size hgq32)
      clear hrowq32 hbq32 hgq32
      go_upto_region 9 with fail
      have l33 := HRq32.out.tail.tail.tail.tail.head
      go_wp2_with (refine wpList_load_row rfl 26 (.tmp 4) rfl gq4 rfl 26 cq3 (0, 0) _ l33 Try.underlying26 rfl (C.base.info Rq3.out) ?_)
      have kq34 := fun W : World => (C.isZero Rq3.out) W
      rw [decide_eq_true (show n2 = 0 from HX0.out)] at kq34
      have Kq34 := Lib.hid kq34
      clear kq34
      with_reducible refine (Kq34.out _).mono ?_
      rintro e vq34 ⟨rfl, hbq34⟩
      have HRq34 := Lib.hid (HRq32.out.below hbq34)
      have HBq34 := Lib.hid (below_next HBq32.out hbq34)
      clear hbq34
      go_upto_region 10 with fail
      have l35 := HRq34.out.tail.head
      go_wp2_with (refine wpList_runsV (o := ⟨some 71, _, _, _, _, _⟩) rfl (.agg cq25) (run_loadR rfl rfl l35 Try.underlying26 rfl (C.base.info Rq25.out)) ?_)
      have kq36 := fun W : World => (C.isZero Rq25.out) W
      rw [decide_eq_true (show n23 = 0 from (by rw [← Hn23.out, HX0.out]; exact root_zero.1))] at kq36
      have Kq36 := Lib.hid kq36
      clear kq36
      with_reducible refine (Kq36.out _).mono ?_
      rintro e vq36 ⟨rfl, hbq36⟩
      have HRq36 := Lib.hid (HRq34.out.below hbq36)
      have HBq36 := Lib.hid (below_next HBq34.out hbq36)
      clear hbq36
      go_wp2_with fail
      go_ret
      exact ⟨rfl, HBq36.out⟩
    · have HRX := Lib.hid ((show n10 = n2 ∨ n10 = (PP - n2) % PP from by rw [← Hn10.out]; exact root_two HLn2.out (rootN_lt _) (by rw [rootN_sq (show isN n6 = true by rw [← Hn6.out]; exact isN_sq _), Hn6.out])).resolve_left hrx)
      have HRN := Lib.hid hrx
      clear hrx
      refine wp_region_noPanic ?_
      refine wp_region_held_drew (S := fun W => Below Wq13.heap.size Wq13 W) (by kernel_rfl) (by exact (Below.refl _ _).drew) (fun hS => ?_)
      refine' take_at 0 rfl (by kernel_rfl) (by kernel_rfl) (by kernel_rfl) (fun _ _ _ h => h) (by rfl) hS ?_ ?_ ?_
      rotate_left 2
      · intro W hSW; go_simp; try with_reducible rfl
      · simp only [List.set_cons_succ, List.set_cons_zero]; rfl
      refine' take_at 1 rfl (by kernel_rfl) (by kernel_rfl) (by kernel_rfl) (fun _ _ _ h => h) (by rfl) hS ?_ ?_ ?_
      rotate_left 2
      · intro W hSW; go_simp; try with_reducible rfl
      · simp only [List.set_cons_succ, List.set_cons_zero]; rfl
      refine' take_at 2 rfl (by kernel_rfl) (by kernel_rfl) (by kernel_rfl) (fun _ _ _ h => h) (by rfl) hS ?_ ?_ ?_
      rotate_left 2
      · intro W hSW; go_simp; try with_reducible rfl
      · simp only [List.set_cons_succ, List.set_cons_zero]; rfl
      refine' take_at 3 rfl (by kernel_rfl) (by kernel_rfl) (by kernel_rfl) (fun _ _ _ h => h) (by rfl) hS ?_ ?_ ?_
      rotate_left 2
      · intro W hSW; go_simp; try with_reducible rfl
      · simp only [List.set_cons_succ, List.set_cons_zero]; rfl
      refine' take_at 4 rfl (by kernel_rfl) (by kernel_rfl) (by kernel_rfl) (fun _ _ _ h => h) (by rfl) hS ?_ ?_ ?_
      rotate_left 2
      · intro W hSW; go_simp; try with_reducible rfl
      · simp only [List.set_cons_succ, List.set_cons_zero]; rfl
      refine' take_at 5 rfl (by kernel_rfl) (by kernel_rfl) (by kernel_rfl) (fun _ _ _ h => h) (by rfl) hS ?_ ?_ ?_
      rotate_left 2
      · intro W hSW; go_simp; try with_reducible rfl
      · simp only [List.set_cons_succ, List.set_cons_zero]; rfl
      refine' take_at 6 rfl (by kernel_rfl) (by kernel_rfl) (by kernel_rfl) (fun _ _ _ h => h) (by rfl) hS ?_ ?_ ?_
      rotate_left 2
      · intro W hSW; go_simp; try with_reducible rfl
      · simp only [List.set_cons_succ, List.set_cons_zero]; rfl
      refine' take_at 7 rfl (by kernel_rfl) (by kernel_rfl) (by kernel_rfl) (fun _ _ _ h => h) (by rfl) hS ?_ ?_ ?_
      rotate_left 2
      · intro W hSW; exact run_loadR rfl rfl (HRq13.out.below hSW).head Try.underlying26 rfl (C.base.info Rq12.out)
      · simp only [List.set_cons_succ, List.set_cons_zero]; rfl
      refine call_at 8 rfl (by kernel_rfl) (by rfl) (fun K hK => ?_)
      go_simp
      have Ht37 : Hid (decide (n10 % 2 = 1) = false) := Lib.hid (decide_eq_false (by rw [← Hn10.out]; have := rootN_even n6; omega))
      have kq38 := fun W : World => (C.odd Rq12.out) W
      rw [Ht37.out] at kq38
      have Kq38 := Lib.hid kq38
      clear kq38
      with_reducible refine (Kq38.out _).mono ?_
      rintro e vq38 ⟨rfl, hbq38⟩
      have kbq38 := below_next hS hbq38
      clear hS hbq38
      refine hK.out _ _ (by exact kbq38) (fun hS => ?_)
      clear hK K
      refine' take_at 9 rfl (by kernel_rfl) (by kernel_rfl) (by kernel_rfl) (fun _ _ _ h => h) (by rfl) hS ?_ ?_ ?_
      rotate_left 2
      · intro W hSW; go_simp; try with_reducible rfl
      · simp only [List.set_cons_succ, List.set_cons_zero]; rfl
      refine' take_at 10 rfl (by kernel_rfl) (by kernel_rfl) (by kernel_rfl) (fun _ _ _ h => h) (by rfl) hS ?_ ?_ ?_
      rotate_left 2
      · intro W hSW; go_simp; try with_reducible rfl
      · simp only [List.set_cons_succ, List.set_cons_zero]; rfl
      refine' take_at 11 rfl (by kernel_rfl) (by kernel_rfl) (by kernel_rfl) (fun _ _ _ h => h) (by rfl) hS ?_ ?_ ?_
      rotate_left 2
      · intro W hSW; exact run_loadR rfl rfl (HRq13.out.below hSW).head Try.underlying26 rfl (C.base.info Rq12.out)
      · simp only [List.set_cons_succ, List.set_cons_zero]; rfl
      refine' take_at 13 rfl (by kernel_rfl) (by kernel_rfl) (by kernel_rfl) (fun _ _ _ h => h) (by rfl) hS ?_ ?_ ?_
      rotate_left 2
      · intro W hSW; exact run_loadR rfl rfl (HRq13.out.below hSW).tail.head Try.underlying26 rfl (C.base.info Rq7.out)
      · simp only [List.set_cons_succ, List.set_cons_zero]; rfl
      refine call_at 12 rfl (by kernel_rfl) (by rfl) (fun K hK => ?_)
      go_simp
      obtain ⟨n39, hn39⟩ : ∃ x : Nat, (n10 * n10) % PP = x := ⟨_, rfl⟩
      have Hn39 := Lib.hid hn39
      have HLn39 : Hid (n39 < PP) := Lib.hid (by rw [← hn39]; exact Nat.mod_lt _ (by decide))
      clear hn39
      with_reducible refine ((C.square Rq12.out) _).mono ?_
      rintro e vq40 ⟨cq40, rfl, rq40, hbq40⟩
      rw [Hn39.out] at rq40
      have Rq40 := Lib.hid rq40
      clear rq40
      have kbq40 := below_next kbq38 hbq40
      clear hS hbq40
      refine hK.out _ _ (by exact kbq40) (fun hS => ?_)
      clear hK K
      refine call_at 14 rfl (by kernel_rfl) (by rfl) (fun K hK => ?_)
      go_simp
      have kq41 := fun W : World => (C.equal Rq40.out Rq7.out) W
      rw [decide_eq_true (show n39 = n6 from (by rw [← Hn39.out, ← Hn10.out]; exact rootN_sq (show isN n6 = true by rw [← Hn6.out]; exact isN_sq _)))] at kq41
      have Kq41 := Lib.hid kq41
      clear kq41
      with_reducible refine (Kq41.out _).mono ?_
      rintro e vq41 ⟨rfl, hbq41⟩
      have kbq41 := below_next kbq40 hbq41
      clear hS hbq41
      refine hK.out _ _ (by exact kbq41) (fun hS => ?_)
      clear hK K
      refine' take_at 15 rfl (by kernel_rfl) (by kernel_rfl) (by kernel_rfl) (fun _ _ _ h => h) (by rfl) hS ?_ ?_ ?_
      rotate_left 2
      · intro W hSW; go_simp; try with_reducible rfl
      · simp only [List.set_cons_succ, List.set_cons_zero]; rfl
      refine' take_at 16 rfl (by kernel_rfl) (by kernel_rfl) (by kernel_rfl) (fun _ _ _ h => h) (by rfl) hS ?_ ?_ ?_
      rotate_left 2
      · intro W hSW; go_simp; try with_reducible rfl
      · simp only [List.set_cons_succ, List.set_cons_zero]; rfl
      refine' take_at 17 rfl (by kernel_rfl) (by kernel_rfl) (by kernel_rfl) (fun _ _ _ h => h) (by rfl) hS ?_ ?_ ?_
      rotate_left 2
      · intro W hSW; go_simp; try with_reducible rfl
      · simp only [List.set_cons_succ, List.set_cons_zero]; rfl
      refine' take_at 18 rfl (by kernel_rfl) (by kernel_rfl) (by kernel_rfl) (fun _ _ _ h => h) (by rfl) hS ?_ ?_ ?_
      rotate_left 2
      · intro W hSW; exact run_loadR rfl rfl (HRq13.out.below hSW).head Try.underlying26 rfl (C.base.info Rq12.out)
      · simp only [List.set_cons_succ, List.set_cons_zero]; rfl
      refine' take_at 19 rfl (by kernel_rfl) (by kernel_rfl) (by kernel_rfl) (fun _ _ _ h => h) (by rfl) hS ?_ ?_ ?_
      rotate_left 2
      · intro W hSW; exact run_loadR rfl rfl (HRq13.out.below hSW).tail.tail.head Try.underlying26 rfl (C.base.info Rq3.out)
      · simp only [List.set_cons_succ, List.set_cons_zero]; rfl
      refine call_at 20 rfl (by kernel_rfl) (by rfl) (fun K hK => ?_)
      go_simp
      have kq42 := fun W : World => (C.equal Rq12.out Rq3.out) W
      rw [decide_eq_false (show ¬ n10 = n2 from HRN.out)] at kq42
      have Kq42 := Lib.hid kq42
      clear kq42
      with_reducible refine (Kq42.out _).mono ?_
      rintro e vq42 ⟨rfl, hbq42⟩
      have kbq42 := below_next kbq41 hbq42
      clear hS hbq42
      refine hK.out _ _ (by exact kbq42) (fun hS => ?_)
      clear hK K
      refine' take_at 21 rfl (by kernel_rfl) (by kernel_rfl) (by kernel_rfl) (fun _ _ _ h => h) (by rfl) hS ?_ ?_ ?_
      rotate_left 2
      · intro W hSW; go_simp; try with_reducible rfl
      · simp only [List.set_cons_succ, List.set_cons_zero]; rfl
      refine' take_at 22 rfl (by kernel_rfl) (by kernel_rfl) (by kernel_rfl) (fun _ _ _ h => h) (by rfl) hS ?_ ?_ ?_
      rotate_left 2
      · intro W hSW; go_simp; try with_reducible rfl
      · simp only [List.set_cons_succ, List.set_cons_zero]; rfl
      refine' take_at 23 rfl (by kernel_rfl) (by kernel_rfl) (by kernel_rfl) (fun _ _ _ h => h) (by rfl) hS ?_ ?_ ?_
      rotate_left 2
      · intro W hSW; exact run_loadR rfl rfl (HRq13.out.below hSW).head Try.underlying26 rfl (C.base.info Rq12.out)
      · simp only [List.set_cons_succ, List.set_cons_zero]; rfl
      refine' take_at 24 rfl (by kernel_rfl) (by kernel_rfl) (by kernel_rfl) (fun _ _ _ h => h) (by rfl) hS ?_ ?_ ?_
      rotate_left 2
      · intro W hSW; exact run_loadR rfl rfl (HRq13.out.below hSW).tail.tail.head Try.underlying26 rfl (C.base.info Rq3.out)
      · simp only [List.set_cons_succ, List.set_cons_zero]; rfl
      refine call_at 25 rfl (by kernel_rfl) (by rfl) (fun K hK => ?_)
      go_simp
      obtain ⟨n43, hn43⟩ : ∃ x : Nat, (PP - n2) % PP = x := ⟨_, rfl⟩
      have Hn43 := Lib.hid hn43
      have HLn43 : Hid (n43 < PP) := Lib.hid (by rw [← hn43]; exact Nat.mod_lt _ (by decide))
      clear hn43
      with_reducible refine ((C.neg Rq3.out) _).mono ?_
      rintro e vq44 ⟨cq44, rfl, rq44, hbq44⟩
      rw [Hn43.out] at rq44
      have Rq44 := Lib.hid rq44
      clear rq44
      have kbq44 := below_next kbq42 hbq44
      clear hS hbq44
      refine hK.out _ _ (by exact kbq44) (fun hS => ?_)
      clear hK K
      refine call_at 26 rfl (by kernel_rfl) (by rfl) (fun K hK => ?_)
      go_simp
      have kq45 := fun W : World => (C.equal Rq12.out Rq44.out) W
      rw [decide_eq_true (show n10 = n43 from (by rw [← Hn43.out]; exact HRX.out))] at kq45
      have Kq45 := Lib.hid kq45
      clear kq45
      with_reducible refine (Kq45.out _).mono ?_
      rintro e vq45 ⟨rfl, hbq45⟩
      have kbq45 := below_next kbq44 hbq45
      clear hS hbq45
      refine hK.out _ _ (by exact kbq45) (fun hS => ?_)
      clear hK K
      refine' take_at 27 rfl (by kernel_rfl) (by kernel_rfl) (by kernel_rfl) (fun _ _ _ h => h) (by rfl) hS ?_ ?_ ?_
      rotate_left 2
      · intro W hSW; go_simp; try with_reducible rfl
      · simp only [List.set_cons_succ, List.set_cons_zero]; rfl
      refine' take_at 28 rfl (by kernel_rfl) (by kernel_rfl) (by kernel_rfl) (fun _ _ _ h => h) (by rfl) hS ?_ ?_ ?_
      rotate_left 2
      · intro W hSW; go_simp; try with_reducible rfl
      · simp only [List.set_cons_succ, List.set_cons_zero]; rfl
      refine' take_at 29 rfl (by kernel_rfl) (by kernel_rfl) (by kernel_rfl) (fun _ _ _ h => h) (by rfl) hS ?_ ?_ ?_
      rotate_left 2
      · intro W hSW; go_simp; try with_reducible rfl
      · simp only [List.set_cons_succ, List.set_cons_zero]; rfl
      refine wpAnyH_done (by kernel_rfl) ?_ _
      refine NoPanic.normal ?_
      clear hS
      (try simp only [Act.put])
      have HRq46 := Lib.hid (HRq13.out.below kbq45)
      have HBq46 := Lib.hid (below_next HBq13.out kbq45)
      go_upto_region 7 with fail
      have l47 := HRq46.out.tail.tail.head
      go_wp2_with (refine wpList_load_row rfl 26 (.tmp 4) rfl gq4 rfl 26 cq3 (0, 0) _ l47 Try.underlying26 rfl (C.base.info Rq3.out) ?_)
      obtain ⟨n48, hn48⟩ : ∃ y : Nat, rootN n2 = y := ⟨_, rfl⟩
      have Hn48 := Lib.hid hn48
      have HLn48 : Hid (n48 < PP) := Lib.hid (by rw [← hn48]; exact rootN_lt _)
      clear hn48
      have Ht49 : Hid (isN n2 = true) := Lib.hid (by rw [HX0.out]; exact root_zero.2)
      have kq50 := fun W : World => (D.sqrt Rq3.out) W
      rw [Hn48.out, Ht49.out] at kq50
      have Kq50 := Lib.hid kq50
      clear kq50
      with_reducible refine (Kq50.out _).mono ?_
      rintro e vq50 ⟨cq50, rfl, rq50, hbq50⟩
      have Rq50 := Lib.hid rq50
      clear rq50
      have HRq50 := Lib.hid (HRq46.out.below hbq50)
      have HBq50 := Lib.hid (below_next HBq46.out hbq50)
      clear hbq50
      have h0q51 : (vq50.alloc (.cells Z 26)).heap[vq50.heap.size]? = some (.cells Z 26 (0, 0)) := heap_alloc_new _ _
      have HRq51 := Lib.hid (HRq50.out.new Z cq50 26)
      have HBq51 := Lib.hid (below_new HBq50.out Z cq50 26)
      have HNq51 := Lib.hid HRq50.out.ne
      have HGq51 := Lib.hid HBq50.out.size
      go_upto_region 8 with (refine wpList_store_row rfl 26 (.tmp 8) (.tmp 55) rfl vq50.heap.size cq50 rfl rfl 26 Z h0q51 (C.base.info Rq50.out) (C.base.size RZ Rq50.out) (C.base.one Rq50.out) ?_)
      obtain ⟨Wq51, hWq51⟩ : ∃ W, (vq50.alloc (.cells Z 26)).setRow vq50.heap.size cq50 = W := ⟨_, rfl⟩
      obtain ⟨gq51, hgq51⟩ : ∃ g, vq50.heap.size = g := ⟨_, rfl⟩
      rw [hWq51, hgq51] at HRq51
      rw [hWq51] at HBq51
      rw [hgq51] at HNq51 HGq51
      rw [hWq51, hgq51]
      clear hWq51 hgq51 h0q51
      have NEq51_0 : Hid (g0 ≠ gq51) := Lib.hid (HNq51.out (g0, (arrB a), 22) (by simp))
      have NEq51_1 : Hid (gq4 ≠ gq51) := Lib.hid (HNq51.out (gq4, cq3, 26) (by simp))
      have NEq51_2 : Hid (gq8 ≠ gq51) := Lib.hid (HNq51.out (gq8, cq7, 26) (by simp))
      have NEq51_3 : Hid (gq13 ≠ gq51) := Lib.hid (HNq51.out (gq13, cq12, 26) (by simp))
      refine wp_region_noPanic ?_
      refine wp_region_heldB 7 10 26 Z (by kernel_rfl) (by kernel_rfl) ⟨by kernel_rfl, by kernel_rfl, hZ, fun _ _ _ h => h⟩ (fun hA hS => ?_)
      refine' take_atB 1 hA rfl (by kernel_rfl) (by kernel_rfl) (by kernel_rfl) (by kernel_rfl) (by kernel_rfl) (by rfl) (by rfl) hS ?_ ?_ ?_
      rotate_left 2
      · intro W hSW; exact run_loadR rfl rfl (HRq51.out.below hSW).tail.tail.tail.head Try.underlying26 rfl (C.base.info Rq3.out)
      · simp only [List.set_cons_succ, List.set_cons_zero]; rfl
      refine call_atB 0 hA rfl (by kernel_rfl) (by kernel_rfl) (by kernel_rfl) (by kernel_rfl) (by rfl) (by rfl) hS (fun oq52 Xq52 hS K hK => ?_)
      go_simp
      have s58_2 : ∀ W : World, Calls Try.prog 24 #[.int .u64 2] W (RetFe R W 2) := fun W => C.small 2 (by decide) W
      with_reducible refine (s58_2 _).mono ?_
      rintro e vq52 ⟨cq52, rfl, rq52, hbq52⟩
      have Rq52 := Lib.hid rq52
      clear rq52
      refine hK.out _ _ hbq52 (fun hS => ?_)
      clear hK K hbq52
      refine call_atB 2 hA rfl (by kernel_rfl) (by kernel_rfl) (by kernel_rfl) (by kernel_rfl) (by rfl) (by rfl) hS (fun oq53 Xq53 hS K hK => ?_)
      go_simp
      with_reducible refine ((C.mul Rq52.out Rq3.out) _).mono ?_
      rintro e vq53 ⟨cq53, rfl, rq53, hbq53⟩
      rw [Hn14.out] at rq53
      have Rq53 := Lib.hid rq53
      clear rq53
      refine hK.out _ _ hbq53 (fun hS => ?_)
      clear hK K hbq53
      refine call_atB 3 hA rfl (by kernel_rfl) (by kernel_rfl) (by kernel_rfl) (by kernel_rfl) (by rfl) (by rfl) hS (fun oq56 Xq56 hS K hK => ?_)
      go_simp
      obtain ⟨n54, hn54⟩ : ∃ y : Nat, rootN n14 = y := ⟨_, rfl⟩
      have Hn54 := Lib.hid hn54
      have HLn54 : Hid (n54 < PP) := Lib.hid (by rw [← hn54]; exact rootN_lt _)
      clear hn54
      have Ht55 : Hid (isN n14 = true) := Lib.hid (by rw [← Hn14.out, HX0.out]; exact root_zero.2)
      have kq56 := fun W : World => (D.sqrt Rq53.out) W
      rw [Hn54.out, Ht55.out] at kq56
      have Kq56 := Lib.hid kq56
      clear kq56
      with_reducible refine (Kq56.out _).mono ?_
      rintro e vq56 ⟨cq56, rfl, rq56, hbq56⟩
      have Rq56 := Lib.hid rq56
      clear rq56
      refine hK.out _ _ hbq56 (fun hS => ?_)
      clear hK K hbq56
      refine' take_atB 4 hA rfl (by kernel_rfl) (by kernel_rfl) (by kernel_rfl) (by kernel_rfl) (by kernel_rfl) (by rfl) (by rfl) hS ?_ ?_ ?_
      rotate_left 2
      · intro W hSW; go_simp; try with_reducible rfl
      · simp only [List.set_cons_succ, List.set_cons_zero]; rfl
      refine' take_atB 5 hA rfl (by kernel_rfl) (by kernel_rfl) (by kernel_rfl) (by kernel_rfl) (by kernel_rfl) (by rfl) (by rfl) hS ?_ ?_ ?_
      rotate_left 2
      · intro W hSW; go_simp; try with_reducible rfl
      · simp only [List.set_cons_succ, List.set_cons_zero]; rfl
      refine' take_atB 6 hA rfl (by kernel_rfl) (by kernel_rfl) (by kernel_rfl) (by kernel_rfl) (by kernel_rfl) (by rfl) (by rfl) hS ?_ ?_ ?_
      rotate_left 2
      · intro W hSW; go_simp; try with_reducible rfl
      · simp only [List.set_cons_succ, List.set_cons_zero]; rfl
      refine' store_atB 8 hA rfl (by kernel_rfl) (by kernel_rfl) (by kernel_rfl) hS (by kernel_rfl) rfl (by intro h; cases h) (C.base.info Rq56.out) (C.base.size RZ Rq56.out) (C.base.one Rq56.out) ?_ ?_
      rotate_left 1
      · intro g; simp only [List.set_cons_succ, List.set_cons_zero]; rfl
      intro gq57 Wq57 hgq57 hbq57 hrowq57
      clear hA hS
      refine' take_at 9 rfl (by kernel_rfl) (by kernel_rfl) (by kernel_rfl) (fun _ _ _ h => h) (by rfl) hbq57 ?_ ?_ ?_
      rotate_left 2
      · intro W hSW; go_simp; try with_reducible rfl
      · simp only [List.set_cons_succ, List.set_cons_zero]; rfl
      refine wpAnyH_done (by kernel_rfl) ?_ _
      refine NoPanic.normal ?_
      (try simp only [Act.put])
      have HRq57 : Hid (RowsW Wq57 [(gq57, cq56, 26), (gq51, cq50, 26), (gq13, cq12, 26), (gq8, cq7, 26), (gq4, cq3, 26), (g0, (arrB a), 22)]) := Lib.hid ⟨hrowq57, HRq51.out.below hbq57⟩
      have HBq57 := Lib.hid (below_next HBq51.out hbq57)
      have NEq57_0 : Hid (g0 ≠ gq57) := Lib.hid (by have h := HRq51.out.lt (g0, (arrB a), 22) (by simp); have := hgq57; simp only at h; omega)
      have NEq57_1 : Hid (gq4 ≠ gq57) := Lib.hid (by have h := HRq51.out.lt (gq4, cq3, 26) (by simp); have := hgq57; simp only at h; omega)
      have NEq57_2 : Hid (gq8 ≠ gq57) := Lib.hid (by have h := HRq51.out.lt (gq8, cq7, 26) (by simp); have := hgq57; simp only at h; omega)
      have NEq57_3 : Hid (gq13 ≠ gq57) := Lib.hid (by have h := HRq51.out.lt (gq13, cq12, 26) (by simp); have := hgq57; simp only at h; omega)
      have NEq57_4 : Hid (gq51 ≠ gq57) := Lib.hid (by have h := HRq51.out.lt (gq51, cq50, 26) (by simp); have := hgq57; simp only at h; omega)
      have HGq57 := Lib.hid (Nat.le_trans HBq51.out.size hgq57)
      clear hrowq57 hbq57 hgq57
      go_upto_region 9 with fail
      have l58 := HRq57.out.tail.tail.tail.tail.head
      go_wp2_with (refine wpList_load_row rfl 26 (.tmp 4) rfl gq4 rfl 26 cq3 (0, 0) _ l58 Try.underlying26 rfl (C.base.info Rq3.out) ?_)
      have kq59 := fun W : World => (C.isZero Rq3.out) W
      rw [decide_eq_true (show n2 = 0 from HX0.out)] at kq59
      have Kq59 := Lib.hid kq59
      clear kq59
      with_reducible refine (Kq59.out _).mono ?_
      rintro e vq59 ⟨rfl, hbq59⟩
      have HRq59 := Lib.hid (HRq57.out.below hbq59)
      have HBq59 := Lib.hid (below_next HBq57.out hbq59)
      clear hbq59
      go_upto_region 10 with fail
      have l60 := HRq59.out.tail.head
      go_wp2_with (refine wpList_runsV (o := ⟨some 71, _, _, _, _, _⟩) rfl (.agg cq50) (run_loadR rfl rfl l60 Try.underlying26 rfl (C.base.info Rq50.out)) ?_)
      have kq61 := fun W : World => (C.isZero Rq50.out) W
      rw [decide_eq_true (show n48 = 0 from (by rw [← Hn48.out, HX0.out]; exact root_zero.1))] at kq61
      have Kq61 := Lib.hid kq61
      clear kq61
      with_reducible refine (Kq61.out _).mono ?_
      rintro e vq61 ⟨rfl, hbq61⟩
      have HRq61 := Lib.hid (HRq59.out.below hbq61)
      have HBq61 := Lib.hid (below_next HBq59.out hbq61)
      clear hbq61
      go_wp2_with fail
      go_ret
      exact ⟨rfl, HBq61.out⟩
  · have HX0 := Lib.hid h0
    clear h0
    have HDB : Hid (isN n2 = !isN n14) := Lib.hid (by have h := sq_double HLn2.out HX0.out; rwa [Hn14.out] at h)
    cases his : isN n2
    · have HIS := Lib.hid his
      clear his
      by_cases hrx : n10 = n2
      · have HRX := Lib.hid hrx
        clear hrx
        refine wp_region_noPanic ?_
        refine wp_region_held_drew (S := fun W => Below Wq13.heap.size Wq13 W) (by kernel_rfl) (by exact (Below.refl _ _).drew) (fun hS => ?_)
        refine' take_at 0 rfl (by kernel_rfl) (by kernel_rfl) (by kernel_rfl) (fun _ _ _ h => h) (by rfl) hS ?_ ?_ ?_
        rotate_left 2
        · intro W hSW; go_simp; try with_reducible rfl
        · simp only [List.set_cons_succ, List.set_cons_zero]; rfl
        refine' take_at 1 rfl (by kernel_rfl) (by kernel_rfl) (by kernel_rfl) (fun _ _ _ h => h) (by rfl) hS ?_ ?_ ?_
        rotate_left 2
        · intro W hSW; go_simp; try with_reducible rfl
        · simp only [List.set_cons_succ, List.set_cons_zero]; rfl
        refine' take_at 2 rfl (by kernel_rfl) (by kernel_rfl) (by kernel_rfl) (fun _ _ _ h => h) (by rfl) hS ?_ ?_ ?_
        rotate_left 2
        · intro W hSW; go_simp; try with_reducible rfl
        · simp only [List.set_cons_succ, List.set_cons_zero]; rfl
        refine' take_at 3 rfl (by kernel_rfl) (by kernel_rfl) (by kernel_rfl) (fun _ _ _ h => h) (by rfl) hS ?_ ?_ ?_
        rotate_left 2
        · intro W hSW; go_simp; try with_reducible rfl
        · simp only [List.set_cons_succ, List.set_cons_zero]; rfl
        refine' take_at 4 rfl (by kernel_rfl) (by kernel_rfl) (by kernel_rfl) (fun _ _ _ h => h) (by rfl) hS ?_ ?_ ?_
        rotate_left 2
        · intro W hSW; go_simp; try with_reducible rfl
        · simp only [List.set_cons_succ, List.set_cons_zero]; rfl
        refine' take_at 5 rfl (by kernel_rfl) (by kernel_rfl) (by kernel_rfl) (fun _ _ _ h => h) (by rfl) hS ?_ ?_ ?_
        rotate_left 2
        · intro W hSW; go_simp; try with_reducible rfl
        · simp only [List.set_cons_succ, List.set_cons_zero]; rfl
        refine' take_at 6 rfl (by kernel_rfl) (by kernel_rfl) (by kernel_rfl) (fun _ _ _ h => h) (by rfl) hS ?_ ?_ ?_
        rotate_left 2
        · intro W hSW; go_simp; try with_reducible rfl
        · simp only [List.set_cons_succ, List.set_cons_zero]; rfl
        refine' take_at 7 rfl (by kernel_rfl) (by kernel_rfl) (by kernel_rfl) (fun _ _ _ h => h) (by rfl) hS ?_ ?_ ?_
        rotate_left 2
        · intro W hSW; exact run_loadR rfl rfl (HRq13.out.below hSW).head Try.underlying26 rfl (C.base.info Rq12.out)
        · simp only [List.set_cons_succ, List.set_cons_zero]; rfl
        refine call_at 8 rfl (by kernel_rfl) (by rfl) (fun K hK => ?_)
        go_simp
        have Ht62 : Hid (decide (n10 % 2 = 1) = false) := Lib.hid (decide_eq_false (by rw [← Hn10.out]; have := rootN_even n6; omega))
        have kq63 := fun W : World => (C.odd Rq12.out) W
        rw [Ht62.out] at kq63
        have Kq63 := Lib.hid kq63
        clear kq63
        with_reducible refine (Kq63.out _).mono ?_
        rintro e vq63 ⟨rfl, hbq63⟩
        have kbq63 := below_next hS hbq63
        clear hS hbq63
        refine hK.out _ _ (by exact kbq63) (fun hS => ?_)
        clear hK K
        refine' take_at 9 rfl (by kernel_rfl) (by kernel_rfl) (by kernel_rfl) (fun _ _ _ h => h) (by rfl) hS ?_ ?_ ?_
        rotate_left 2
        · intro W hSW; go_simp; try with_reducible rfl
        · simp only [List.set_cons_succ, List.set_cons_zero]; rfl
        refine' take_at 10 rfl (by kernel_rfl) (by kernel_rfl) (by kernel_rfl) (fun _ _ _ h => h) (by rfl) hS ?_ ?_ ?_
        rotate_left 2
        · intro W hSW; go_simp; try with_reducible rfl
        · simp only [List.set_cons_succ, List.set_cons_zero]; rfl
        refine' take_at 11 rfl (by kernel_rfl) (by kernel_rfl) (by kernel_rfl) (fun _ _ _ h => h) (by rfl) hS ?_ ?_ ?_
        rotate_left 2
        · intro W hSW; exact run_loadR rfl rfl (HRq13.out.below hSW).head Try.underlying26 rfl (C.base.info Rq12.out)
        · simp only [List.set_cons_succ, List.set_cons_zero]; rfl
        refine' take_at 13 rfl (by kernel_rfl) (by kernel_rfl) (by kernel_rfl) (fun _ _ _ h => h) (by rfl) hS ?_ ?_ ?_
        rotate_left 2
        · intro W hSW; exact run_loadR rfl rfl (HRq13.out.below hSW).tail.head Try.underlying26 rfl (C.base.info Rq7.out)
        · simp only [List.set_cons_succ, List.set_cons_zero]; rfl
        refine call_at 12 rfl (by kernel_rfl) (by rfl) (fun K hK => ?_)
        go_simp
        obtain ⟨n64, hn64⟩ : ∃ x : Nat, (n10 * n10) % PP = x := ⟨_, rfl⟩
        have Hn64 := Lib.hid hn64
        have HLn64 : Hid (n64 < PP) := Lib.hid (by rw [← hn64]; exact Nat.mod_lt _ (by decide))
        clear hn64
        with_reducible refine ((C.square Rq12.out) _).mono ?_
        rintro e vq65 ⟨cq65, rfl, rq65, hbq65⟩
        rw [Hn64.out] at rq65
        have Rq65 := Lib.hid rq65
        clear rq65
        have kbq65 := below_next kbq63 hbq65
        clear hS hbq65
        refine hK.out _ _ (by exact kbq65) (fun hS => ?_)
        clear hK K
        refine call_at 14 rfl (by kernel_rfl) (by rfl) (fun K hK => ?_)
        go_simp
        have kq66 := fun W : World => (C.equal Rq65.out Rq7.out) W
        rw [decide_eq_true (show n64 = n6 from (by rw [← Hn64.out, ← Hn10.out]; exact rootN_sq (show isN n6 = true by rw [← Hn6.out]; exact isN_sq _)))] at kq66
        have Kq66 := Lib.hid kq66
        clear kq66
        with_reducible refine (Kq66.out _).mono ?_
        rintro e vq66 ⟨rfl, hbq66⟩
        have kbq66 := below_next kbq65 hbq66
        clear hS hbq66
        refine hK.out _ _ (by exact kbq66) (fun hS => ?_)
        clear hK K
        refine' take_at 15 rfl (by kernel_rfl) (by kernel_rfl) (by kernel_rfl) (fun _ _ _ h => h) (by rfl) hS ?_ ?_ ?_
        rotate_left 2
        · intro W hSW; go_simp; try with_reducible rfl
        · simp only [List.set_cons_succ, List.set_cons_zero]; rfl
        refine' take_at 16 rfl (by kernel_rfl) (by kernel_rfl) (by kernel_rfl) (fun _ _ _ h => h) (by rfl) hS ?_ ?_ ?_
        rotate_left 2
        · intro W hSW; go_simp; try with_reducible rfl
        · simp only [List.set_cons_succ, List.set_cons_zero]; rfl
        refine' take_at 17 rfl (by kernel_rfl) (by kernel_rfl) (by kernel_rfl) (fun _ _ _ h => h) (by rfl) hS ?_ ?_ ?_
        rotate_left 2
        · intro W hSW; go_simp; try with_reducible rfl
        · simp only [List.set_cons_succ, List.set_cons_zero]; rfl
        refine' take_at 18 rfl (by kernel_rfl) (by kernel_rfl) (by kernel_rfl) (fun _ _ _ h => h) (by rfl) hS ?_ ?_ ?_
        rotate_left 2
        · intro W hSW; exact run_loadR rfl rfl (HRq13.out.below hSW).head Try.underlying26 rfl (C.base.info Rq12.out)
        · simp only [List.set_cons_succ, List.set_cons_zero]; rfl
        refine' take_at 19 rfl (by kernel_rfl) (by kernel_rfl) (by kernel_rfl) (fun _ _ _ h => h) (by rfl) hS ?_ ?_ ?_
        rotate_left 2
        · intro W hSW; exact run_loadR rfl rfl (HRq13.out.below hSW).tail.tail.head Try.underlying26 rfl (C.base.info Rq3.out)
        · simp only [List.set_cons_succ, List.set_cons_zero]; rfl
        refine call_at 20 rfl (by kernel_rfl) (by rfl) (fun K hK => ?_)
        go_simp
        have kq67 := fun W : World => (C.equal Rq12.out Rq3.out) W
        rw [decide_eq_true (show n10 = n2 from HRX.out)] at kq67
        have Kq67 := Lib.hid kq67
        clear kq67
        with_reducible refine (Kq67.out _).mono ?_
        rintro e vq67 ⟨rfl, hbq67⟩
        have kbq67 := below_next kbq66 hbq67
        clear hS hbq67
        refine hK.out _ _ (by exact kbq67) (fun hS => ?_)
        clear hK K
        refine' take_at 21 rfl (by kernel_rfl) (by kernel_rfl) (by kernel_rfl) (fun _ _ _ h => h) (by rfl) hS ?_ ?_ ?_
        rotate_left 2
        · intro W hSW; go_simp; try with_reducible rfl
        · simp only [List.set_cons_succ, List.set_cons_zero]; rfl
        refine' take_at 22 rfl (by kernel_rfl) (by kernel_rfl) (by kernel_rfl) (fun _ _ _ h => h) (by rfl) hS ?_ ?_ ?_
        rotate_left 2
        · intro W hSW; go_simp; try with_reducible rfl
        · simp only [List.set_cons_succ, List.set_cons_zero]; rfl
        refine' skip_at 23 rfl (by kernel_rfl) (by kernel_rfl) (by kernel_rfl) (fun _ _ _ h => h) (by rfl) hS ?_ ?_
        rotate_left 1
        · simp only [List.set_cons_succ, List.set_cons_zero]; rfl
        refine' skip_at 24 rfl (by kernel_rfl) (by kernel_rfl) (by kernel_rfl) (fun _ _ _ h => h) (by rfl) hS ?_ ?_
        rotate_left 1
        · simp only [List.set_cons_succ, List.set_cons_zero]; rfl
        refine' skip_at 25 rfl (by kernel_rfl) (by kernel_rfl) (by kernel_rfl) (fun _ _ _ h => h) (by rfl) hS ?_ ?_
        rotate_left 1
        · simp only [List.set_cons_succ, List.set_cons_zero]; rfl
        refine' skip_at 26 rfl (by kernel_rfl) (by kernel_rfl) (by kernel_rfl) (fun _ _ _ h => h) (by rfl) hS ?_ ?_
        rotate_left 1
        · simp only [List.set_cons_succ, List.set_cons_zero]; rfl
        refine' skip_at 27 rfl (by kernel_rfl) (by kernel_rfl) (by kernel_rfl) (fun _ _ _ h => h) (by rfl) hS ?_ ?_
        rotate_left 1
        · simp only [List.set_cons_succ, List.set_cons_zero]; rfl
        refine' take_at 28 rfl (by kernel_rfl) (by kernel_rfl) (by kernel_rfl) (fun _ _ _ h => h) (by rfl) hS ?_ ?_ ?_
        rotate_left 2
        · intro W hSW; go_simp; try with_reducible rfl
        · simp only [List.set_cons_succ, List.set_cons_zero]; rfl
        refine' take_at 29 rfl (by kernel_rfl) (by kernel_rfl) (by kernel_rfl) (fun _ _ _ h => h) (by rfl) hS ?_ ?_ ?_
        rotate_left 2
        · intro W hSW; go_simp; try with_reducible rfl
        · simp only [List.set_cons_succ, List.set_cons_zero]; rfl
        refine wpAnyH_done (by kernel_rfl) ?_ _
        refine NoPanic.normal ?_
        clear hS
        (try simp only [Act.put])
        have HRq68 := Lib.hid (HRq13.out.below kbq67)
        have HBq68 := Lib.hid (below_next HBq13.out kbq67)
        go_upto_region 7 with fail
        have l69 := HRq68.out.tail.tail.head
        go_wp2_with (refine wpList_load_row rfl 26 (.tmp 4) rfl gq4 rfl 26 cq3 (0, 0) _ l69 Try.underlying26 rfl (C.base.info Rq3.out) ?_)
        obtain ⟨n70, hn70⟩ : ∃ y : Nat, rootN n2 = y := ⟨_, rfl⟩
        have Hn70 := Lib.hid hn70
        have HLn70 : Hid (n70 < PP) := Lib.hid (by rw [← hn70]; exact rootN_lt _)
        clear hn70
        have Ht71 : Hid (isN n2 = false) := Lib.hid HIS.out
        have kq72 := fun W : World => (D.sqrt Rq3.out) W
        rw [Hn70.out, Ht71.out] at kq72
        have Kq72 := Lib.hid kq72
        clear kq72
        with_reducible refine (Kq72.out _).mono ?_
        rintro e vq72 ⟨cq72, rfl, rq72, hbq72⟩
        have Rq72 := Lib.hid rq72
        clear rq72
        have HRq72 := Lib.hid (HRq68.out.below hbq72)
        have HBq72 := Lib.hid (below_next HBq68.out hbq72)
        clear hbq72
        have h0q73 : (vq72.alloc (.cells Z 26)).heap[vq72.heap.size]? = some (.cells Z 26 (0, 0)) := heap_alloc_new _ _
        have HRq73 := Lib.hid (HRq72.out.new Z cq72 26)
        have HBq73 := Lib.hid (below_new HBq72.out Z cq72 26)
        have HNq73 := Lib.hid HRq72.out.ne
        have HGq73 := Lib.hid HBq72.out.size
        go_upto_region 8 with (refine wpList_store_row rfl 26 (.tmp 8) (.tmp 55) rfl vq72.heap.size cq72 rfl rfl 26 Z h0q73 (C.base.info Rq72.out) (C.base.size RZ Rq72.out) (C.base.one Rq72.out) ?_)
        obtain ⟨Wq73, hWq73⟩ : ∃ W, (vq72.alloc (.cells Z 26)).setRow vq72.heap.size cq72 = W := ⟨_, rfl⟩
        obtain ⟨gq73, hgq73⟩ : ∃ g, vq72.heap.size = g := ⟨_, rfl⟩
        rw [hWq73, hgq73] at HRq73
        rw [hWq73] at HBq73
        rw [hgq73] at HNq73 HGq73
        rw [hWq73, hgq73]
        clear hWq73 hgq73 h0q73
        have NEq73_0 : Hid (g0 ≠ gq73) := Lib.hid (HNq73.out (g0, (arrB a), 22) (by simp))
        have NEq73_1 : Hid (gq4 ≠ gq73) := Lib.hid (HNq73.out (gq4, cq3, 26) (by simp))
        have NEq73_2 : Hid (gq8 ≠ gq73) := Lib.hid (HNq73.out (gq8, cq7, 26) (by simp))
        have NEq73_3 : Hid (gq13 ≠ gq73) := Lib.hid (HNq73.out (gq13, cq12, 26) (by simp))
        refine wp_region_noPanic ?_
        refine wp_region_heldB 7 10 26 Z (by kernel_rfl) (by kernel_rfl) ⟨by kernel_rfl, by kernel_rfl, hZ, fun _ _ _ h => h⟩ (fun hA hS => ?_)
        refine' take_atB 1 hA rfl (by kernel_rfl) (by kernel_rfl) (by kernel_rfl) (by kernel_rfl) (by kernel_rfl) (by rfl) (by rfl) hS ?_ ?_ ?_
        rotate_left 2
        · intro W hSW; exact run_loadR rfl rfl (HRq73.out.below hSW).tail.tail.tail.head Try.underlying26 rfl (C.base.info Rq3.out)
        · simp only [List.set_cons_succ, List.set_cons_zero]; rfl
        refine call_atB 0 hA rfl (by kernel_rfl) (by kernel_rfl) (by kernel_rfl) (by kernel_rfl) (by rfl) (by rfl) hS (fun oq74 Xq74 hS K hK => ?_)
        go_simp
        have s58_2 : ∀ W : World, Calls Try.prog 24 #[.int .u64 2] W (RetFe R W 2) := fun W => C.small 2 (by decide) W
        with_reducible refine (s58_2 _).mono ?_
        rintro e vq74 ⟨cq74, rfl, rq74, hbq74⟩
        have Rq74 := Lib.hid rq74
        clear rq74
        refine hK.out _ _ hbq74 (fun hS => ?_)
        clear hK K hbq74
        refine call_atB 2 hA rfl (by kernel_rfl) (by kernel_rfl) (by kernel_rfl) (by kernel_rfl) (by rfl) (by rfl) hS (fun oq75 Xq75 hS K hK => ?_)
        go_simp
        with_reducible refine ((C.mul Rq74.out Rq3.out) _).mono ?_
        rintro e vq75 ⟨cq75, rfl, rq75, hbq75⟩
        rw [Hn14.out] at rq75
        have Rq75 := Lib.hid rq75
        clear rq75
        refine hK.out _ _ hbq75 (fun hS => ?_)
        clear hK K hbq75
        refine call_atB 3 hA rfl (by kernel_rfl) (by kernel_rfl) (by kernel_rfl) (by kernel_rfl) (by rfl) (by rfl) hS (fun oq78 Xq78 hS K hK => ?_)
        go_simp
        obtain ⟨n76, hn76⟩ : ∃ y : Nat, rootN n14 = y := ⟨_, rfl⟩
        have Hn76 := Lib.hid hn76
        have HLn76 : Hid (n76 < PP) := Lib.hid (by rw [← hn76]; exact rootN_lt _)
        clear hn76
        have Ht77 : Hid (isN n14 = true) := Lib.hid (dbl_t HDB.out HIS.out)
        have kq78 := fun W : World => (D.sqrt Rq75.out) W
        rw [Hn76.out, Ht77.out] at kq78
        have Kq78 := Lib.hid kq78
        clear kq78
        with_reducible refine (Kq78.out _).mono ?_
        rintro e vq78 ⟨cq78, rfl, rq78, hbq78⟩
        have Rq78 := Lib.hid rq78
        clear rq78
        refine hK.out _ _ hbq78 (fun hS => ?_)
        clear hK K hbq78
        refine' take_atB 4 hA rfl (by kernel_rfl) (by kernel_rfl) (by kernel_rfl) (by kernel_rfl) (by kernel_rfl) (by rfl) (by rfl) hS ?_ ?_ ?_
        rotate_left 2
        · intro W hSW; go_simp; try with_reducible rfl
        · simp only [List.set_cons_succ, List.set_cons_zero]; rfl
        refine' take_atB 5 hA rfl (by kernel_rfl) (by kernel_rfl) (by kernel_rfl) (by kernel_rfl) (by kernel_rfl) (by rfl) (by rfl) hS ?_ ?_ ?_
        rotate_left 2
        · intro W hSW; go_simp; try with_reducible rfl
        · simp only [List.set_cons_succ, List.set_cons_zero]; rfl
        refine' take_atB 6 hA rfl (by kernel_rfl) (by kernel_rfl) (by kernel_rfl) (by kernel_rfl) (by kernel_rfl) (by rfl) (by rfl) hS ?_ ?_ ?_
        rotate_left 2
        · intro W hSW; go_simp; try with_reducible rfl
        · simp only [List.set_cons_succ, List.set_cons_zero]; rfl
        refine' store_atB 8 hA rfl (by kernel_rfl) (by kernel_rfl) (by kernel_rfl) hS (by kernel_rfl) rfl (by intro h; cases h) (C.base.info Rq78.out) (C.base.size RZ Rq78.out) (C.base.one Rq78.out) ?_ ?_
        rotate_left 1
        · intro g; simp only [List.set_cons_succ, List.set_cons_zero]; rfl
        intro gq79 Wq79 hgq79 hbq79 hrowq79
        clear hA hS
        refine' take_at 9 rfl (by kernel_rfl) (by kernel_rfl) (by kernel_rfl) (fun _ _ _ h => h) (by rfl) hbq79 ?_ ?_ ?_
        rotate_left 2
        · intro W hSW; go_simp; try with_reducible rfl
        · simp only [List.set_cons_succ, List.set_cons_zero]; rfl
        refine wpAnyH_done (by kernel_rfl) ?_ _
        refine NoPanic.normal ?_
        (try simp only [Act.put])
        have HRq79 : Hid (RowsW Wq79 [(gq79, cq78, 26), (gq73, cq72, 26), (gq13, cq12, 26), (gq8, cq7, 26), (gq4, cq3, 26), (g0, (arrB a), 22)]) := Lib.hid ⟨hrowq79, HRq73.out.below hbq79⟩
        have HBq79 := Lib.hid (below_next HBq73.out hbq79)
        have NEq79_0 : Hid (g0 ≠ gq79) := Lib.hid (by have h := HRq73.out.lt (g0, (arrB a), 22) (by simp); have := hgq79; simp only at h; omega)
        have NEq79_1 : Hid (gq4 ≠ gq79) := Lib.hid (by have h := HRq73.out.lt (gq4, cq3, 26) (by simp); have := hgq79; simp only at h; omega)
        have NEq79_2 : Hid (gq8 ≠ gq79) := Lib.hid (by have h := HRq73.out.lt (gq8, cq7, 26) (by simp); have := hgq79; simp only at h; omega)
        have NEq79_3 : Hid (gq13 ≠ gq79) := Lib.hid (by have h := HRq73.out.lt (gq13, cq12, 26) (by simp); have := hgq79; simp only at h; omega)
        have NEq79_4 : Hid (gq73 ≠ gq79) := Lib.hid (by have h := HRq73.out.lt (gq73, cq72, 26) (by simp); have := hgq79; simp only at h; omega)
        have HGq79 := Lib.hid (Nat.le_trans HBq73.out.size hgq79)
        clear hrowq79 hbq79 hgq79
        go_upto_region 9 with fail
        have l80 := HRq79.out.tail.tail.tail.tail.head
        go_wp2_with (refine wpList_load_row rfl 26 (.tmp 4) rfl gq4 rfl 26 cq3 (0, 0) _ l80 Try.underlying26 rfl (C.base.info Rq3.out) ?_)
        have kq81 := fun W : World => (C.isZero Rq3.out) W
        rw [decide_eq_false (show ¬ n2 = 0 from HX0.out)] at kq81
        have Kq81 := Lib.hid kq81
        clear kq81
        with_reducible refine (Kq81.out _).mono ?_
        rintro e vq81 ⟨rfl, hbq81⟩
        have HRq81 := Lib.hid (HRq79.out.below hbq81)
        have HBq81 := Lib.hid (below_next HBq79.out hbq81)
        clear hbq81
        go_upto_region 11 with fail
        have l82 := HRq81.out.tail.head
        go_wp2_with (refine wpList_runsV (o := ⟨some 80, _, _, _, _, _⟩) rfl (.agg cq72) (run_loadR rfl rfl l82 Try.underlying26 rfl (C.base.info Rq72.out)) ?_)
        have kq83 := fun W : World => (C.isZero Rq72.out) W
        rw [decide_eq_true (show n70 = 0 from (by rw [← Hn70.out]; exact rootN_none HIS.out))] at kq83
        have Kq83 := Lib.hid kq83
        clear kq83
        with_reducible refine (Kq83.out _).mono ?_
        rintro e vq83 ⟨rfl, hbq83⟩
        have HRq83 := Lib.hid (HRq81.out.below hbq83)
        have HBq83 := Lib.hid (below_next HBq81.out hbq83)
        clear hbq83
        go_wp2_with fail
        go_ret
        exact ⟨rfl, HBq83.out⟩
      · have HRX := Lib.hid ((show n10 = n2 ∨ n10 = (PP - n2) % PP from by rw [← Hn10.out]; exact root_two HLn2.out (rootN_lt _) (by rw [rootN_sq (show isN n6 = true by rw [← Hn6.out]; exact isN_sq _), Hn6.out])).resolve_left hrx)
        have HRN := Lib.hid hrx
        clear hrx
        refine wp_region_noPanic ?_
        refine wp_region_held_drew (S := fun W => Below Wq13.heap.size Wq13 W) (by kernel_rfl) (by exact (Below.refl _ _).drew) (fun hS => ?_)
        refine' take_at 0 rfl (by kernel_rfl) (by kernel_rfl) (by kernel_rfl) (fun _ _ _ h => h) (by rfl) hS ?_ ?_ ?_
        rotate_left 2
        · intro W hSW; go_simp; try with_reducible rfl
        · simp only [List.set_cons_succ, List.set_cons_zero]; rfl
        refine' take_at 1 rfl (by kernel_rfl) (by kernel_rfl) (by kernel_rfl) (fun _ _ _ h => h) (by rfl) hS ?_ ?_ ?_
        rotate_left 2
        · intro W hSW; go_simp; try with_reducible rfl
        · simp only [List.set_cons_succ, List.set_cons_zero]; rfl
        refine' take_at 2 rfl (by kernel_rfl) (by kernel_rfl) (by kernel_rfl) (fun _ _ _ h => h) (by rfl) hS ?_ ?_ ?_
        rotate_left 2
        · intro W hSW; go_simp; try with_reducible rfl
        · simp only [List.set_cons_succ, List.set_cons_zero]; rfl
        refine' take_at 3 rfl (by kernel_rfl) (by kernel_rfl) (by kernel_rfl) (fun _ _ _ h => h) (by rfl) hS ?_ ?_ ?_
        rotate_left 2
        · intro W hSW; go_simp; try with_reducible rfl
        · simp only [List.set_cons_succ, List.set_cons_zero]; rfl
        refine' take_at 4 rfl (by kernel_rfl) (by kernel_rfl) (by kernel_rfl) (fun _ _ _ h => h) (by rfl) hS ?_ ?_ ?_
        rotate_left 2
        · intro W hSW; go_simp; try with_reducible rfl
        · simp only [List.set_cons_succ, List.set_cons_zero]; rfl
        refine' take_at 5 rfl (by kernel_rfl) (by kernel_rfl) (by kernel_rfl) (fun _ _ _ h => h) (by rfl) hS ?_ ?_ ?_
        rotate_left 2
        · intro W hSW; go_simp; try with_reducible rfl
        · simp only [List.set_cons_succ, List.set_cons_zero]; rfl
        refine' take_at 6 rfl (by kernel_rfl) (by kernel_rfl) (by kernel_rfl) (fun _ _ _ h => h) (by rfl) hS ?_ ?_ ?_
        rotate_left 2
        · intro W hSW; go_simp; try with_reducible rfl
        · simp only [List.set_cons_succ, List.set_cons_zero]; rfl
        refine' take_at 7 rfl (by kernel_rfl) (by kernel_rfl) (by kernel_rfl) (fun _ _ _ h => h) (by rfl) hS ?_ ?_ ?_
        rotate_left 2
        · intro W hSW; exact run_loadR rfl rfl (HRq13.out.below hSW).head Try.underlying26 rfl (C.base.info Rq12.out)
        · simp only [List.set_cons_succ, List.set_cons_zero]; rfl
        refine call_at 8 rfl (by kernel_rfl) (by rfl) (fun K hK => ?_)
        go_simp
        have Ht84 : Hid (decide (n10 % 2 = 1) = false) := Lib.hid (decide_eq_false (by rw [← Hn10.out]; have := rootN_even n6; omega))
        have kq85 := fun W : World => (C.odd Rq12.out) W
        rw [Ht84.out] at kq85
        have Kq85 := Lib.hid kq85
        clear kq85
        with_reducible refine (Kq85.out _).mono ?_
        rintro e vq85 ⟨rfl, hbq85⟩
        have kbq85 := below_next hS hbq85
        clear hS hbq85
        refine hK.out _ _ (by exact kbq85) (fun hS => ?_)
        clear hK K
        refine' take_at 9 rfl (by kernel_rfl) (by kernel_rfl) (by kernel_rfl) (fun _ _ _ h => h) (by rfl) hS ?_ ?_ ?_
        rotate_left 2
        · intro W hSW; go_simp; try with_reducible rfl
        · simp only [List.set_cons_succ, List.set_cons_zero]; rfl
        refine' take_at 10 rfl (by kernel_rfl) (by kernel_rfl) (by kernel_rfl) (fun _ _ _ h => h) (by rfl) hS ?_ ?_ ?_
        rotate_left 2
        · intro W hSW; go_simp; try with_reducible rfl
        · simp only [List.set_cons_succ, List.set_cons_zero]; rfl
        refine' take_at 11 rfl (by kernel_rfl) (by kernel_rfl) (by kernel_rfl) (fun _ _ _ h => h) (by rfl) hS ?_ ?_ ?_
        rotate_left 2
        · intro W hSW; exact run_loadR rfl rfl (HRq13.out.below hSW).head Try.underlying26 rfl (C.base.info Rq12.out)
        · simp only [List.set_cons_succ, List.set_cons_zero]; rfl
        refine' take_at 13 rfl (by kernel_rfl) (by kernel_rfl) (by kernel_rfl) (fun _ _ _ h => h) (by rfl) hS ?_ ?_ ?_
        rotate_left 2
        · intro W hSW; exact run_loadR rfl rfl (HRq13.out.below hSW).tail.head Try.underlying26 rfl (C.base.info Rq7.out)
        · simp only [List.set_cons_succ, List.set_cons_zero]; rfl
        refine call_at 12 rfl (by kernel_rfl) (by rfl) (fun K hK => ?_)
        go_simp
        obtain ⟨n86, hn86⟩ : ∃ x : Nat, (n10 * n10) % PP = x := ⟨_, rfl⟩
        have Hn86 := Lib.hid hn86
        have HLn86 : Hid (n86 < PP) := Lib.hid (by rw [← hn86]; exact Nat.mod_lt _ (by decide))
        clear hn86
        with_reducible refine ((C.square Rq12.out) _).mono ?_
        rintro e vq87 ⟨cq87, rfl, rq87, hbq87⟩
        rw [Hn86.out] at rq87
        have Rq87 := Lib.hid rq87
        clear rq87
        have kbq87 := below_next kbq85 hbq87
        clear hS hbq87
        refine hK.out _ _ (by exact kbq87) (fun hS => ?_)
        clear hK K
        refine call_at 14 rfl (by kernel_rfl) (by rfl) (fun K hK => ?_)
        go_simp
        have kq88 := fun W : World => (C.equal Rq87.out Rq7.out) W
        rw [decide_eq_true (show n86 = n6 from (by rw [← Hn86.out, ← Hn10.out]; exact rootN_sq (show isN n6 = true by rw [← Hn6.out]; exact isN_sq _)))] at kq88
        have Kq88 := Lib.hid kq88
        clear kq88
        with_reducible refine (Kq88.out _).mono ?_
        rintro e vq88 ⟨rfl, hbq88⟩
        have kbq88 := below_next kbq87 hbq88
        clear hS hbq88
        refine hK.out _ _ (by exact kbq88) (fun hS => ?_)
        clear hK K
        refine' take_at 15 rfl (by kernel_rfl) (by kernel_rfl) (by kernel_rfl) (fun _ _ _ h => h) (by rfl) hS ?_ ?_ ?_
        rotate_left 2
        · intro W hSW; go_simp; try with_reducible rfl
        · simp only [List.set_cons_succ, List.set_cons_zero]; rfl
        refine' take_at 16 rfl (by kernel_rfl) (by kernel_rfl) (by kernel_rfl) (fun _ _ _ h => h) (by rfl) hS ?_ ?_ ?_
        rotate_left 2
        · intro W hSW; go_simp; try with_reducible rfl
        · simp only [List.set_cons_succ, List.set_cons_zero]; rfl
        refine' take_at 17 rfl (by kernel_rfl) (by kernel_rfl) (by kernel_rfl) (fun _ _ _ h => h) (by rfl) hS ?_ ?_ ?_
        rotate_left 2
        · intro W hSW; go_simp; try with_reducible rfl
        · simp only [List.set_cons_succ, List.set_cons_zero]; rfl
        refine' take_at 18 rfl (by kernel_rfl) (by kernel_rfl) (by kernel_rfl) (fun _ _ _ h => h) (by rfl) hS ?_ ?_ ?_
        rotate_left 2
        · intro W hSW; exact run_loadR rfl rfl (HRq13.out.below hSW).head Try.underlying26 rfl (C.base.info Rq12.out)
        · simp only [List.set_cons_succ, List.set_cons_zero]; rfl
        refine' take_at 19 rfl (by kernel_rfl) (by kernel_rfl) (by kernel_rfl) (fun _ _ _ h => h) (by rfl) hS ?_ ?_ ?_
        rotate_left 2
        · intro W hSW; exact run_loadR rfl rfl (HRq13.out.below hSW).tail.tail.head Try.underlying26 rfl (C.base.info Rq3.out)
        · simp only [List.set_cons_succ, List.set_cons_zero]; rfl
        refine call_at 20 rfl (by kernel_rfl) (by rfl) (fun K hK => ?_)
        go_simp
        have kq89 := fun W : World => (C.equal Rq12.out Rq3.out) W
        rw [decide_eq_false (show ¬ n10 = n2 from HRN.out)] at kq89
        have Kq89 := Lib.hid kq89
        clear kq89
        with_reducible refine (Kq89.out _).mono ?_
        rintro e vq89 ⟨rfl, hbq89⟩
        have kbq89 := below_next kbq88 hbq89
        clear hS hbq89
        refine hK.out _ _ (by exact kbq89) (fun hS => ?_)
        clear hK K
        refine' take_at 21 rfl (by kernel_rfl) (by kernel_rfl) (by kernel_rfl) (fun _ _ _ h => h) (by rfl) hS ?_ ?_ ?_
        rotate_left 2
        · intro W hSW; go_simp; try with_reducible rfl
        · simp only [List.set_cons_succ, List.set_cons_zero]; rfl
        refine' take_at 22 rfl (by kernel_rfl) (by kernel_rfl) (by kernel_rfl) (fun _ _ _ h => h) (by rfl) hS ?_ ?_ ?_
        rotate_left 2
        · intro W hSW; go_simp; try with_reducible rfl
        · simp only [List.set_cons_succ, List.set_cons_zero]; rfl
        refine' take_at 23 rfl (by kernel_rfl) (by kernel_rfl) (by kernel_rfl) (fun _ _ _ h => h) (by rfl) hS ?_ ?_ ?_
        rotate_left 2
        · intro W hSW; exact run_loadR rfl rfl (HRq13.out.below hSW).head Try.underlying26 rfl (C.base.info Rq12.out)
        · simp only [List.set_cons_succ, List.set_cons_zero]; rfl
        refine' take_at 24 rfl (by kernel_rfl) (by kernel_rfl) (by kernel_rfl) (fun _ _ _ h => h) (by rfl) hS ?_ ?_ ?_
        rotate_left 2
        · intro W hSW; exact run_loadR rfl rfl (HRq13.out.below hSW).tail.tail.head Try.underlying26 rfl (C.base.info Rq3.out)
        · simp only [List.set_cons_succ, List.set_cons_zero]; rfl
        refine call_at 25 rfl (by kernel_rfl) (by rfl) (fun K hK => ?_)
        go_simp
        obtain ⟨n90, hn90⟩ : ∃ x : Nat, (PP - n2) % PP = x := ⟨_, rfl⟩
        have Hn90 := Lib.hid hn90
        have HLn90 : Hid (n90 < PP) := Lib.hid (by rw [← hn90]; exact Nat.mod_lt _ (by decide))
        clear hn90
        with_reducible refine ((C.neg Rq3.out) _).mono ?_
        rintro e vq91 ⟨cq91, rfl, rq91, hbq91⟩
        rw [Hn90.out] at rq91
        have Rq91 := Lib.hid rq91
        clear rq91
        have kbq91 := below_next kbq89 hbq91
        clear hS hbq91
        refine hK.out _ _ (by exact kbq91) (fun hS => ?_)
        clear hK K
        refine call_at 26 rfl (by kernel_rfl) (by rfl) (fun K hK => ?_)
        go_simp
        have kq92 := fun W : World => (C.equal Rq12.out Rq91.out) W
        rw [decide_eq_true (show n10 = n90 from (by rw [← Hn90.out]; exact HRX.out))] at kq92
        have Kq92 := Lib.hid kq92
        clear kq92
        with_reducible refine (Kq92.out _).mono ?_
        rintro e vq92 ⟨rfl, hbq92⟩
        have kbq92 := below_next kbq91 hbq92
        clear hS hbq92
        refine hK.out _ _ (by exact kbq92) (fun hS => ?_)
        clear hK K
        refine' take_at 27 rfl (by kernel_rfl) (by kernel_rfl) (by kernel_rfl) (fun _ _ _ h => h) (by rfl) hS ?_ ?_ ?_
        rotate_left 2
        · intro W hSW; go_simp; try with_reducible rfl
        · simp only [List.set_cons_succ, List.set_cons_zero]; rfl
        refine' take_at 28 rfl (by kernel_rfl) (by kernel_rfl) (by kernel_rfl) (fun _ _ _ h => h) (by rfl) hS ?_ ?_ ?_
        rotate_left 2
        · intro W hSW; go_simp; try with_reducible rfl
        · simp only [List.set_cons_succ, List.set_cons_zero]; rfl
        refine' take_at 29 rfl (by kernel_rfl) (by kernel_rfl) (by kernel_rfl) (fun _ _ _ h => h) (by rfl) hS ?_ ?_ ?_
        rotate_left 2
        · intro W hSW; go_simp; try with_reducible rfl
        · simp only [List.set_cons_succ, List.set_cons_zero]; rfl
        refine wpAnyH_done (by kernel_rfl) ?_ _
        refine NoPanic.normal ?_
        clear hS
        (try simp only [Act.put])
        have HRq93 := Lib.hid (HRq13.out.below kbq92)
        have HBq93 := Lib.hid (below_next HBq13.out kbq92)
        go_upto_region 7 with fail
        have l94 := HRq93.out.tail.tail.head
        go_wp2_with (refine wpList_load_row rfl 26 (.tmp 4) rfl gq4 rfl 26 cq3 (0, 0) _ l94 Try.underlying26 rfl (C.base.info Rq3.out) ?_)
        obtain ⟨n95, hn95⟩ : ∃ y : Nat, rootN n2 = y := ⟨_, rfl⟩
        have Hn95 := Lib.hid hn95
        have HLn95 : Hid (n95 < PP) := Lib.hid (by rw [← hn95]; exact rootN_lt _)
        clear hn95
        have Ht96 : Hid (isN n2 = false) := Lib.hid HIS.out
        have kq97 := fun W : World => (D.sqrt Rq3.out) W
        rw [Hn95.out, Ht96.out] at kq97
        have Kq97 := Lib.hid kq97
        clear kq97
        with_reducible refine (Kq97.out _).mono ?_
        rintro e vq97 ⟨cq97, rfl, rq97, hbq97⟩
        have Rq97 := Lib.hid rq97
        clear rq97
        have HRq97 := Lib.hid (HRq93.out.below hbq97)
        have HBq97 := Lib.hid (below_next HBq93.out hbq97)
        clear hbq97
        have h0q98 : (vq97.alloc (.cells Z 26)).heap[vq97.heap.size]? = some (.cells Z 26 (0, 0)) := heap_alloc_new _ _
        have HRq98 := Lib.hid (HRq97.out.new Z cq97 26)
        have HBq98 := Lib.hid (below_new HBq97.out Z cq97 26)
        have HNq98 := Lib.hid HRq97.out.ne
        have HGq98 := Lib.hid HBq97.out.size
        go_upto_region 8 with (refine wpList_store_row rfl 26 (.tmp 8) (.tmp 55) rfl vq97.heap.size cq97 rfl rfl 26 Z h0q98 (C.base.info Rq97.out) (C.base.size RZ Rq97.out) (C.base.one Rq97.out) ?_)
        obtain ⟨Wq98, hWq98⟩ : ∃ W, (vq97.alloc (.cells Z 26)).setRow vq97.heap.size cq97 = W := ⟨_, rfl⟩
        obtain ⟨gq98, hgq98⟩ : ∃ g, vq97.heap.size = g := ⟨_, rfl⟩
        rw [hWq98, hgq98] at HRq98
        rw [hWq98] at HBq98
        rw [hgq98] at HNq98 HGq98
        rw [hWq98, hgq98]
        clear hWq98 hgq98 h0q98
        have NEq98_0 : Hid (g0 ≠ gq98) := Lib.hid (HNq98.out (g0, (arrB a), 22) (by simp))
        have NEq98_1 : Hid (gq4 ≠ gq98) := Lib.hid (HNq98.out (gq4, cq3, 26) (by simp))
        have NEq98_2 : Hid (gq8 ≠ gq98) := Lib.hid (HNq98.out (gq8, cq7, 26) (by simp))
        have NEq98_3 : Hid (gq13 ≠ gq98) := Lib.hid (HNq98.out (gq13, cq12, 26) (by simp))
        refine wp_region_noPanic ?_
        refine wp_region_heldB 7 10 26 Z (by kernel_rfl) (by kernel_rfl) ⟨by kernel_rfl, by kernel_rfl, hZ, fun _ _ _ h => h⟩ (fun hA hS => ?_)
        refine' take_atB 1 hA rfl (by kernel_rfl) (by kernel_rfl) (by kernel_rfl) (by kernel_rfl) (by kernel_rfl) (by rfl) (by rfl) hS ?_ ?_ ?_
        rotate_left 2
        · intro W hSW; exact run_loadR rfl rfl (HRq98.out.below hSW).tail.tail.tail.head Try.underlying26 rfl (C.base.info Rq3.out)
        · simp only [List.set_cons_succ, List.set_cons_zero]; rfl
        refine call_atB 0 hA rfl (by kernel_rfl) (by kernel_rfl) (by kernel_rfl) (by kernel_rfl) (by rfl) (by rfl) hS (fun oq99 Xq99 hS K hK => ?_)
        go_simp
        have s58_2 : ∀ W : World, Calls Try.prog 24 #[.int .u64 2] W (RetFe R W 2) := fun W => C.small 2 (by decide) W
        with_reducible refine (s58_2 _).mono ?_
        rintro e vq99 ⟨cq99, rfl, rq99, hbq99⟩
        have Rq99 := Lib.hid rq99
        clear rq99
        refine hK.out _ _ hbq99 (fun hS => ?_)
        clear hK K hbq99
        refine call_atB 2 hA rfl (by kernel_rfl) (by kernel_rfl) (by kernel_rfl) (by kernel_rfl) (by rfl) (by rfl) hS (fun oq100 Xq100 hS K hK => ?_)
        go_simp
        with_reducible refine ((C.mul Rq99.out Rq3.out) _).mono ?_
        rintro e vq100 ⟨cq100, rfl, rq100, hbq100⟩
        rw [Hn14.out] at rq100
        have Rq100 := Lib.hid rq100
        clear rq100
        refine hK.out _ _ hbq100 (fun hS => ?_)
        clear hK K hbq100
        refine call_atB 3 hA rfl (by kernel_rfl) (by kernel_rfl) (by kernel_rfl) (by kernel_rfl) (by rfl) (by rfl) hS (fun oq103 Xq103 hS K hK => ?_)
        go_simp
        obtain ⟨n101, hn101⟩ : ∃ y : Nat, rootN n14 = y := ⟨_, rfl⟩
        have Hn101 := Lib.hid hn101
        have HLn101 : Hid (n101 < PP) := Lib.hid (by rw [← hn101]; exact rootN_lt _)
        clear hn101
        have Ht102 : Hid (isN n14 = true) := Lib.hid (dbl_t HDB.out HIS.out)
        have kq103 := fun W : World => (D.sqrt Rq100.out) W
        rw [Hn101.out, Ht102.out] at kq103
        have Kq103 := Lib.hid kq103
        clear kq103
        with_reducible refine (Kq103.out _).mono ?_
        rintro e vq103 ⟨cq103, rfl, rq103, hbq103⟩
        have Rq103 := Lib.hid rq103
        clear rq103
        refine hK.out _ _ hbq103 (fun hS => ?_)
        clear hK K hbq103
        refine' take_atB 4 hA rfl (by kernel_rfl) (by kernel_rfl) (by kernel_rfl) (by kernel_rfl) (by kernel_rfl) (by rfl) (by rfl) hS ?_ ?_ ?_
        rotate_left 2
        · intro W hSW; go_simp; try with_reducible rfl
        · simp only [List.set_cons_succ, List.set_cons_zero]; rfl
        refine' take_atB 5 hA rfl (by kernel_rfl) (by kernel_rfl) (by kernel_rfl) (by kernel_rfl) (by kernel_rfl) (by rfl) (by rfl) hS ?_ ?_ ?_
        rotate_left 2
        · intro W hSW; go_simp; try with_reducible rfl
        · simp only [List.set_cons_succ, List.set_cons_zero]; rfl
        refine' take_atB 6 hA rfl (by kernel_rfl) (by kernel_rfl) (by kernel_rfl) (by kernel_rfl) (by kernel_rfl) (by rfl) (by rfl) hS ?_ ?_ ?_
        rotate_left 2
        · intro W hSW; go_simp; try with_reducible rfl
        · simp only [List.set_cons_succ, List.set_cons_zero]; rfl
        refine' store_atB 8 hA rfl (by kernel_rfl) (by kernel_rfl) (by kernel_rfl) hS (by kernel_rfl) rfl (by intro h; cases h) (C.base.info Rq103.out) (C.base.size RZ Rq103.out) (C.base.one Rq103.out) ?_ ?_
        rotate_left 1
        · intro g; simp only [List.set_cons_succ, List.set_cons_zero]; rfl
        intro gq104 Wq104 hgq104 hbq104 hrowq104
        clear hA hS
        refine' take_at 9 rfl (by kernel_rfl) (by kernel_rfl) (by kernel_rfl) (fun _ _ _ h => h) (by rfl) hbq104 ?_ ?_ ?_
        rotate_left 2
        · intro W hSW; go_simp; try with_reducible rfl
        · simp only [List.set_cons_succ, List.set_cons_zero]; rfl
        refine wpAnyH_done (by kernel_rfl) ?_ _
        refine NoPanic.normal ?_
        (try simp only [Act.put])
        have HRq104 : Hid (RowsW Wq104 [(gq104, cq103, 26), (gq98, cq97, 26), (gq13, cq12, 26), (gq8, cq7, 26), (gq4, cq3, 26), (g0, (arrB a), 22)]) := Lib.hid ⟨hrowq104, HRq98.out.below hbq104⟩
        have HBq104 := Lib.hid (below_next HBq98.out hbq104)
        have NEq104_0 : Hid (g0 ≠ gq104) := Lib.hid (by have h := HRq98.out.lt (g0, (arrB a), 22) (by simp); have := hgq104; simp only at h; omega)
        have NEq104_1 : Hid (gq4 ≠ gq104) := Lib.hid (by have h := HRq98.out.lt (gq4, cq3, 26) (by simp); have := hgq104; simp only at h; omega)
        have NEq104_2 : Hid (gq8 ≠ gq104) := Lib.hid (by have h := HRq98.out.lt (gq8, cq7, 26) (by simp); have := hgq104; simp only at h; omega)
        have NEq104_3 : Hid (gq13 ≠ gq104) := Lib.hid (by have h := HRq98.out.lt (gq13, cq12, 26) (by simp); have := hgq104; simp only at h; omega)
        have NEq104_4 : Hid (gq98 ≠ gq104) := Lib.hid (by have h := HRq98.out.lt (gq98, cq97, 26) (by simp); have := hgq104; simp only at h; omega)
        have HGq104 := Lib.hid (Nat.le_trans HBq98.out.size hgq104)
        clear hrowq104 hbq104 hgq104
        go_upto_region 9 with fail
        have l105 := HRq104.out.tail.tail.tail.tail.head
        go_wp2_with (refine wpList_load_row rfl 26 (.tmp 4) rfl gq4 rfl 26 cq3 (0, 0) _ l105 Try.underlying26 rfl (C.base.info Rq3.out) ?_)
        have kq106 := fun W : World => (C.isZero Rq3.out) W
        rw [decide_eq_false (show ¬ n2 = 0 from HX0.out)] at kq106
        have Kq106 := Lib.hid kq106
        clear kq106
        with_reducible refine (Kq106.out _).mono ?_
        rintro e vq106 ⟨rfl, hbq106⟩
        have HRq106 := Lib.hid (HRq104.out.below hbq106)
        have HBq106 := Lib.hid (below_next HBq104.out hbq106)
        clear hbq106
        go_upto_region 11 with fail
        have l107 := HRq106.out.tail.head
        go_wp2_with (refine wpList_runsV (o := ⟨some 80, _, _, _, _, _⟩) rfl (.agg cq97) (run_loadR rfl rfl l107 Try.underlying26 rfl (C.base.info Rq97.out)) ?_)
        have kq108 := fun W : World => (C.isZero Rq97.out) W
        rw [decide_eq_true (show n95 = 0 from (by rw [← Hn95.out]; exact rootN_none HIS.out))] at kq108
        have Kq108 := Lib.hid kq108
        clear kq108
        with_reducible refine (Kq108.out _).mono ?_
        rintro e vq108 ⟨rfl, hbq108⟩
        have HRq108 := Lib.hid (HRq106.out.below hbq108)
        have HBq108 := Lib.hid (below_next HBq106.out hbq108)
        clear hbq108
        go_wp2_with fail
        go_ret
        exact ⟨rfl, HBq108.out⟩
    · have HIS := Lib.hid his
      clear his
      by_cases hrx : n10 = n2
      · have HRX := Lib.hid hrx
        clear hrx
        refine wp_region_noPanic ?_
        refine wp_region_held_drew (S := fun W => Below Wq13.heap.size Wq13 W) (by kernel_rfl) (by exact (Below.refl _ _).drew) (fun hS => ?_)
        refine' take_at 0 rfl (by kernel_rfl) (by kernel_rfl) (by kernel_rfl) (fun _ _ _ h => h) (by rfl) hS ?_ ?_ ?_
        rotate_left 2
        · intro W hSW; go_simp; try with_reducible rfl
        · simp only [List.set_cons_succ, List.set_cons_zero]; rfl
        refine' take_at 1 rfl (by kernel_rfl) (by kernel_rfl) (by kernel_rfl) (fun _ _ _ h => h) (by rfl) hS ?_ ?_ ?_
        rotate_left 2
        · intro W hSW; go_simp; try with_reducible rfl
        · simp only [List.set_cons_succ, List.set_cons_zero]; rfl
        refine' take_at 2 rfl (by kernel_rfl) (by kernel_rfl) (by kernel_rfl) (fun _ _ _ h => h) (by rfl) hS ?_ ?_ ?_
        rotate_left 2
        · intro W hSW; go_simp; try with_reducible rfl
        · simp only [List.set_cons_succ, List.set_cons_zero]; rfl
        refine' take_at 3 rfl (by kernel_rfl) (by kernel_rfl) (by kernel_rfl) (fun _ _ _ h => h) (by rfl) hS ?_ ?_ ?_
        rotate_left 2
        · intro W hSW; go_simp; try with_reducible rfl
        · simp only [List.set_cons_succ, List.set_cons_zero]; rfl
        refine' take_at 4 rfl (by kernel_rfl) (by kernel_rfl) (by kernel_rfl) (fun _ _ _ h => h) (by rfl) hS ?_ ?_ ?_
        rotate_left 2
        · intro W hSW; go_simp; try with_reducible rfl
        · simp only [List.set_cons_succ, List.set_cons_zero]; rfl
        refine' take_at 5 rfl (by kernel_rfl) (by kernel_rfl) (by kernel_rfl) (fun _ _ _ h => h) (by rfl) hS ?_ ?_ ?_
        rotate_left 2
        · intro W hSW; go_simp; try with_reducible rfl
        · simp only [List.set_cons_succ, List.set_cons_zero]; rfl
        refine' take_at 6 rfl (by kernel_rfl) (by kernel_rfl) (by kernel_rfl) (fun _ _ _ h => h) (by rfl) hS ?_ ?_ ?_
        rotate_left 2
        · intro W hSW; go_simp; try with_reducible rfl
        · simp only [List.set_cons_succ, List.set_cons_zero]; rfl
        refine' take_at 7 rfl (by kernel_rfl) (by kernel_rfl) (by kernel_rfl) (fun _ _ _ h => h) (by rfl) hS ?_ ?_ ?_
        rotate_left 2
        · intro W hSW; exact run_loadR rfl rfl (HRq13.out.below hSW).head Try.underlying26 rfl (C.base.info Rq12.out)
        · simp only [List.set_cons_succ, List.set_cons_zero]; rfl
        refine call_at 8 rfl (by kernel_rfl) (by rfl) (fun K hK => ?_)
        go_simp
        have Ht109 : Hid (decide (n10 % 2 = 1) = false) := Lib.hid (decide_eq_false (by rw [← Hn10.out]; have := rootN_even n6; omega))
        have kq110 := fun W : World => (C.odd Rq12.out) W
        rw [Ht109.out] at kq110
        have Kq110 := Lib.hid kq110
        clear kq110
        with_reducible refine (Kq110.out _).mono ?_
        rintro e vq110 ⟨rfl, hbq110⟩
        have kbq110 := below_next hS hbq110
        clear hS hbq110
        refine hK.out _ _ (by exact kbq110) (fun hS => ?_)
        clear hK K
        refine' take_at 9 rfl (by kernel_rfl) (by kernel_rfl) (by kernel_rfl) (fun _ _ _ h => h) (by rfl) hS ?_ ?_ ?_
        rotate_left 2
        · intro W hSW; go_simp; try with_reducible rfl
        · simp only [List.set_cons_succ, List.set_cons_zero]; rfl
        refine' take_at 10 rfl (by kernel_rfl) (by kernel_rfl) (by kernel_rfl) (fun _ _ _ h => h) (by rfl) hS ?_ ?_ ?_
        rotate_left 2
        · intro W hSW; go_simp; try with_reducible rfl
        · simp only [List.set_cons_succ, List.set_cons_zero]; rfl
        refine' take_at 11 rfl (by kernel_rfl) (by kernel_rfl) (by kernel_rfl) (fun _ _ _ h => h) (by rfl) hS ?_ ?_ ?_
        rotate_left 2
        · intro W hSW; exact run_loadR rfl rfl (HRq13.out.below hSW).head Try.underlying26 rfl (C.base.info Rq12.out)
        · simp only [List.set_cons_succ, List.set_cons_zero]; rfl
        refine' take_at 13 rfl (by kernel_rfl) (by kernel_rfl) (by kernel_rfl) (fun _ _ _ h => h) (by rfl) hS ?_ ?_ ?_
        rotate_left 2
        · intro W hSW; exact run_loadR rfl rfl (HRq13.out.below hSW).tail.head Try.underlying26 rfl (C.base.info Rq7.out)
        · simp only [List.set_cons_succ, List.set_cons_zero]; rfl
        refine call_at 12 rfl (by kernel_rfl) (by rfl) (fun K hK => ?_)
        go_simp
        obtain ⟨n111, hn111⟩ : ∃ x : Nat, (n10 * n10) % PP = x := ⟨_, rfl⟩
        have Hn111 := Lib.hid hn111
        have HLn111 : Hid (n111 < PP) := Lib.hid (by rw [← hn111]; exact Nat.mod_lt _ (by decide))
        clear hn111
        with_reducible refine ((C.square Rq12.out) _).mono ?_
        rintro e vq112 ⟨cq112, rfl, rq112, hbq112⟩
        rw [Hn111.out] at rq112
        have Rq112 := Lib.hid rq112
        clear rq112
        have kbq112 := below_next kbq110 hbq112
        clear hS hbq112
        refine hK.out _ _ (by exact kbq112) (fun hS => ?_)
        clear hK K
        refine call_at 14 rfl (by kernel_rfl) (by rfl) (fun K hK => ?_)
        go_simp
        have kq113 := fun W : World => (C.equal Rq112.out Rq7.out) W
        rw [decide_eq_true (show n111 = n6 from (by rw [← Hn111.out, ← Hn10.out]; exact rootN_sq (show isN n6 = true by rw [← Hn6.out]; exact isN_sq _)))] at kq113
        have Kq113 := Lib.hid kq113
        clear kq113
        with_reducible refine (Kq113.out _).mono ?_
        rintro e vq113 ⟨rfl, hbq113⟩
        have kbq113 := below_next kbq112 hbq113
        clear hS hbq113
        refine hK.out _ _ (by exact kbq113) (fun hS => ?_)
        clear hK K
        refine' take_at 15 rfl (by kernel_rfl) (by kernel_rfl) (by kernel_rfl) (fun _ _ _ h => h) (by rfl) hS ?_ ?_ ?_
        rotate_left 2
        · intro W hSW; go_simp; try with_reducible rfl
        · simp only [List.set_cons_succ, List.set_cons_zero]; rfl
        refine' take_at 16 rfl (by kernel_rfl) (by kernel_rfl) (by kernel_rfl) (fun _ _ _ h => h) (by rfl) hS ?_ ?_ ?_
        rotate_left 2
        · intro W hSW; go_simp; try with_reducible rfl
        · simp only [List.set_cons_succ, List.set_cons_zero]; rfl
        refine' take_at 17 rfl (by kernel_rfl) (by kernel_rfl) (by kernel_rfl) (fun _ _ _ h => h) (by rfl) hS ?_ ?_ ?_
        rotate_left 2
        · intro W hSW; go_simp; try with_reducible rfl
        · simp only [List.set_cons_succ, List.set_cons_zero]; rfl
        refine' take_at 18 rfl (by kernel_rfl) (by kernel_rfl) (by kernel_rfl) (fun _ _ _ h => h) (by rfl) hS ?_ ?_ ?_
        rotate_left 2
        · intro W hSW; exact run_loadR rfl rfl (HRq13.out.below hSW).head Try.underlying26 rfl (C.base.info Rq12.out)
        · simp only [List.set_cons_succ, List.set_cons_zero]; rfl
        refine' take_at 19 rfl (by kernel_rfl) (by kernel_rfl) (by kernel_rfl) (fun _ _ _ h => h) (by rfl) hS ?_ ?_ ?_
        rotate_left 2
        · intro W hSW; exact run_loadR rfl rfl (HRq13.out.below hSW).tail.tail.head Try.underlying26 rfl (C.base.info Rq3.out)
        · simp only [List.set_cons_succ, List.set_cons_zero]; rfl
        refine call_at 20 rfl (by kernel_rfl) (by rfl) (fun K hK => ?_)
        go_simp
        have kq114 := fun W : World => (C.equal Rq12.out Rq3.out) W
        rw [decide_eq_true (show n10 = n2 from HRX.out)] at kq114
        have Kq114 := Lib.hid kq114
        clear kq114
        with_reducible refine (Kq114.out _).mono ?_
        rintro e vq114 ⟨rfl, hbq114⟩
        have kbq114 := below_next kbq113 hbq114
        clear hS hbq114
        refine hK.out _ _ (by exact kbq114) (fun hS => ?_)
        clear hK K
        refine' take_at 21 rfl (by kernel_rfl) (by kernel_rfl) (by kernel_rfl) (fun _ _ _ h => h) (by rfl) hS ?_ ?_ ?_
        rotate_left 2
        · intro W hSW; go_simp; try with_reducible rfl
        · simp only [List.set_cons_succ, List.set_cons_zero]; rfl
        refine' take_at 22 rfl (by kernel_rfl) (by kernel_rfl) (by kernel_rfl) (fun _ _ _ h => h) (by rfl) hS ?_ ?_ ?_
        rotate_left 2
        · intro W hSW; go_simp; try with_reducible rfl
        · simp only [List.set_cons_succ, List.set_cons_zero]; rfl
        refine' skip_at 23 rfl (by kernel_rfl) (by kernel_rfl) (by kernel_rfl) (fun _ _ _ h => h) (by rfl) hS ?_ ?_
        rotate_left 1
        · simp only [List.set_cons_succ, List.set_cons_zero]; rfl
        refine' skip_at 24 rfl (by kernel_rfl) (by kernel_rfl) (by kernel_rfl) (fun _ _ _ h => h) (by rfl) hS ?_ ?_
        rotate_left 1
        · simp only [List.set_cons_succ, List.set_cons_zero]; rfl
        refine' skip_at 25 rfl (by kernel_rfl) (by kernel_rfl) (by kernel_rfl) (fun _ _ _ h => h) (by rfl) hS ?_ ?_
        rotate_left 1
        · simp only [List.set_cons_succ, List.set_cons_zero]; rfl
        refine' skip_at 26 rfl (by kernel_rfl) (by kernel_rfl) (by kernel_rfl) (fun _ _ _ h => h) (by rfl) hS ?_ ?_
        rotate_left 1
        · simp only [List.set_cons_succ, List.set_cons_zero]; rfl
        refine' skip_at 27 rfl (by kernel_rfl) (by kernel_rfl) (by kernel_rfl) (fun _ _ _ h => h) (by rfl) hS ?_ ?_
        rotate_left 1
        · simp only [List.set_cons_succ, List.set_cons_zero]; rfl
        refine' take_at 28 rfl (by kernel_rfl) (by kernel_rfl) (by kernel_rfl) (fun _ _ _ h => h) (by rfl) hS ?_ ?_ ?_
        rotate_left 2
        · intro W hSW; go_simp; try with_reducible rfl
        · simp only [List.set_cons_succ, List.set_cons_zero]; rfl
        refine' take_at 29 rfl (by kernel_rfl) (by kernel_rfl) (by kernel_rfl) (fun _ _ _ h => h) (by rfl) hS ?_ ?_ ?_
        rotate_left 2
        · intro W hSW; go_simp; try with_reducible rfl
        · simp only [List.set_cons_succ, List.set_cons_zero]; rfl
        refine wpAnyH_done (by kernel_rfl) ?_ _
        refine NoPanic.normal ?_
        clear hS
        (try simp only [Act.put])
        have HRq115 := Lib.hid (HRq13.out.below kbq114)
        have HBq115 := Lib.hid (below_next HBq13.out kbq114)
        go_upto_region 7 with fail
        have l116 := HRq115.out.tail.tail.head
        go_wp2_with (refine wpList_load_row rfl 26 (.tmp 4) rfl gq4 rfl 26 cq3 (0, 0) _ l116 Try.underlying26 rfl (C.base.info Rq3.out) ?_)
        obtain ⟨n117, hn117⟩ : ∃ y : Nat, rootN n2 = y := ⟨_, rfl⟩
        have Hn117 := Lib.hid hn117
        have HLn117 : Hid (n117 < PP) := Lib.hid (by rw [← hn117]; exact rootN_lt _)
        clear hn117
        have Ht118 : Hid (isN n2 = true) := Lib.hid HIS.out
        have kq119 := fun W : World => (D.sqrt Rq3.out) W
        rw [Hn117.out, Ht118.out] at kq119
        have Kq119 := Lib.hid kq119
        clear kq119
        with_reducible refine (Kq119.out _).mono ?_
        rintro e vq119 ⟨cq119, rfl, rq119, hbq119⟩
        have Rq119 := Lib.hid rq119
        clear rq119
        have HRq119 := Lib.hid (HRq115.out.below hbq119)
        have HBq119 := Lib.hid (below_next HBq115.out hbq119)
        clear hbq119
        have h0q120 : (vq119.alloc (.cells Z 26)).heap[vq119.heap.size]? = some (.cells Z 26 (0, 0)) := heap_alloc_new _ _
        have HRq120 := Lib.hid (HRq119.out.new Z cq119 26)
        have HBq120 := Lib.hid (below_new HBq119.out Z cq119 26)
        have HNq120 := Lib.hid HRq119.out.ne
        have HGq120 := Lib.hid HBq119.out.size
        go_upto_region 8 with (refine wpList_store_row rfl 26 (.tmp 8) (.tmp 55) rfl vq119.heap.size cq119 rfl rfl 26 Z h0q120 (C.base.info Rq119.out) (C.base.size RZ Rq119.out) (C.base.one Rq119.out) ?_)
        obtain ⟨Wq120, hWq120⟩ : ∃ W, (vq119.alloc (.cells Z 26)).setRow vq119.heap.size cq119 = W := ⟨_, rfl⟩
        obtain ⟨gq120, hgq120⟩ : ∃ g, vq119.heap.size = g := ⟨_, rfl⟩
        rw [hWq120, hgq120] at HRq120
        rw [hWq120] at HBq120
        rw [hgq120] at HNq120 HGq120
        rw [hWq120, hgq120]
        clear hWq120 hgq120 h0q120
        have NEq120_0 : Hid (g0 ≠ gq120) := Lib.hid (HNq120.out (g0, (arrB a), 22) (by simp))
        have NEq120_1 : Hid (gq4 ≠ gq120) := Lib.hid (HNq120.out (gq4, cq3, 26) (by simp))
        have NEq120_2 : Hid (gq8 ≠ gq120) := Lib.hid (HNq120.out (gq8, cq7, 26) (by simp))
        have NEq120_3 : Hid (gq13 ≠ gq120) := Lib.hid (HNq120.out (gq13, cq12, 26) (by simp))
        refine wp_region_noPanic ?_
        refine wp_region_heldB 7 10 26 Z (by kernel_rfl) (by kernel_rfl) ⟨by kernel_rfl, by kernel_rfl, hZ, fun _ _ _ h => h⟩ (fun hA hS => ?_)
        refine' take_atB 1 hA rfl (by kernel_rfl) (by kernel_rfl) (by kernel_rfl) (by kernel_rfl) (by kernel_rfl) (by rfl) (by rfl) hS ?_ ?_ ?_
        rotate_left 2
        · intro W hSW; exact run_loadR rfl rfl (HRq120.out.below hSW).tail.tail.tail.head Try.underlying26 rfl (C.base.info Rq3.out)
        · simp only [List.set_cons_succ, List.set_cons_zero]; rfl
        refine call_atB 0 hA rfl (by kernel_rfl) (by kernel_rfl) (by kernel_rfl) (by kernel_rfl) (by rfl) (by rfl) hS (fun oq121 Xq121 hS K hK => ?_)
        go_simp
        have s58_2 : ∀ W : World, Calls Try.prog 24 #[.int .u64 2] W (RetFe R W 2) := fun W => C.small 2 (by decide) W
        with_reducible refine (s58_2 _).mono ?_
        rintro e vq121 ⟨cq121, rfl, rq121, hbq121⟩
        have Rq121 := Lib.hid rq121
        clear rq121
        refine hK.out _ _ hbq121 (fun hS => ?_)
        clear hK K hbq121
        refine call_atB 2 hA rfl (by kernel_rfl) (by kernel_rfl) (by kernel_rfl) (by kernel_rfl) (by rfl) (by rfl) hS (fun oq122 Xq122 hS K hK => ?_)
        go_simp
        with_reducible refine ((C.mul Rq121.out Rq3.out) _).mono ?_
        rintro e vq122 ⟨cq122, rfl, rq122, hbq122⟩
        rw [Hn14.out] at rq122
        have Rq122 := Lib.hid rq122
        clear rq122
        refine hK.out _ _ hbq122 (fun hS => ?_)
        clear hK K hbq122
        refine call_atB 3 hA rfl (by kernel_rfl) (by kernel_rfl) (by kernel_rfl) (by kernel_rfl) (by rfl) (by rfl) hS (fun oq125 Xq125 hS K hK => ?_)
        go_simp
        obtain ⟨n123, hn123⟩ : ∃ y : Nat, rootN n14 = y := ⟨_, rfl⟩
        have Hn123 := Lib.hid hn123
        have HLn123 : Hid (n123 < PP) := Lib.hid (by rw [← hn123]; exact rootN_lt _)
        clear hn123
        have Ht124 : Hid (isN n14 = false) := Lib.hid (dbl_f HDB.out HIS.out)
        have kq125 := fun W : World => (D.sqrt Rq122.out) W
        rw [Hn123.out, Ht124.out] at kq125
        have Kq125 := Lib.hid kq125
        clear kq125
        with_reducible refine (Kq125.out _).mono ?_
        rintro e vq125 ⟨cq125, rfl, rq125, hbq125⟩
        have Rq125 := Lib.hid rq125
        clear rq125
        refine hK.out _ _ hbq125 (fun hS => ?_)
        clear hK K hbq125
        refine' take_atB 4 hA rfl (by kernel_rfl) (by kernel_rfl) (by kernel_rfl) (by kernel_rfl) (by kernel_rfl) (by rfl) (by rfl) hS ?_ ?_ ?_
        rotate_left 2
        · intro W hSW; go_simp; try with_reducible rfl
        · simp only [List.set_cons_succ, List.set_cons_zero]; rfl
        refine' take_atB 5 hA rfl (by kernel_rfl) (by kernel_rfl) (by kernel_rfl) (by kernel_rfl) (by kernel_rfl) (by rfl) (by rfl) hS ?_ ?_ ?_
        rotate_left 2
        · intro W hSW; go_simp; try with_reducible rfl
        · simp only [List.set_cons_succ, List.set_cons_zero]; rfl
        refine' take_atB 6 hA rfl (by kernel_rfl) (by kernel_rfl) (by kernel_rfl) (by kernel_rfl) (by kernel_rfl) (by rfl) (by rfl) hS ?_ ?_ ?_
        rotate_left 2
        · intro W hSW; go_simp; try with_reducible rfl
        · simp only [List.set_cons_succ, List.set_cons_zero]; rfl
        refine' store_atB 8 hA rfl (by kernel_rfl) (by kernel_rfl) (by kernel_rfl) hS (by kernel_rfl) rfl (by intro h; cases h) (C.base.info Rq125.out) (C.base.size RZ Rq125.out) (C.base.one Rq125.out) ?_ ?_
        rotate_left 1
        · intro g; simp only [List.set_cons_succ, List.set_cons_zero]; rfl
        intro gq126 Wq126 hgq126 hbq126 hrowq126
        clear hA hS
        refine' take_at 9 rfl (by kernel_rfl) (by kernel_rfl) (by kernel_rfl) (fun _ _ _ h => h) (by rfl) hbq126 ?_ ?_ ?_
        rotate_left 2
        · intro W hSW; go_simp; try with_reducible rfl
        · simp only [List.set_cons_succ, List.set_cons_zero]; rfl
        refine wpAnyH_done (by kernel_rfl) ?_ _
        refine NoPanic.normal ?_
        (try simp only [Act.put])
        have HRq126 : Hid (RowsW Wq126 [(gq126, cq125, 26), (gq120, cq119, 26), (gq13, cq12, 26), (gq8, cq7, 26), (gq4, cq3, 26), (g0, (arrB a), 22)]) := Lib.hid ⟨hrowq126, HRq120.out.below hbq126⟩
        have HBq126 := Lib.hid (below_next HBq120.out hbq126)
        have NEq126_0 : Hid (g0 ≠ gq126) := Lib.hid (by have h := HRq120.out.lt (g0, (arrB a), 22) (by simp); have := hgq126; simp only at h; omega)
        have NEq126_1 : Hid (gq4 ≠ gq126) := Lib.hid (by have h := HRq120.out.lt (gq4, cq3, 26) (by simp); have := hgq126; simp only at h; omega)
        have NEq126_2 : Hid (gq8 ≠ gq126) := Lib.hid (by have h := HRq120.out.lt (gq8, cq7, 26) (by simp); have := hgq126; simp only at h; omega)
        have NEq126_3 : Hid (gq13 ≠ gq126) := Lib.hid (by have h := HRq120.out.lt (gq13, cq12, 26) (by simp); have := hgq126; simp only at h; omega)
        have NEq126_4 : Hid (gq120 ≠ gq126) := Lib.hid (by have h := HRq120.out.lt (gq120, cq119, 26) (by simp); have := hgq126; simp only at h; omega)
        have HGq126 := Lib.hid (Nat.le_trans HBq120.out.size hgq126)
        clear hrowq126 hbq126 hgq126
        go_upto_region 9 with fail
        have l127 := HRq126.out.tail.tail.tail.tail.head
        go_wp2_with (refine wpList_load_row rfl 26 (.tmp 4) rfl gq4 rfl 26 cq3 (0, 0) _ l127 Try.underlying26 rfl (C.base.info Rq3.out) ?_)
        have kq128 := fun W : World => (C.isZero Rq3.out) W
        rw [decide_eq_false (show ¬ n2 = 0 from HX0.out)] at kq128
        have Kq128 := Lib.hid kq128
        clear kq128
        with_reducible refine (Kq128.out _).mono ?_
        rintro e vq128 ⟨rfl, hbq128⟩
        have HRq128 := Lib.hid (HRq126.out.below hbq128)
        have HBq128 := Lib.hid (below_next HBq126.out hbq128)
        clear hbq128
        go_upto_region 11 with fail
        go_wp2_with fail
        go_ret
        exact ⟨rfl, HBq128.out⟩
      · have HRX := Lib.hid ((show n10 = n2 ∨ n10 = (PP - n2) % PP from by rw [← Hn10.out]; exact root_two HLn2.out (rootN_lt _) (by rw [rootN_sq (show isN n6 = true by rw [← Hn6.out]; exact isN_sq _), Hn6.out])).resolve_left hrx)
        have HRN := Lib.hid hrx
        clear hrx
        refine wp_region_noPanic ?_
        refine wp_region_held_drew (S := fun W => Below Wq13.heap.size Wq13 W) (by kernel_rfl) (by exact (Below.refl _ _).drew) (fun hS => ?_)
        refine' take_at 0 rfl (by kernel_rfl) (by kernel_rfl) (by kernel_rfl) (fun _ _ _ h => h) (by rfl) hS ?_ ?_ ?_
        rotate_left 2
        · intro W hSW; go_simp; try with_reducible rfl
        · simp only [List.set_cons_succ, List.set_cons_zero]; rfl
        refine' take_at 1 rfl (by kernel_rfl) (by kernel_rfl) (by kernel_rfl) (fun _ _ _ h => h) (by rfl) hS ?_ ?_ ?_
        rotate_left 2
        · intro W hSW; go_simp; try with_reducible rfl
        · simp only [List.set_cons_succ, List.set_cons_zero]; rfl
        refine' take_at 2 rfl (by kernel_rfl) (by kernel_rfl) (by kernel_rfl) (fun _ _ _ h => h) (by rfl) hS ?_ ?_ ?_
        rotate_left 2
        · intro W hSW; go_simp; try with_reducible rfl
        · simp only [List.set_cons_succ, List.set_cons_zero]; rfl
        refine' take_at 3 rfl (by kernel_rfl) (by kernel_rfl) (by kernel_rfl) (fun _ _ _ h => h) (by rfl) hS ?_ ?_ ?_
        rotate_left 2
        · intro W hSW; go_simp; try with_reducible rfl
        · simp only [List.set_cons_succ, List.set_cons_zero]; rfl
        refine' take_at 4 rfl (by kernel_rfl) (by kernel_rfl) (by kernel_rfl) (fun _ _ _ h => h) (by rfl) hS ?_ ?_ ?_
        rotate_left 2
        · intro W hSW; go_simp; try with_reducible rfl
        · simp only [List.set_cons_succ, List.set_cons_zero]; rfl
        refine' take_at 5 rfl (by kernel_rfl) (by kernel_rfl) (by kernel_rfl) (fun _ _ _ h => h) (by rfl) hS ?_ ?_ ?_
        rotate_left 2
        · intro W hSW; go_simp; try with_reducible rfl
        · simp only [List.set_cons_succ, List.set_cons_zero]; rfl
        refine' take_at 6 rfl (by kernel_rfl) (by kernel_rfl) (by kernel_rfl) (fun _ _ _ h => h) (by rfl) hS ?_ ?_ ?_
        rotate_left 2
        · intro W hSW; go_simp; try with_reducible rfl
        · simp only [List.set_cons_succ, List.set_cons_zero]; rfl
        refine' take_at 7 rfl (by kernel_rfl) (by kernel_rfl) (by kernel_rfl) (fun _ _ _ h => h) (by rfl) hS ?_ ?_ ?_
        rotate_left 2
        · intro W hSW; exact run_loadR rfl rfl (HRq13.out.below hSW).head Try.underlying26 rfl (C.base.info Rq12.out)
        · simp only [List.set_cons_succ, List.set_cons_zero]; rfl
        refine call_at 8 rfl (by kernel_rfl) (by rfl) (fun K hK => ?_)
        go_simp
        have Ht129 : Hid (decide (n10 % 2 = 1) = false) := Lib.hid (decide_eq_false (by rw [← Hn10.out]; have := rootN_even n6; omega))
        have kq130 := fun W : World => (C.odd Rq12.out) W
        rw [Ht129.out] at kq130
        have Kq130 := Lib.hid kq130
        clear kq130
        with_reducible refine (Kq130.out _).mono ?_
        rintro e vq130 ⟨rfl, hbq130⟩
        have kbq130 := below_next hS hbq130
        clear hS hbq130
        refine hK.out _ _ (by exact kbq130) (fun hS => ?_)
        clear hK K
        refine' take_at 9 rfl (by kernel_rfl) (by kernel_rfl) (by kernel_rfl) (fun _ _ _ h => h) (by rfl) hS ?_ ?_ ?_
        rotate_left 2
        · intro W hSW; go_simp; try with_reducible rfl
        · simp only [List.set_cons_succ, List.set_cons_zero]; rfl
        refine' take_at 10 rfl (by kernel_rfl) (by kernel_rfl) (by kernel_rfl) (fun _ _ _ h => h) (by rfl) hS ?_ ?_ ?_
        rotate_left 2
        · intro W hSW; go_simp; try with_reducible rfl
        · simp only [List.set_cons_succ, List.set_cons_zero]; rfl
        refine' take_at 11 rfl (by kernel_rfl) (by kernel_rfl) (by kernel_rfl) (fun _ _ _ h => h) (by rfl) hS ?_ ?_ ?_
        rotate_left 2
        · intro W hSW; exact run_loadR rfl rfl (HRq13.out.below hSW).head Try.underlying26 rfl (C.base.info Rq12.out)
        · simp only [List.set_cons_succ, List.set_cons_zero]; rfl
        refine' take_at 13 rfl (by kernel_rfl) (by kernel_rfl) (by kernel_rfl) (fun _ _ _ h => h) (by rfl) hS ?_ ?_ ?_
        rotate_left 2
        · intro W hSW; exact run_loadR rfl rfl (HRq13.out.below hSW).tail.head Try.underlying26 rfl (C.base.info Rq7.out)
        · simp only [List.set_cons_succ, List.set_cons_zero]; rfl
        refine call_at 12 rfl (by kernel_rfl) (by rfl) (fun K hK => ?_)
        go_simp
        obtain ⟨n131, hn131⟩ : ∃ x : Nat, (n10 * n10) % PP = x := ⟨_, rfl⟩
        have Hn131 := Lib.hid hn131
        have HLn131 : Hid (n131 < PP) := Lib.hid (by rw [← hn131]; exact Nat.mod_lt _ (by decide))
        clear hn131
        with_reducible refine ((C.square Rq12.out) _).mono ?_
        rintro e vq132 ⟨cq132, rfl, rq132, hbq132⟩
        rw [Hn131.out] at rq132
        have Rq132 := Lib.hid rq132
        clear rq132
        have kbq132 := below_next kbq130 hbq132
        clear hS hbq132
        refine hK.out _ _ (by exact kbq132) (fun hS => ?_)
        clear hK K
        refine call_at 14 rfl (by kernel_rfl) (by rfl) (fun K hK => ?_)
        go_simp
        have kq133 := fun W : World => (C.equal Rq132.out Rq7.out) W
        rw [decide_eq_true (show n131 = n6 from (by rw [← Hn131.out, ← Hn10.out]; exact rootN_sq (show isN n6 = true by rw [← Hn6.out]; exact isN_sq _)))] at kq133
        have Kq133 := Lib.hid kq133
        clear kq133
        with_reducible refine (Kq133.out _).mono ?_
        rintro e vq133 ⟨rfl, hbq133⟩
        have kbq133 := below_next kbq132 hbq133
        clear hS hbq133
        refine hK.out _ _ (by exact kbq133) (fun hS => ?_)
        clear hK K
        refine' take_at 15 rfl (by kernel_rfl) (by kernel_rfl) (by kernel_rfl) (fun _ _ _ h => h) (by rfl) hS ?_ ?_ ?_
        rotate_left 2
        · intro W hSW; go_simp; try with_reducible rfl
        · simp only [List.set_cons_succ, List.set_cons_zero]; rfl
        refine' take_at 16 rfl (by kernel_rfl) (by kernel_rfl) (by kernel_rfl) (fun _ _ _ h => h) (by rfl) hS ?_ ?_ ?_
        rotate_left 2
        · intro W hSW; go_simp; try with_reducible rfl
        · simp only [List.set_cons_succ, List.set_cons_zero]; rfl
        refine' take_at 17 rfl (by kernel_rfl) (by kernel_rfl) (by kernel_rfl) (fun _ _ _ h => h) (by rfl) hS ?_ ?_ ?_
        rotate_left 2
        · intro W hSW; go_simp; try with_reducible rfl
        · simp only [List.set_cons_succ, List.set_cons_zero]; rfl
        refine' take_at 18 rfl (by kernel_rfl) (by kernel_rfl) (by kernel_rfl) (fun _ _ _ h => h) (by rfl) hS ?_ ?_ ?_
        rotate_left 2
        · intro W hSW; exact run_loadR rfl rfl (HRq13.out.below hSW).head Try.underlying26 rfl (C.base.info Rq12.out)
        · simp only [List.set_cons_succ, List.set_cons_zero]; rfl
        refine' take_at 19 rfl (by kernel_rfl) (by kernel_rfl) (by kernel_rfl) (fun _ _ _ h => h) (by rfl) hS ?_ ?_ ?_
        rotate_left 2
        · intro W hSW; exact run_loadR rfl rfl (HRq13.out.below hSW).tail.tail.head Try.underlying26 rfl (C.base.info Rq3.out)
        · simp only [List.set_cons_succ, List.set_cons_zero]; rfl
        refine call_at 20 rfl (by kernel_rfl) (by rfl) (fun K hK => ?_)
        go_simp
        have kq134 := fun W : World => (C.equal Rq12.out Rq3.out) W
        rw [decide_eq_false (show ¬ n10 = n2 from HRN.out)] at kq134
        have Kq134 := Lib.hid kq134
        clear kq134
        with_reducible refine (Kq134.out _).mono ?_
        rintro e vq134 ⟨rfl, hbq134⟩
        have kbq134 := below_next kbq133 hbq134
        clear hS hbq134
        refine hK.out _ _ (by exact kbq134) (fun hS => ?_)
        clear hK K
        refine' take_at 21 rfl (by kernel_rfl) (by kernel_rfl) (by kernel_rfl) (fun _ _ _ h => h) (by rfl) hS ?_ ?_ ?_
        rotate_left 2
        · intro W hSW; go_simp; try with_reducible rfl
        · simp only [List.set_cons_succ, List.set_cons_zero]; rfl
        refine' take_at 22 rfl (by kernel_rfl) (by kernel_rfl) (by kernel_rfl) (fun _ _ _ h => h) (by rfl) hS ?_ ?_ ?_
        rotate_left 2
        · intro W hSW; go_simp; try with_reducible rfl
        · simp only [List.set_cons_succ, List.set_cons_zero]; rfl
        refine' take_at 23 rfl (by kernel_rfl) (by kernel_rfl) (by kernel_rfl) (fun _ _ _ h => h) (by rfl) hS ?_ ?_ ?_
        rotate_left 2
        · intro W hSW; exact run_loadR rfl rfl (HRq13.out.below hSW).head Try.underlying26 rfl (C.base.info Rq12.out)
        · simp only [List.set_cons_succ, List.set_cons_zero]; rfl
        refine' take_at 24 rfl (by kernel_rfl) (by kernel_rfl) (by kernel_rfl) (fun _ _ _ h => h) (by rfl) hS ?_ ?_ ?_
        rotate_left 2
        · intro W hSW; exact run_loadR rfl rfl (HRq13.out.below hSW).tail.tail.head Try.underlying26 rfl (C.base.info Rq3.out)
        · simp only [List.set_cons_succ, List.set_cons_zero]; rfl
        refine call_at 25 rfl (by kernel_rfl) (by rfl) (fun K hK => ?_)
        go_simp
        obtain ⟨n135, hn135⟩ : ∃ x : Nat, (PP - n2) % PP = x := ⟨_, rfl⟩
        have Hn135 := Lib.hid hn135
        have HLn135 : Hid (n135 < PP) := Lib.hid (by rw [← hn135]; exact Nat.mod_lt _ (by decide))
        clear hn135
        with_reducible refine ((C.neg Rq3.out) _).mono ?_
        rintro e vq136 ⟨cq136, rfl, rq136, hbq136⟩
        rw [Hn135.out] at rq136
        have Rq136 := Lib.hid rq136
        clear rq136
        have kbq136 := below_next kbq134 hbq136
        clear hS hbq136
        refine hK.out _ _ (by exact kbq136) (fun hS => ?_)
        clear hK K
        refine call_at 26 rfl (by kernel_rfl) (by rfl) (fun K hK => ?_)
        go_simp
        have kq137 := fun W : World => (C.equal Rq12.out Rq136.out) W
        rw [decide_eq_true (show n10 = n135 from (by rw [← Hn135.out]; exact HRX.out))] at kq137
        have Kq137 := Lib.hid kq137
        clear kq137
        with_reducible refine (Kq137.out _).mono ?_
        rintro e vq137 ⟨rfl, hbq137⟩
        have kbq137 := below_next kbq136 hbq137
        clear hS hbq137
        refine hK.out _ _ (by exact kbq137) (fun hS => ?_)
        clear hK K
        refine' take_at 27 rfl (by kernel_rfl) (by kernel_rfl) (by kernel_rfl) (fun _ _ _ h => h) (by rfl) hS ?_ ?_ ?_
        rotate_left 2
        · intro W hSW; go_simp; try with_reducible rfl
        · simp only [List.set_cons_succ, List.set_cons_zero]; rfl
        refine' take_at 28 rfl (by kernel_rfl) (by kernel_rfl) (by kernel_rfl) (fun _ _ _ h => h) (by rfl) hS ?_ ?_ ?_
        rotate_left 2
        · intro W hSW; go_simp; try with_reducible rfl
        · simp only [List.set_cons_succ, List.set_cons_zero]; rfl
        refine' take_at 29 rfl (by kernel_rfl) (by kernel_rfl) (by kernel_rfl) (fun _ _ _ h => h) (by rfl) hS ?_ ?_ ?_
        rotate_left 2
        · intro W hSW; go_simp; try with_reducible rfl
        · simp only [List.set_cons_succ, List.set_cons_zero]; rfl
        refine wpAnyH_done (by kernel_rfl) ?_ _
        refine NoPanic.normal ?_
        clear hS
        (try simp only [Act.put])
        have HRq138 := Lib.hid (HRq13.out.below kbq137)
        have HBq138 := Lib.hid (below_next HBq13.out kbq137)
        go_upto_region 7 with fail
        have l139 := HRq138.out.tail.tail.head
        go_wp2_with (refine wpList_load_row rfl 26 (.tmp 4) rfl gq4 rfl 26 cq3 (0, 0) _ l139 Try.underlying26 rfl (C.base.info Rq3.out) ?_)
        obtain ⟨n140, hn140⟩ : ∃ y : Nat, rootN n2 = y := ⟨_, rfl⟩
        have Hn140 := Lib.hid hn140
        have HLn140 : Hid (n140 < PP) := Lib.hid (by rw [← hn140]; exact rootN_lt _)
        clear hn140
        have Ht141 : Hid (isN n2 = true) := Lib.hid HIS.out
        have kq142 := fun W : World => (D.sqrt Rq3.out) W
        rw [Hn140.out, Ht141.out] at kq142
        have Kq142 := Lib.hid kq142
        clear kq142
        with_reducible refine (Kq142.out _).mono ?_
        rintro e vq142 ⟨cq142, rfl, rq142, hbq142⟩
        have Rq142 := Lib.hid rq142
        clear rq142
        have HRq142 := Lib.hid (HRq138.out.below hbq142)
        have HBq142 := Lib.hid (below_next HBq138.out hbq142)
        clear hbq142
        have h0q143 : (vq142.alloc (.cells Z 26)).heap[vq142.heap.size]? = some (.cells Z 26 (0, 0)) := heap_alloc_new _ _
        have HRq143 := Lib.hid (HRq142.out.new Z cq142 26)
        have HBq143 := Lib.hid (below_new HBq142.out Z cq142 26)
        have HNq143 := Lib.hid HRq142.out.ne
        have HGq143 := Lib.hid HBq142.out.size
        go_upto_region 8 with (refine wpList_store_row rfl 26 (.tmp 8) (.tmp 55) rfl vq142.heap.size cq142 rfl rfl 26 Z h0q143 (C.base.info Rq142.out) (C.base.size RZ Rq142.out) (C.base.one Rq142.out) ?_)
        obtain ⟨Wq143, hWq143⟩ : ∃ W, (vq142.alloc (.cells Z 26)).setRow vq142.heap.size cq142 = W := ⟨_, rfl⟩
        obtain ⟨gq143, hgq143⟩ : ∃ g, vq142.heap.size = g := ⟨_, rfl⟩
        rw [hWq143, hgq143] at HRq143
        rw [hWq143] at HBq143
        rw [hgq143] at HNq143 HGq143
        rw [hWq143, hgq143]
        clear hWq143 hgq143 h0q143
        have NEq143_0 : Hid (g0 ≠ gq143) := Lib.hid (HNq143.out (g0, (arrB a), 22) (by simp))
        have NEq143_1 : Hid (gq4 ≠ gq143) := Lib.hid (HNq143.out (gq4, cq3, 26) (by simp))
        have NEq143_2 : Hid (gq8 ≠ gq143) := Lib.hid (HNq143.out (gq8, cq7, 26) (by simp))
        have NEq143_3 : Hid (gq13 ≠ gq143) := Lib.hid (HNq143.out (gq13, cq12, 26) (by simp))
        refine wp_region_noPanic ?_
        refine wp_region_heldB 7 10 26 Z (by kernel_rfl) (by kernel_rfl) ⟨by kernel_rfl, by kernel_rfl, hZ, fun _ _ _ h => h⟩ (fun hA hS => ?_)
        refine' take_atB 1 hA rfl (by kernel_rfl) (by kernel_rfl) (by kernel_rfl) (by kernel_rfl) (by kernel_rfl) (by rfl) (by rfl) hS ?_ ?_ ?_
        rotate_left 2
        · intro W hSW; exact run_loadR rfl rfl (HRq143.out.below hSW).tail.tail.tail.head Try.underlying26 rfl (C.base.info Rq3.out)
        · simp only [List.set_cons_succ, List.set_cons_zero]; rfl
        refine call_atB 0 hA rfl (by kernel_rfl) (by kernel_rfl) (by kernel_rfl) (by kernel_rfl) (by rfl) (by rfl) hS (fun oq144 Xq144 hS K hK => ?_)
        go_simp
        have s58_2 : ∀ W : World, Calls Try.prog 24 #[.int .u64 2] W (RetFe R W 2) := fun W => C.small 2 (by decide) W
        with_reducible refine (s58_2 _).mono ?_
        rintro e vq144 ⟨cq144, rfl, rq144, hbq144⟩
        have Rq144 := Lib.hid rq144
        clear rq144
        refine hK.out _ _ hbq144 (fun hS => ?_)
        clear hK K hbq144
        refine call_atB 2 hA rfl (by kernel_rfl) (by kernel_rfl) (by kernel_rfl) (by kernel_rfl) (by rfl) (by rfl) hS (fun oq145 Xq145 hS K hK => ?_)
        go_simp
        with_reducible refine ((C.mul Rq144.out Rq3.out) _).mono ?_
        rintro e vq145 ⟨cq145, rfl, rq145, hbq145⟩
        rw [Hn14.out] at rq145
        have Rq145 := Lib.hid rq145
        clear rq145
        refine hK.out _ _ hbq145 (fun hS => ?_)
        clear hK K hbq145
        refine call_atB 3 hA rfl (by kernel_rfl) (by kernel_rfl) (by kernel_rfl) (by kernel_rfl) (by rfl) (by rfl) hS (fun oq148 Xq148 hS K hK => ?_)
        go_simp
        obtain ⟨n146, hn146⟩ : ∃ y : Nat, rootN n14 = y := ⟨_, rfl⟩
        have Hn146 := Lib.hid hn146
        have HLn146 : Hid (n146 < PP) := Lib.hid (by rw [← hn146]; exact rootN_lt _)
        clear hn146
        have Ht147 : Hid (isN n14 = false) := Lib.hid (dbl_f HDB.out HIS.out)
        have kq148 := fun W : World => (D.sqrt Rq145.out) W
        rw [Hn146.out, Ht147.out] at kq148
        have Kq148 := Lib.hid kq148
        clear kq148
        with_reducible refine (Kq148.out _).mono ?_
        rintro e vq148 ⟨cq148, rfl, rq148, hbq148⟩
        have Rq148 := Lib.hid rq148
        clear rq148
        refine hK.out _ _ hbq148 (fun hS => ?_)
        clear hK K hbq148
        refine' take_atB 4 hA rfl (by kernel_rfl) (by kernel_rfl) (by kernel_rfl) (by kernel_rfl) (by kernel_rfl) (by rfl) (by rfl) hS ?_ ?_ ?_
        rotate_left 2
        · intro W hSW; go_simp; try with_reducible rfl
        · simp only [List.set_cons_succ, List.set_cons_zero]; rfl
        refine' take_atB 5 hA rfl (by kernel_rfl) (by kernel_rfl) (by kernel_rfl) (by kernel_rfl) (by kernel_rfl) (by rfl) (by rfl) hS ?_ ?_ ?_
        rotate_left 2
        · intro W hSW; go_simp; try with_reducible rfl
        · simp only [List.set_cons_succ, List.set_cons_zero]; rfl
        refine' take_atB 6 hA rfl (by kernel_rfl) (by kernel_rfl) (by kernel_rfl) (by kernel_rfl) (by kernel_rfl) (by rfl) (by rfl) hS ?_ ?_ ?_
        rotate_left 2
        · intro W hSW; go_simp; try with_reducible rfl
        · simp only [List.set_cons_succ, List.set_cons_zero]; rfl
        refine' store_atB 8 hA rfl (by kernel_rfl) (by kernel_rfl) (by kernel_rfl) hS (by kernel_rfl) rfl (by intro h; cases h) (C.base.info Rq148.out) (C.base.size RZ Rq148.out) (C.base.one Rq148.out) ?_ ?_
        rotate_left 1
        · intro g; simp only [List.set_cons_succ, List.set_cons_zero]; rfl
        intro gq149 Wq149 hgq149 hbq149 hrowq149
        clear hA hS
        refine' take_at 9 rfl (by kernel_rfl) (by kernel_rfl) (by kernel_rfl) (fun _ _ _ h => h) (by rfl) hbq149 ?_ ?_ ?_
        rotate_left 2
        · intro W hSW; go_simp; try with_reducible rfl
        · simp only [List.set_cons_succ, List.set_cons_zero]; rfl
        refine wpAnyH_done (by kernel_rfl) ?_ _
        refine NoPanic.normal ?_
        (try simp only [Act.put])
        have HRq149 : Hid (RowsW Wq149 [(gq149, cq148, 26), (gq143, cq142, 26), (gq13, cq12, 26), (gq8, cq7, 26), (gq4, cq3, 26), (g0, (arrB a), 22)]) := Lib.hid ⟨hrowq149, HRq143.out.below hbq149⟩
        have HBq149 := Lib.hid (below_next HBq143.out hbq149)
        have NEq149_0 : Hid (g0 ≠ gq149) := Lib.hid (by have h := HRq143.out.lt (g0, (arrB a), 22) (by simp); have := hgq149; simp only at h; omega)
        have NEq149_1 : Hid (gq4 ≠ gq149) := Lib.hid (by have h := HRq143.out.lt (gq4, cq3, 26) (by simp); have := hgq149; simp only at h; omega)
        have NEq149_2 : Hid (gq8 ≠ gq149) := Lib.hid (by have h := HRq143.out.lt (gq8, cq7, 26) (by simp); have := hgq149; simp only at h; omega)
        have NEq149_3 : Hid (gq13 ≠ gq149) := Lib.hid (by have h := HRq143.out.lt (gq13, cq12, 26) (by simp); have := hgq149; simp only at h; omega)
        have NEq149_4 : Hid (gq143 ≠ gq149) := Lib.hid (by have h := HRq143.out.lt (gq143, cq142, 26) (by simp); have := hgq149; simp only at h; omega)
        have HGq149 := Lib.hid (Nat.le_trans HBq143.out.size hgq149)
        clear hrowq149 hbq149 hgq149
        go_upto_region 9 with fail
        have l150 := HRq149.out.tail.tail.tail.tail.head
        go_wp2_with (refine wpList_load_row rfl 26 (.tmp 4) rfl gq4 rfl 26 cq3 (0, 0) _ l150 Try.underlying26 rfl (C.base.info Rq3.out) ?_)
        have kq151 := fun W : World => (C.isZero Rq3.out) W
        rw [decide_eq_false (show ¬ n2 = 0 from HX0.out)] at kq151
        have Kq151 := Lib.hid kq151
        clear kq151
        with_reducible refine (Kq151.out _).mono ?_
        rintro e vq151 ⟨rfl, hbq151⟩
        have HRq151 := Lib.hid (HRq149.out.below hbq151)
        have HBq151 := Lib.hid (below_next HBq149.out hbq151)
        clear hbq151
        go_upto_region 11 with fail
        go_wp2_with fail
        go_ret
        exact ⟨rfl, HBq151.out⟩
end Go.Proofs.Ytjekeblcppkghaa

