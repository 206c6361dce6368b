/- The walk of FeRing. Written by wip/tools/mk_law9.py. -/
import Derived.Test.YtlhnjdnkjgnooaaLaw9Alive
import Derived.Test.YtlhnjdnkjgnooaaFe9L
namespace Go.Proofs.Ytlhnjdnkjgnooaa
open Go.RowKit
set_option linter.unusedVariables false
set_option maxRecDepth 100000

set_option maxHeartbeats 6400000 in
theorem law9Ring {R : Array Value → Nat → Prop} (C : FeC R) (a : List UInt8) (ha : a.length = 32) (b : List UInt8) (hb : b.length = 32) (c : List UInt8) (hc : c.length = 32) (w : World) : Calls Try.prog 5 #[.agg (arrB a), .agg (arrB b), .agg (arrB c)] w fun e w' => e = .returned (.bool true) ∧ Below w.heap.size w w' := by
  have HAL : Hid (∀ W : World, Calls Try.prog 9 #[] W fun e w' => e = .returned (.bool true) ∧ Below W.heap.size W w') := Lib.hid (fun W => alive9_any C W)
  obtain ⟨Z, hZ, RZ⟩ := C.base.zero
  have hzR := refT_zero
  have hz32 := zero32_zero
  have Ha := Lib.hid ha
  have Hb := Lib.hid hb
  have Hc := Lib.hid hc
  clear ha hb hc
  go_enter Try.func5, Try.ntmps5
  go_wp2_with fail
  have HR0 := Lib.hid ((((RowsW.nil w).box (arrB a) 22).box (arrB b) 22).box (arrB c) 22)
  have HB0 := Lib.hid (below_box (below_box (below_box (Below.refl w.heap.size w) (arrB a) 22) (arrB b) 22) (arrB c) 22)
  rw [World.size_alloc] at HR0
  rw [World.size_alloc] at HR0
  obtain ⟨W0, hW0⟩ : ∃ W, (((w.alloc (.cells (arrB a) 22)).alloc (.cells (arrB b) 22)).alloc (.cells (arrB c) 22)) = W := ⟨_, rfl⟩
  obtain ⟨g0, hg0⟩ : ∃ g, w.heap.size = g := ⟨_, rfl⟩
  rw [hW0] at HR0 HB0
  rw [hg0] at HR0
  rw [hW0, hg0]
  have HG0 := Lib.hid hg0
  clear hW0 hg0
  with_reducible refine (HAL.out _).mono ?_
  rintro e v1 ⟨rfl, hb1⟩
  have HR1 := Lib.hid (HR0.out.below hb1)
  have HB1 := Lib.hid (below_next HB0.out hb1)
  clear hb1
  go_upto_region 2 with fail
  have l1 := HR1.out.tail.tail.head
  go_wp2_with (refine wpList_load_row rfl 22 (.tmp 3) rfl g0 rfl 22 (arrB a) (0, 0) _ l1 Try.underlying22 rfl (arr32_info Ha.out) ?_)
  obtain ⟨n2, hn2⟩ : ∃ x : Nat, feN a = x := ⟨_, rfl⟩
  have Hn2 := Lib.hid hn2
  have HLn2 : Hid (n2 < PP) := Lib.hid (by rw [← hn2]; exact Nat.mod_lt _ (by decide))
  clear hn2
  with_reducible refine ((C.from_ a Ha.out) _).mono ?_
  rintro e vq3 ⟨cq3, rfl, rq3, hbq3⟩
  rw [Hn2.out] at rq3
  have Rq3 := Lib.hid rq3
  clear rq3
  have HRq3 := Lib.hid (HR1.out.below hbq3)
  have HBq3 := Lib.hid (below_next HB1.out hbq3)
  clear hbq3
  have h0q4 : (vq3.alloc (.cells Z 26)).heap[vq3.heap.size]? = some (.cells Z 26 (0, 0)) := heap_alloc_new _ _
  have HRq4 := Lib.hid (HRq3.out.new Z cq3 26)
  have HBq4 := Lib.hid (below_new HBq3.out Z cq3 26)
  have HNq4 := Lib.hid HRq3.out.ne
  have HGq4 := Lib.hid HBq3.out.size
  go_upto_region 3 with (refine wpList_store_row rfl 26 (.tmp 8) (.tmp 17) rfl vq3.heap.size cq3 rfl rfl 26 Z h0q4 (C.base.info Rq3.out) (C.base.size RZ Rq3.out) (C.base.one Rq3.out) ?_)
  obtain ⟨Wq4, hWq4⟩ : ∃ W, (vq3.alloc (.cells Z 26)).setRow vq3.heap.size cq3 = W := ⟨_, rfl⟩
  obtain ⟨gq4, hgq4⟩ : ∃ g, vq3.heap.size = g := ⟨_, rfl⟩
  rw [hWq4, hgq4] at HRq4
  rw [hWq4] at HBq4
  rw [hgq4] at HNq4 HGq4
  rw [hWq4, hgq4]
  clear hWq4 hgq4 h0q4
  have NEq4_0 : Hid (g0 ≠ gq4) := Lib.hid (HNq4.out (g0, (arrB a), 22) (by simp))
  have NEq4_1 : Hid ((g0 + 1) ≠ gq4) := Lib.hid (HNq4.out ((g0 + 1), (arrB b), 22) (by simp))
  have NEq4_2 : Hid ((g0 + 1 + 1) ≠ gq4) := Lib.hid (HNq4.out ((g0 + 1 + 1), (arrB c), 22) (by simp))
  have l5 := HRq4.out.tail.tail.head
  go_wp2_with (refine wpList_load_row rfl 22 (.tmp 4) rfl (g0 + 1) rfl 22 (arrB b) (0, 0) _ l5 Try.underlying22 rfl (arr32_info Hb.out) ?_)
  obtain ⟨n6, hn6⟩ : ∃ x : Nat, feN b = x := ⟨_, rfl⟩
  have Hn6 := Lib.hid hn6
  have HLn6 : Hid (n6 < PP) := Lib.hid (by rw [← hn6]; exact Nat.mod_lt _ (by decide))
  clear hn6
  with_reducible refine ((C.from_ b Hb.out) _).mono ?_
  rintro e vq7 ⟨cq7, rfl, rq7, hbq7⟩
  rw [Hn6.out] at rq7
  have Rq7 := Lib.hid rq7
  clear rq7
  have HRq7 := Lib.hid (HRq4.out.below hbq7)
  have HBq7 := Lib.hid (below_next HBq4.out hbq7)
  clear hbq7
  have h0q8 : (vq7.alloc (.cells Z 26)).heap[vq7.heap.size]? = some (.cells Z 26 (0, 0)) := heap_alloc_new _ _
  have HRq8 := Lib.hid (HRq7.out.new Z cq7 26)
  have HBq8 := Lib.hid (below_new HBq7.out Z cq7 26)
  have HNq8 := Lib.hid HRq7.out.ne
  have HGq8 := Lib.hid HBq7.out.size
  go_upto_region 4 with (refine wpList_store_row rfl 26 (.tmp 9) (.tmp 19) rfl vq7.heap.size cq7 rfl rfl 26 Z h0q8 (C.base.info Rq7.out) (C.base.size RZ Rq7.out) (C.base.one Rq7.out) ?_)
  obtain ⟨Wq8, hWq8⟩ : ∃ W, (vq7.alloc (.cells Z 26)).setRow vq7.heap.size cq7 = W := ⟨_, rfl⟩
  obtain ⟨gq8, hgq8⟩ : ∃ g, vq7.heap.size = g := ⟨_, rfl⟩
  rw [hWq8, hgq8] at HRq8
  rw [hWq8] at HBq8
  rw [hgq8] at HNq8 HGq8
  rw [hWq8, hgq8]
  clear hWq8 hgq8 h0q8
  have NEq8_0 : Hid (g0 ≠ gq8) := Lib.hid (HNq8.out (g0, (arrB a), 22) (by simp))
  have NEq8_1 : Hid ((g0 + 1) ≠ gq8) := Lib.hid (HNq8.out ((g0 + 1), (arrB b), 22) (by simp))
  have NEq8_2 : Hid ((g0 + 1 + 1) ≠ gq8) := Lib.hid (HNq8.out ((g0 + 1 + 1), (arrB c), 22) (by simp))
  have NEq8_3 : Hid (gq4 ≠ gq8) := Lib.hid (HNq8.out (gq4, cq3, 26) (by simp))
  have l9 := HRq8.out.tail.tail.head
  go_wp2_with (refine wpList_load_row rfl 22 (.tmp 5) rfl (g0 + 1 + 1) rfl 22 (arrB c) (0, 0) _ l9 Try.underlying22 rfl (arr32_info Hc.out) ?_)
  obtain ⟨n10, hn10⟩ : ∃ x : Nat, feN c = x := ⟨_, rfl⟩
  have Hn10 := Lib.hid hn10
  have HLn10 : Hid (n10 < PP) := Lib.hid (by rw [← hn10]; exact Nat.mod_lt _ (by decide))
  clear hn10
  with_reducible refine ((C.from_ c Hc.out) _).mono ?_
  rintro e vq11 ⟨cq11, rfl, rq11, hbq11⟩
  rw [Hn10.out] at rq11
  have Rq11 := Lib.hid rq11
  clear rq11
  have HRq11 := Lib.hid (HRq8.out.below hbq11)
  have HBq11 := Lib.hid (below_next HBq8.out hbq11)
  clear hbq11
  have h0q12 : (vq11.alloc (.cells Z 26)).heap[vq11.heap.size]? = some (.cells Z 26 (0, 0)) := heap_alloc_new _ _
  have HRq12 := Lib.hid (HRq11.out.new Z cq11 26)
  have HBq12 := Lib.hid (below_new HBq11.out Z cq11 26)
  have HNq12 := Lib.hid HRq11.out.ne
  have HGq12 := Lib.hid HBq11.out.size
  go_upto_region 5 with (refine wpList_store_row rfl 26 (.tmp 10) (.tmp 21) rfl vq11.heap.size cq11 rfl rfl 26 Z h0q12 (C.base.info Rq11.out) (C.base.size RZ Rq11.out) (C.base.one Rq11.out) ?_)
  obtain ⟨Wq12, hWq12⟩ : ∃ W, (vq11.alloc (.cells Z 26)).setRow vq11.heap.size cq11 = W := ⟨_, rfl⟩
  obtain ⟨gq12, hgq12⟩ : ∃ g, vq11.heap.size = g := ⟨_, rfl⟩
  rw [hWq12, hgq12] at HRq12
  rw [hWq12] at HBq12
  rw [hgq12] at HNq12 HGq12
  rw [hWq12, hgq12]
  clear hWq12 hgq12 h0q12
  have NEq12_0 : Hid (g0 ≠ gq12) := Lib.hid (HNq12.out (g0, (arrB a), 22) (by simp))
  have NEq12_1 : Hid ((g0 + 1) ≠ gq12) := Lib.hid (HNq12.out ((g0 + 1), (arrB b), 22) (by simp))
  have NEq12_2 : Hid ((g0 + 1 + 1) ≠ gq12) := Lib.hid (HNq12.out ((g0 + 1 + 1), (arrB c), 22) (by simp))
  have NEq12_3 : Hid (gq4 ≠ gq12) := Lib.hid (HNq12.out (gq4, cq3, 26) (by simp))
  have NEq12_4 : Hid (gq8 ≠ gq12) := Lib.hid (HNq12.out (gq8, cq7, 26) (by simp))
  refine wp_region_noPanic ?_
  refine wp_region_held_drew (S := fun W => Below Wq12.heap.size Wq12 W) (by kernel_rfl) (by exact (Below.refl _ _).drew) (fun hS => ?_)
  refine' take_at 0 rfl (by kernel_rfl) (by kernel_rfl) (by kernel_rfl) (fun _ _ _ h => h) (by rfl) hS ?_ ?_ ?_
  rotate_left 2
  · intro W hSW; exact run_loadR rfl rfl (HRq12.out.below hSW).tail.tail.head Try.underlying26 rfl (C.base.info Rq3.out)
  · simp only [List.set_cons_succ, List.set_cons_zero]; rfl
  refine' take_at 1 rfl (by kernel_rfl) (by kernel_rfl) (by kernel_rfl) (fun _ _ _ h => h) (by rfl) hS ?_ ?_ ?_
  rotate_left 2
  · intro W hSW; exact run_loadR rfl rfl (HRq12.out.below hSW).tail.head Try.underlying26 rfl (C.base.info Rq7.out)
  · simp only [List.set_cons_succ, List.set_cons_zero]; rfl
  refine' take_at 2 rfl (by kernel_rfl) (by kernel_rfl) (by kernel_rfl) (fun _ _ _ h => h) (by rfl) hS ?_ ?_ ?_
  rotate_left 2
  · intro W hSW; exact run_loadR rfl rfl (HRq12.out.below hSW).head Try.underlying26 rfl (C.base.info Rq11.out)
  · simp only [List.set_cons_succ, List.set_cons_zero]; rfl
  refine' take_at 5 rfl (by kernel_rfl) (by kernel_rfl) (by kernel_rfl) (fun _ _ _ h => h) (by rfl) hS ?_ ?_ ?_
  rotate_left 2
  · intro W hSW; exact run_loadR rfl rfl (HRq12.out.below hSW).tail.tail.head Try.underlying26 rfl (C.base.info Rq3.out)
  · simp only [List.set_cons_succ, List.set_cons_zero]; rfl
  refine' take_at 6 rfl (by kernel_rfl) (by kernel_rfl) (by kernel_rfl) (fun _ _ _ h => h) (by rfl) hS ?_ ?_ ?_
  rotate_left 2
  · intro W hSW; exact run_loadR rfl rfl (HRq12.out.below hSW).tail.head Try.underlying26 rfl (C.base.info Rq7.out)
  · simp only [List.set_cons_succ, List.set_cons_zero]; rfl
  refine' take_at 8 rfl (by kernel_rfl) (by kernel_rfl) (by kernel_rfl) (fun _ _ _ h => h) (by rfl) hS ?_ ?_ ?_
  rotate_left 2
  · intro W hSW; exact run_loadR rfl rfl (HRq12.out.below hSW).tail.tail.head Try.underlying26 rfl (C.base.info Rq3.out)
  · simp only [List.set_cons_succ, List.set_cons_zero]; rfl
  refine' take_at 9 rfl (by kernel_rfl) (by kernel_rfl) (by kernel_rfl) (fun _ _ _ h => h) (by rfl) hS ?_ ?_ ?_
  rotate_left 2
  · intro W hSW; exact run_loadR rfl rfl (HRq12.out.below hSW).head Try.underlying26 rfl (C.base.info Rq11.out)
  · simp only [List.set_cons_succ, List.set_cons_zero]; rfl
  refine call_at 3 rfl (by kernel_rfl) (by rfl) (fun K hK => ?_)
  go_simp
  obtain ⟨n13, hn13⟩ : ∃ x : Nat, (n6 + n10) % PP = x := ⟨_, rfl⟩
  have Hn13 := Lib.hid hn13
  have HLn13 : Hid (n13 < PP) := Lib.hid (by rw [← hn13]; exact Nat.mod_lt _ (by decide))
  clear hn13
  with_reducible refine ((C.add Rq7.out Rq11.out) _).mono ?_
  rintro e vq14 ⟨cq14, rfl, rq14, hbq14⟩
  rw [Hn13.out] at rq14
  have Rq14 := Lib.hid rq14
  clear rq14
  have kbq14 := below_next hS hbq14
  clear hS hbq14
  refine hK.out _ _ (by exact kbq14) (fun hS => ?_)
  clear hK K
  refine call_at 4 rfl (by kernel_rfl) (by rfl) (fun K hK => ?_)
  go_simp
  obtain ⟨n15, hn15⟩ : ∃ x : Nat, (n2 * n13) % PP = x := ⟨_, rfl⟩
  have Hn15 := Lib.hid hn15
  have HLn15 : Hid (n15 < PP) := Lib.hid (by rw [← hn15]; exact Nat.mod_lt _ (by decide))
  clear hn15
  with_reducible refine ((C.mul Rq3.out Rq14.out) _).mono ?_
  rintro e vq16 ⟨cq16, rfl, rq16, hbq16⟩
  rw [Hn15.out] at rq16
  have Rq16 := Lib.hid rq16
  clear rq16
  have kbq16 := below_next kbq14 hbq16
  clear hS hbq16
  refine hK.out _ _ (by exact kbq16) (fun hS => ?_)
  clear hK K
  refine call_at 7 rfl (by kernel_rfl) (by rfl) (fun K hK => ?_)
  go_simp
  obtain ⟨n17, hn17⟩ : ∃ x : Nat, (n2 * n6) % PP = x := ⟨_, rfl⟩
  have Hn17 := Lib.hid hn17
  have HLn17 : Hid (n17 < PP) := Lib.hid (by rw [← hn17]; exact Nat.mod_lt _ (by decide))
  clear hn17
  with_reducible refine ((C.mul Rq3.out Rq7.out) _).mono ?_
  rintro e vq18 ⟨cq18, rfl, rq18, hbq18⟩
  rw [Hn17.out] at rq18
  have Rq18 := Lib.hid rq18
  clear rq18
  have kbq18 := below_next kbq16 hbq18
  clear hS hbq18
  refine hK.out _ _ (by exact kbq18) (fun hS => ?_)
  clear hK K
  refine call_at 10 rfl (by kernel_rfl) (by rfl) (fun K hK => ?_)
  go_simp
  obtain ⟨n19, hn19⟩ : ∃ x : Nat, (n2 * n10) % PP = x := ⟨_, rfl⟩
  have Hn19 := Lib.hid hn19
  have HLn19 : Hid (n19 < PP) := Lib.hid (by rw [← hn19]; exact Nat.mod_lt _ (by decide))
  clear hn19
  with_reducible refine ((C.mul Rq3.out Rq11.out) _).mono ?_
  rintro e vq20 ⟨cq20, rfl, rq20, hbq20⟩
  rw [Hn19.out] at rq20
  have Rq20 := Lib.hid rq20
  clear rq20
  have kbq20 := below_next kbq18 hbq20
  clear hS hbq20
  refine hK.out _ _ (by exact kbq20) (fun hS => ?_)
  clear hK K
  refine call_at 11 rfl (by kernel_rfl) (by rfl) (fun K hK => ?_)
  go_simp
  obtain ⟨n21, hn21⟩ : ∃ x : Nat, (n17 + n19) % PP = x := ⟨_, rfl⟩
  have Hn21 := Lib.hid hn21
  have HLn21 : Hid (n21 < PP) := Lib.hid (by rw [← hn21]; exact Nat.mod_lt _ (by decide))
  clear hn21
  with_reducible refine ((C.add Rq18.out Rq20.out) _).mono ?_
  rintro e vq22 ⟨cq22, rfl, rq22, hbq22⟩
  rw [Hn21.out] at rq22
  have Rq22 := Lib.hid rq22
  clear rq22
  have kbq22 := below_next kbq20 hbq22
  clear hS hbq22
  refine hK.out _ _ (by exact kbq22) (fun hS => ?_)
  clear hK K
  refine call_at 12 rfl (by kernel_rfl) (by rfl) (fun K hK => ?_)
  go_simp
  have kq23 := fun W : World => (C.equal Rq16.out Rq22.out) W
  rw [decide_eq_true (show n15 = n21 from (by rw [← Hn15.out, ← Hn13.out, ← Hn21.out, ← Hn19.out, ← Hn17.out]; exact fr_dist _ _ _))] at kq23
  have Kq23 := Lib.hid kq23
  clear kq23
  with_reducible refine (Kq23.out _).mono ?_
  rintro e vq23 ⟨rfl, hbq23⟩
  have kbq23 := below_next kbq22 hbq23
  clear hS hbq23
  refine hK.out _ _ (by exact kbq23) (fun hS => ?_)
  clear hK K
  refine' take_at 13 rfl (by kernel_rfl) (by kernel_rfl) (by kernel_rfl) (fun _ _ _ h => h) (by rfl) hS ?_ ?_ ?_
  rotate_left 2
  · intro W hSW; go_simp; try with_reducible rfl
  · simp only [List.set_cons_succ, List.set_cons_zero]; rfl
  refine wpAnyH_done (by kernel_rfl) ?_ _
  refine NoPanic.normal ?_
  clear hS
  (try simp only [Act.put])
  have HRq24 := Lib.hid (HRq12.out.below kbq23)
  have HBq24 := Lib.hid (below_next HBq12.out kbq23)
  go_upto_region 6 with fail
  refine wp_region_noPanic ?_
  refine wp_region_held_drew (S := fun W => Below vq23.heap.size vq23 W) (by kernel_rfl) (by exact (Below.refl _ _).drew) (fun hS => ?_)
  refine' take_at 0 rfl (by kernel_rfl) (by kernel_rfl) (by kernel_rfl) (fun _ _ _ h => h) (by rfl) hS ?_ ?_ ?_
  rotate_left 2
  · intro W hSW; exact run_loadR rfl rfl (HRq24.out.below hSW).tail.tail.head Try.underlying26 rfl (C.base.info Rq3.out)
  · simp only [List.set_cons_succ, List.set_cons_zero]; rfl
  refine' take_at 1 rfl (by kernel_rfl) (by kernel_rfl) (by kernel_rfl) (fun _ _ _ h => h) (by rfl) hS ?_ ?_ ?_
  rotate_left 2
  · intro W hSW; exact run_loadR rfl rfl (HRq24.out.below hSW).tail.head Try.underlying26 rfl (C.base.info Rq7.out)
  · simp only [List.set_cons_succ, List.set_cons_zero]; rfl
  refine' take_at 3 rfl (by kernel_rfl) (by kernel_rfl) (by kernel_rfl) (fun _ _ _ h => h) (by rfl) hS ?_ ?_ ?_
  rotate_left 2
  · intro W hSW; exact run_loadR rfl rfl (HRq24.out.below hSW).head Try.underlying26 rfl (C.base.info Rq11.out)
  · simp only [List.set_cons_succ, List.set_cons_zero]; rfl
  refine' take_at 5 rfl (by kernel_rfl) (by kernel_rfl) (by kernel_rfl) (fun _ _ _ h => h) (by rfl) hS ?_ ?_ ?_
  rotate_left 2
  · intro W hSW; exact run_loadR rfl rfl (HRq24.out.below hSW).tail.tail.head Try.underlying26 rfl (C.base.info Rq3.out)
  · simp only [List.set_cons_succ, List.set_cons_zero]; rfl
  refine' take_at 6 rfl (by kernel_rfl) (by kernel_rfl) (by kernel_rfl) (fun _ _ _ h => h) (by rfl) hS ?_ ?_ ?_
  rotate_left 2
  · intro W hSW; exact run_loadR rfl rfl (HRq24.out.below hSW).tail.head Try.underlying26 rfl (C.base.info Rq7.out)
  · simp only [List.set_cons_succ, List.set_cons_zero]; rfl
  refine' take_at 7 rfl (by kernel_rfl) (by kernel_rfl) (by kernel_rfl) (fun _ _ _ h => h) (by rfl) hS ?_ ?_ ?_
  rotate_left 2
  · intro W hSW; exact run_loadR rfl rfl (HRq24.out.below hSW).head Try.underlying26 rfl (C.base.info Rq11.out)
  · simp only [List.set_cons_succ, List.set_cons_zero]; rfl
  refine call_at 2 rfl (by kernel_rfl) (by rfl) (fun K hK => ?_)
  go_simp
  with_reducible refine ((C.mul Rq3.out Rq7.out) _).mono ?_
  rintro e vq25 ⟨cq25, rfl, rq25, hbq25⟩
  rw [Hn17.out] at rq25
  have Rq25 := Lib.hid rq25
  clear rq25
  have kbq25 := below_next hS hbq25
  clear hS hbq25
  refine hK.out _ _ (by exact kbq25) (fun hS => ?_)
  clear hK K
  refine call_at 4 rfl (by kernel_rfl) (by rfl) (fun K hK => ?_)
  go_simp
  obtain ⟨n26, hn26⟩ : ∃ x : Nat, (n17 * n10) % PP = x := ⟨_, rfl⟩
  have Hn26 := Lib.hid hn26
  have HLn26 : Hid (n26 < PP) := Lib.hid (by rw [← hn26]; exact Nat.mod_lt _ (by decide))
  clear hn26
  with_reducible refine ((C.mul Rq25.out Rq11.out) _).mono ?_
  rintro e vq27 ⟨cq27, rfl, rq27, hbq27⟩
  rw [Hn26.out] at rq27
  have Rq27 := Lib.hid rq27
  clear rq27
  have kbq27 := below_next kbq25 hbq27
  clear hS hbq27
  refine hK.out _ _ (by exact kbq27) (fun hS => ?_)
  clear hK K
  refine call_at 8 rfl (by kernel_rfl) (by rfl) (fun K hK => ?_)
  go_simp
  obtain ⟨n28, hn28⟩ : ∃ x : Nat, (n6 * n10) % PP = x := ⟨_, rfl⟩
  have Hn28 := Lib.hid hn28
  have HLn28 : Hid (n28 < PP) := Lib.hid (by rw [← hn28]; exact Nat.mod_lt _ (by decide))
  clear hn28
  with_reducible refine ((C.mul Rq7.out Rq11.out) _).mono ?_
  rintro e vq29 ⟨cq29, rfl, rq29, hbq29⟩
  rw [Hn28.out] at rq29
  have Rq29 := Lib.hid rq29
  clear rq29
  have kbq29 := below_next kbq27 hbq29
  clear hS hbq29
  refine hK.out _ _ (by exact kbq29) (fun hS => ?_)
  clear hK K
  refine call_at 9 rfl (by kernel_rfl) (by rfl) (fun K hK => ?_)
  go_simp
  obtain ⟨n30, hn30⟩ : ∃ x : Nat, (n2 * n28) % PP = x := ⟨_, rfl⟩
  have Hn30 := Lib.hid hn30
  have HLn30 : Hid (n30 < PP) := Lib.hid (by rw [← hn30]; exact Nat.mod_lt _ (by decide))
  clear hn30
  with_reducible refine ((C.mul Rq3.out Rq29.out) _).mono ?_
  rintro e vq31 ⟨cq31, rfl, rq31, hbq31⟩
  rw [Hn30.out] at rq31
  have Rq31 := Lib.hid rq31
  clear rq31
  have kbq31 := below_next kbq29 hbq31
  clear hS hbq31
  refine hK.out _ _ (by exact kbq31) (fun hS => ?_)
  clear hK K
  refine call_at 10 rfl (by kernel_rfl) (by rfl) (fun K hK => ?_)
  go_simp
  have kq32 := fun W : World => (C.equal Rq27.out Rq31.out) W
  rw [decide_eq_true (show n26 = n30 from (by rw [← Hn26.out, ← Hn17.out, ← Hn30.out, ← Hn28.out]; exact fr_assoc _ _ _))] at kq32
  have Kq32 := Lib.hid kq32
  clear kq32
  with_reducible refine (Kq32.out _).mono ?_
  rintro e vq32 ⟨rfl, hbq32⟩
  have kbq32 := below_next kbq31 hbq32
  clear hS hbq32
  refine hK.out _ _ (by exact kbq32) (fun hS => ?_)
  clear hK K
  refine' take_at 11 rfl (by kernel_rfl) (by kernel_rfl) (by kernel_rfl) (fun _ _ _ h => h) (by rfl) hS ?_ ?_ ?_
  rotate_left 2
  · intro W hSW; go_simp; try with_reducible rfl
  · simp only [List.set_cons_succ, List.set_cons_zero]; rfl
  refine wpAnyH_done (by kernel_rfl) ?_ _
  refine NoPanic.normal ?_
  clear hS
  (try simp only [Act.put])
  have HRq33 := Lib.hid (HRq24.out.below kbq32)
  have HBq33 := Lib.hid (below_next HBq24.out kbq32)
  go_upto_region 7 with fail
  refine wp_region_noPanic ?_
  refine wp_region_held_drew (S := fun W => Below vq32.heap.size vq32 W) (by kernel_rfl) (by exact (Below.refl _ _).drew) (fun hS => ?_)
  refine' take_at 0 rfl (by kernel_rfl) (by kernel_rfl) (by kernel_rfl) (fun _ _ _ h => h) (by rfl) hS ?_ ?_ ?_
  rotate_left 2
  · intro W hSW; exact run_loadR rfl rfl (HRq33.out.below hSW).tail.tail.head Try.underlying26 rfl (C.base.info Rq3.out)
  · simp only [List.set_cons_succ, List.set_cons_zero]; rfl
  refine' take_at 1 rfl (by kernel_rfl) (by kernel_rfl) (by kernel_rfl) (fun _ _ _ h => h) (by rfl) hS ?_ ?_ ?_
  rotate_left 2
  · intro W hSW; exact run_loadR rfl rfl (HRq33.out.below hSW).tail.head Try.underlying26 rfl (C.base.info Rq7.out)
  · simp only [List.set_cons_succ, List.set_cons_zero]; rfl
  refine' take_at 3 rfl (by kernel_rfl) (by kernel_rfl) (by kernel_rfl) (fun _ _ _ h => h) (by rfl) hS ?_ ?_ ?_
  rotate_left 2
  · intro W hSW; exact run_loadR rfl rfl (HRq33.out.below hSW).head Try.underlying26 rfl (C.base.info Rq11.out)
  · simp only [List.set_cons_succ, List.set_cons_zero]; rfl
  refine' take_at 5 rfl (by kernel_rfl) (by kernel_rfl) (by kernel_rfl) (fun _ _ _ h => h) (by rfl) hS ?_ ?_ ?_
  rotate_left 2
  · intro W hSW; exact run_loadR rfl rfl (HRq33.out.below hSW).tail.tail.head Try.underlying26 rfl (C.base.info Rq3.out)
  · simp only [List.set_cons_succ, List.set_cons_zero]; rfl
  refine' take_at 6 rfl (by kernel_rfl) (by kernel_rfl) (by kernel_rfl) (fun _ _ _ h => h) (by rfl) hS ?_ ?_ ?_
  rotate_left 2
  · intro W hSW; exact run_loadR rfl rfl (HRq33.out.below hSW).head Try.underlying26 rfl (C.base.info Rq11.out)
  · simp only [List.set_cons_succ, List.set_cons_zero]; rfl
  refine' take_at 7 rfl (by kernel_rfl) (by kernel_rfl) (by kernel_rfl) (fun _ _ _ h => h) (by rfl) hS ?_ ?_ ?_
  rotate_left 2
  · intro W hSW; exact run_loadR rfl rfl (HRq33.out.below hSW).tail.head Try.underlying26 rfl (C.base.info Rq7.out)
  · simp only [List.set_cons_succ, List.set_cons_zero]; rfl
  refine call_at 2 rfl (by kernel_rfl) (by rfl) (fun K hK => ?_)
  go_simp
  obtain ⟨n34, hn34⟩ : ∃ x : Nat, (n2 + n6) % PP = x := ⟨_, rfl⟩
  have Hn34 := Lib.hid hn34
  have HLn34 : Hid (n34 < PP) := Lib.hid (by rw [← hn34]; exact Nat.mod_lt _ (by decide))
  clear hn34
  with_reducible refine ((C.add Rq3.out Rq7.out) _).mono ?_
  rintro e vq35 ⟨cq35, rfl, rq35, hbq35⟩
  rw [Hn34.out] at rq35
  have Rq35 := Lib.hid rq35
  clear rq35
  have kbq35 := below_next hS hbq35
  clear hS hbq35
  refine hK.out _ _ (by exact kbq35) (fun hS => ?_)
  clear hK K
  refine call_at 4 rfl (by kernel_rfl) (by rfl) (fun K hK => ?_)
  go_simp
  obtain ⟨n36, hn36⟩ : ∃ x : Nat, (n34 + n10) % PP = x := ⟨_, rfl⟩
  have Hn36 := Lib.hid hn36
  have HLn36 : Hid (n36 < PP) := Lib.hid (by rw [← hn36]; exact Nat.mod_lt _ (by decide))
  clear hn36
  with_reducible refine ((C.add Rq35.out Rq11.out) _).mono ?_
  rintro e vq37 ⟨cq37, rfl, rq37, hbq37⟩
  rw [Hn36.out] at rq37
  have Rq37 := Lib.hid rq37
  clear rq37
  have kbq37 := below_next kbq35 hbq37
  clear hS hbq37
  refine hK.out _ _ (by exact kbq37) (fun hS => ?_)
  clear hK K
  refine call_at 8 rfl (by kernel_rfl) (by rfl) (fun K hK => ?_)
  go_simp
  obtain ⟨n38, hn38⟩ : ∃ x : Nat, (n10 + n6) % PP = x := ⟨_, rfl⟩
  have Hn38 := Lib.hid hn38
  have HLn38 : Hid (n38 < PP) := Lib.hid (by rw [← hn38]; exact Nat.mod_lt _ (by decide))
  clear hn38
  with_reducible refine ((C.add Rq11.out Rq7.out) _).mono ?_
  rintro e vq39 ⟨cq39, rfl, rq39, hbq39⟩
  rw [Hn38.out] at rq39
  have Rq39 := Lib.hid rq39
  clear rq39
  have kbq39 := below_next kbq37 hbq39
  clear hS hbq39
  refine hK.out _ _ (by exact kbq39) (fun hS => ?_)
  clear hK K
  refine call_at 9 rfl (by kernel_rfl) (by rfl) (fun K hK => ?_)
  go_simp
  obtain ⟨n40, hn40⟩ : ∃ x : Nat, (n2 + n38) % PP = x := ⟨_, rfl⟩
  have Hn40 := Lib.hid hn40
  have HLn40 : Hid (n40 < PP) := Lib.hid (by rw [← hn40]; exact Nat.mod_lt _ (by decide))
  clear hn40
  with_reducible refine ((C.add Rq3.out Rq39.out) _).mono ?_
  rintro e vq41 ⟨cq41, rfl, rq41, hbq41⟩
  rw [Hn40.out] at rq41
  have Rq41 := Lib.hid rq41
  clear rq41
  have kbq41 := below_next kbq39 hbq41
  clear hS hbq41
  refine hK.out _ _ (by exact kbq41) (fun hS => ?_)
  clear hK K
  refine call_at 10 rfl (by kernel_rfl) (by rfl) (fun K hK => ?_)
  go_simp
  have kq42 := fun W : World => (C.equal Rq37.out Rq41.out) W
  rw [decide_eq_true (show n36 = n40 from (by rw [← Hn36.out, ← Hn34.out, ← Hn40.out, ← Hn38.out]; exact fr_sums _ _ _))] at kq42
  have Kq42 := Lib.hid kq42
  clear kq42
  with_reducible refine (Kq42.out _).mono ?_
  rintro e vq42 ⟨rfl, hbq42⟩
  have kbq42 := below_next kbq41 hbq42
  clear hS hbq42
  refine hK.out _ _ (by exact kbq42) (fun hS => ?_)
  clear hK K
  refine' take_at 11 rfl (by kernel_rfl) (by kernel_rfl) (by kernel_rfl) (fun _ _ _ h => h) (by rfl) hS ?_ ?_ ?_
  rotate_left 2
  · intro W hSW; go_simp; try with_reducible rfl
  · simp only [List.set_cons_succ, List.set_cons_zero]; rfl
  refine wpAnyH_done (by kernel_rfl) ?_ _
  refine NoPanic.normal ?_
  clear hS
  (try simp only [Act.put])
  have HRq43 := Lib.hid (HRq33.out.below kbq42)
  have HBq43 := Lib.hid (below_next HBq33.out kbq42)
  go_upto_region 8 with fail
  refine wp_region_noPanic ?_
  refine wp_region_held_drew (S := fun W => Below vq42.heap.size vq42 W) (by kernel_rfl) (by exact (Below.refl _ _).drew) (fun hS => ?_)
  refine' take_at 0 rfl (by kernel_rfl) (by kernel_rfl) (by kernel_rfl) (fun _ _ _ h => h) (by rfl) hS ?_ ?_ ?_
  rotate_left 2
  · intro W hSW; exact run_loadR rfl rfl (HRq43.out.below hSW).tail.tail.head Try.underlying26 rfl (C.base.info Rq3.out)
  · simp only [List.set_cons_succ, List.set_cons_zero]; rfl
  refine' take_at 1 rfl (by kernel_rfl) (by kernel_rfl) (by kernel_rfl) (fun _ _ _ h => h) (by rfl) hS ?_ ?_ ?_
  rotate_left 2
  · intro W hSW; exact run_loadR rfl rfl (HRq43.out.below hSW).tail.head Try.underlying26 rfl (C.base.info Rq7.out)
  · simp only [List.set_cons_succ, List.set_cons_zero]; rfl
  refine' take_at 4 rfl (by kernel_rfl) (by kernel_rfl) (by kernel_rfl) (fun _ _ _ h => h) (by rfl) hS ?_ ?_ ?_
  rotate_left 2
  · intro W hSW; exact run_loadR rfl rfl (HRq43.out.below hSW).tail.tail.head Try.underlying26 rfl (C.base.info Rq3.out)
  · simp only [List.set_cons_succ, List.set_cons_zero]; rfl
  refine' take_at 6 rfl (by kernel_rfl) (by kernel_rfl) (by kernel_rfl) (fun _ _ _ h => h) (by rfl) hS ?_ ?_ ?_
  rotate_left 2
  · intro W hSW; exact run_loadR rfl rfl (HRq43.out.below hSW).tail.head Try.underlying26 rfl (C.base.info Rq7.out)
  · simp only [List.set_cons_succ, List.set_cons_zero]; rfl
  refine' take_at 10 rfl (by kernel_rfl) (by kernel_rfl) (by kernel_rfl) (fun _ _ _ h => h) (by rfl) hS ?_ ?_ ?_
  rotate_left 2
  · intro W hSW; exact run_loadR rfl rfl (HRq43.out.below hSW).tail.tail.head Try.underlying26 rfl (C.base.info Rq3.out)
  · simp only [List.set_cons_succ, List.set_cons_zero]; rfl
  refine' take_at 11 rfl (by kernel_rfl) (by kernel_rfl) (by kernel_rfl) (fun _ _ _ h => h) (by rfl) hS ?_ ?_ ?_
  rotate_left 2
  · intro W hSW; exact run_loadR rfl rfl (HRq43.out.below hSW).tail.head Try.underlying26 rfl (C.base.info Rq7.out)
  · simp only [List.set_cons_succ, List.set_cons_zero]; rfl
  refine call_at 2 rfl (by kernel_rfl) (by rfl) (fun K hK => ?_)
  go_simp
  with_reducible refine ((C.add Rq3.out Rq7.out) _).mono ?_
  rintro e vq44 ⟨cq44, rfl, rq44, hbq44⟩
  rw [Hn34.out] at rq44
  have Rq44 := Lib.hid rq44
  clear rq44
  have kbq44 := below_next hS hbq44
  clear hS hbq44
  refine hK.out _ _ (by exact kbq44) (fun hS => ?_)
  clear hK K
  refine call_at 3 rfl (by kernel_rfl) (by rfl) (fun K hK => ?_)
  go_simp
  obtain ⟨n45, hn45⟩ : ∃ x : Nat, (n34 * n34) % PP = x := ⟨_, rfl⟩
  have Hn45 := Lib.hid hn45
  have HLn45 : Hid (n45 < PP) := Lib.hid (by rw [← hn45]; exact Nat.mod_lt _ (by decide))
  clear hn45
  with_reducible refine ((C.square Rq44.out) _).mono ?_
  rintro e vq46 ⟨cq46, rfl, rq46, hbq46⟩
  rw [Hn45.out] at rq46
  have Rq46 := Lib.hid rq46
  clear rq46
  have kbq46 := below_next kbq44 hbq46
  clear hS hbq46
  refine hK.out _ _ (by exact kbq46) (fun hS => ?_)
  clear hK K
  refine call_at 5 rfl (by kernel_rfl) (by rfl) (fun K hK => ?_)
  go_simp
  obtain ⟨n47, hn47⟩ : ∃ x : Nat, (n2 * n2) % PP = x := ⟨_, rfl⟩
  have Hn47 := Lib.hid hn47
  have HLn47 : Hid (n47 < PP) := Lib.hid (by rw [← hn47]; exact Nat.mod_lt _ (by decide))
  clear hn47
  with_reducible refine ((C.square Rq3.out) _).mono ?_
  rintro e vq48 ⟨cq48, rfl, rq48, hbq48⟩
  rw [Hn47.out] at rq48
  have Rq48 := Lib.hid rq48
  clear rq48
  have kbq48 := below_next kbq46 hbq48
  clear hS hbq48
  refine hK.out _ _ (by exact kbq48) (fun hS => ?_)
  clear hK K
  refine call_at 7 rfl (by kernel_rfl) (by rfl) (fun K hK => ?_)
  go_simp
  obtain ⟨n49, hn49⟩ : ∃ x : Nat, (n6 * n6) % PP = x := ⟨_, rfl⟩
  have Hn49 := Lib.hid hn49
  have HLn49 : Hid (n49 < PP) := Lib.hid (by rw [← hn49]; exact Nat.mod_lt _ (by decide))
  clear hn49
  with_reducible refine ((C.square Rq7.out) _).mono ?_
  rintro e vq50 ⟨cq50, rfl, rq50, hbq50⟩
  rw [Hn49.out] at rq50
  have Rq50 := Lib.hid rq50
  clear rq50
  have kbq50 := below_next kbq48 hbq50
  clear hS hbq50
  refine hK.out _ _ (by exact kbq50) (fun hS => ?_)
  clear hK K
  refine call_at 8 rfl (by kernel_rfl) (by rfl) (fun K hK => ?_)
  go_simp
  obtain ⟨n51, hn51⟩ : ∃ x : Nat, (n47 + n49) % PP = x := ⟨_, rfl⟩
  have Hn51 := Lib.hid hn51
  have HLn51 : Hid (n51 < PP) := Lib.hid (by rw [← hn51]; exact Nat.mod_lt _ (by decide))
  clear hn51
  with_reducible refine ((C.add Rq48.out Rq50.out) _).mono ?_
  rintro e vq52 ⟨cq52, rfl, rq52, hbq52⟩
  rw [Hn51.out] at rq52
  have Rq52 := Lib.hid rq52
  clear rq52
  have kbq52 := below_next kbq50 hbq52
  clear hS hbq52
  refine hK.out _ _ (by exact kbq52) (fun hS => ?_)
  clear hK K
  refine call_at 9 rfl (by kernel_rfl) (by rfl) (fun K hK => ?_)
  go_simp
  have s66_2 : ∀ W : World, Calls Try.prog 14 #[.int .u64 2] W (RetFe R W 2) := fun W => C.small 2 (by decide) W
  with_reducible refine (s66_2 _).mono ?_
  rintro e vq53 ⟨cq53, rfl, rq53, hbq53⟩
  have Rq53 := Lib.hid rq53
  clear rq53
  have kbq53 := below_next kbq52 hbq53
  clear hS hbq53
  refine hK.out _ _ (by exact kbq53) (fun hS => ?_)
  clear hK K
  refine call_at 12 rfl (by kernel_rfl) (by rfl) (fun K hK => ?_)
  go_simp
  with_reducible refine ((C.mul Rq3.out Rq7.out) _).mono ?_
  rintro e vq54 ⟨cq54, rfl, rq54, hbq54⟩
  rw [Hn17.out] at rq54
  have Rq54 := Lib.hid rq54
  clear rq54
  have kbq54 := below_next kbq53 hbq54
  clear hS hbq54
  refine hK.out _ _ (by exact kbq54) (fun hS => ?_)
  clear hK K
  refine call_at 13 rfl (by kernel_rfl) (by rfl) (fun K hK => ?_)
  go_simp
  obtain ⟨n55, hn55⟩ : ∃ x : Nat, (2 * n17) % PP = x := ⟨_, rfl⟩
  have Hn55 := Lib.hid hn55
  have HLn55 : Hid (n55 < PP) := Lib.hid (by rw [← hn55]; exact Nat.mod_lt _ (by decide))
  clear hn55
  with_reducible refine ((C.mul Rq53.out Rq54.out) _).mono ?_
  rintro e vq56 ⟨cq56, rfl, rq56, hbq56⟩
  rw [Hn55.out] at rq56
  have Rq56 := Lib.hid rq56
  clear rq56
  have kbq56 := below_next kbq54 hbq56
  clear hS hbq56
  refine hK.out _ _ (by exact kbq56) (fun hS => ?_)
  clear hK K
  refine call_at 14 rfl (by kernel_rfl) (by rfl) (fun K hK => ?_)
  go_simp
  obtain ⟨n57, hn57⟩ : ∃ x : Nat, (n51 + n55) % PP = x := ⟨_, rfl⟩
  have Hn57 := Lib.hid hn57
  have HLn57 : Hid (n57 < PP) := Lib.hid (by rw [← hn57]; exact Nat.mod_lt _ (by decide))
  clear hn57
  with_reducible refine ((C.add Rq52.out Rq56.out) _).mono ?_
  rintro e vq58 ⟨cq58, rfl, rq58, hbq58⟩
  rw [Hn57.out] at rq58
  have Rq58 := Lib.hid rq58
  clear rq58
  have kbq58 := below_next kbq56 hbq58
  clear hS hbq58
  refine hK.out _ _ (by exact kbq58) (fun hS => ?_)
  clear hK K
  refine call_at 15 rfl (by kernel_rfl) (by rfl) (fun K hK => ?_)
  go_simp
  have kq59 := fun W : World => (C.equal Rq46.out Rq58.out) W
  rw [decide_eq_true (show n45 = n57 from (by rw [← Hn45.out, ← Hn34.out, ← Hn57.out, ← Hn51.out, ← Hn47.out, ← Hn49.out, ← Hn55.out, ← Hn17.out]; exact fr_square _ _))] at kq59
  have Kq59 := Lib.hid kq59
  clear kq59
  with_reducible refine (Kq59.out _).mono ?_
  rintro e vq59 ⟨rfl, hbq59⟩
  have kbq59 := below_next kbq58 hbq59
  clear hS hbq59
  refine hK.out _ _ (by exact kbq59) (fun hS => ?_)
  clear hK K
  refine' take_at 16 rfl (by kernel_rfl) (by kernel_rfl) (by kernel_rfl) (fun _ _ _ h => h) (by rfl) hS ?_ ?_ ?_
  rotate_left 2
  · intro W hSW; go_simp; try with_reducible rfl
  · simp only [List.set_cons_succ, List.set_cons_zero]; rfl
  refine wpAnyH_done (by kernel_rfl) ?_ _
  refine NoPanic.normal ?_
  clear hS
  (try simp only [Act.put])
  have HRq60 := Lib.hid (HRq43.out.below kbq59)
  have HBq60 := Lib.hid (below_next HBq43.out kbq59)
  go_upto_region 9 with fail
  refine wp_region_noPanic ?_
  refine wp_region_held_drew (S := fun W => Below vq59.heap.size vq59 W) (by kernel_rfl) (by exact (Below.refl _ _).drew) (fun hS => ?_)
  refine' take_at 0 rfl (by kernel_rfl) (by kernel_rfl) (by kernel_rfl) (fun _ _ _ h => h) (by rfl) hS ?_ ?_ ?_
  rotate_left 2
  · intro W hSW; go_simp; try with_reducible rfl
  · simp only [List.set_cons_succ, List.set_cons_zero]; rfl
  refine' take_at 1 rfl (by kernel_rfl) (by kernel_rfl) (by kernel_rfl) (fun _ _ _ h => h) (by rfl) hS ?_ ?_ ?_
  rotate_left 2
  · intro W hSW; go_simp; try with_reducible rfl
  · simp only [List.set_cons_succ, List.set_cons_zero]; rfl
  refine' take_at 2 rfl (by kernel_rfl) (by kernel_rfl) (by kernel_rfl) (fun _ _ _ h => h) (by rfl) hS ?_ ?_ ?_
  rotate_left 2
  · intro W hSW; go_simp; try with_reducible rfl
  · simp only [List.set_cons_succ, List.set_cons_zero]; rfl
  refine' take_at 3 rfl (by kernel_rfl) (by kernel_rfl) (by kernel_rfl) (fun _ _ _ h => h) (by rfl) hS ?_ ?_ ?_
  rotate_left 2
  · intro W hSW; go_simp; try with_reducible rfl
  · simp only [List.set_cons_succ, List.set_cons_zero]; rfl
  refine' take_at 4 rfl (by kernel_rfl) (by kernel_rfl) (by kernel_rfl) (fun _ _ _ h => h) (by rfl) hS ?_ ?_ ?_
  rotate_left 2
  · intro W hSW; go_simp; try with_reducible rfl
  · simp only [List.set_cons_succ, List.set_cons_zero]; rfl
  refine' take_at 5 rfl (by kernel_rfl) (by kernel_rfl) (by kernel_rfl) (fun _ _ _ h => h) (by rfl) hS ?_ ?_ ?_
  rotate_left 2
  · intro W hSW; go_simp; try with_reducible rfl
  · simp only [List.set_cons_succ, List.set_cons_zero]; rfl
  refine' take_at 6 rfl (by kernel_rfl) (by kernel_rfl) (by kernel_rfl) (fun _ _ _ h => h) (by rfl) hS ?_ ?_ ?_
  rotate_left 2
  · intro W hSW; go_simp; try with_reducible rfl
  · simp only [List.set_cons_succ, List.set_cons_zero]; rfl
  refine' take_at 7 rfl (by kernel_rfl) (by kernel_rfl) (by kernel_rfl) (fun _ _ _ h => h) (by rfl) hS ?_ ?_ ?_
  rotate_left 2
  · intro W hSW; go_simp; try with_reducible rfl
  · simp only [List.set_cons_succ, List.set_cons_zero]; rfl
  refine' take_at 8 rfl (by kernel_rfl) (by kernel_rfl) (by kernel_rfl) (fun _ _ _ h => h) (by rfl) hS ?_ ?_ ?_
  rotate_left 2
  · intro W hSW; go_simp; try with_reducible rfl
  · simp only [List.set_cons_succ, List.set_cons_zero]; rfl
  refine' take_at 9 rfl (by kernel_rfl) (by kernel_rfl) (by kernel_rfl) (fun _ _ _ h => h) (by rfl) hS ?_ ?_ ?_
  rotate_left 2
  · intro W hSW; go_simp; try with_reducible rfl
  · simp only [List.set_cons_succ, List.set_cons_zero]; rfl
  refine' take_at 10 rfl (by kernel_rfl) (by kernel_rfl) (by kernel_rfl) (fun _ _ _ h => h) (by rfl) hS ?_ ?_ ?_
  rotate_left 2
  · intro W hSW; go_simp; try with_reducible rfl
  · simp only [List.set_cons_succ, List.set_cons_zero]; rfl
  refine' take_at 11 rfl (by kernel_rfl) (by kernel_rfl) (by kernel_rfl) (fun _ _ _ h => h) (by rfl) hS ?_ ?_ ?_
  rotate_left 2
  · intro W hSW; go_simp; try with_reducible rfl
  · simp only [List.set_cons_succ, List.set_cons_zero]; rfl
  refine' take_at 12 rfl (by kernel_rfl) (by kernel_rfl) (by kernel_rfl) (fun _ _ _ h => h) (by rfl) hS ?_ ?_ ?_
  rotate_left 2
  · intro W hSW; go_simp; try with_reducible rfl
  · simp only [List.set_cons_succ, List.set_cons_zero]; rfl
  refine' take_at 13 rfl (by kernel_rfl) (by kernel_rfl) (by kernel_rfl) (fun _ _ _ h => h) (by rfl) hS ?_ ?_ ?_
  rotate_left 2
  · intro W hSW; go_simp; try with_reducible rfl
  · simp only [List.set_cons_succ, List.set_cons_zero]; rfl
  refine' take_at 14 rfl (by kernel_rfl) (by kernel_rfl) (by kernel_rfl) (fun _ _ _ h => h) (by rfl) hS ?_ ?_ ?_
  rotate_left 2
  · intro W hSW; exact run_loadR rfl rfl (HRq60.out.below hSW).tail.tail.head Try.underlying26 rfl (C.base.info Rq3.out)
  · simp only [List.set_cons_succ, List.set_cons_zero]; rfl
  refine' take_at 17 rfl (by kernel_rfl) (by kernel_rfl) (by kernel_rfl) (fun _ _ _ h => h) (by rfl) hS ?_ ?_ ?_
  rotate_left 2
  · intro W hSW; exact run_loadR rfl rfl (HRq60.out.below hSW).tail.tail.head Try.underlying26 rfl (C.base.info Rq3.out)
  · simp only [List.set_cons_succ, List.set_cons_zero]; rfl
  refine call_at 15 rfl (by kernel_rfl) (by rfl) (fun K hK => ?_)
  go_simp
  have s88_1 : ∀ W : World, Calls Try.prog 14 #[.int .u64 1] W (RetFe R W 1) := fun W => C.small 1 (by decide) W
  with_reducible refine (s88_1 _).mono ?_
  rintro e vq61 ⟨cq61, rfl, rq61, hbq61⟩
  have Rq61 := Lib.hid rq61
  clear rq61
  have kbq61 := below_next hS hbq61
  clear hS hbq61
  refine hK.out _ _ (by exact kbq61) (fun hS => ?_)
  clear hK K
  refine call_at 16 rfl (by kernel_rfl) (by rfl) (fun K hK => ?_)
  go_simp
  obtain ⟨n62, hn62⟩ : ∃ x : Nat, (n2 * 1) % PP = x := ⟨_, rfl⟩
  have Hn62 := Lib.hid hn62
  have HLn62 : Hid (n62 < PP) := Lib.hid (by rw [← hn62]; exact Nat.mod_lt _ (by decide))
  clear hn62
  with_reducible refine ((C.mul Rq3.out Rq61.out) _).mono ?_
  rintro e vq63 ⟨cq63, rfl, rq63, hbq63⟩
  rw [Hn62.out] at rq63
  have Rq63 := Lib.hid rq63
  clear rq63
  have kbq63 := below_next kbq61 hbq63
  clear hS hbq63
  refine hK.out _ _ (by exact kbq63) (fun hS => ?_)
  clear hK K
  refine call_at 18 rfl (by kernel_rfl) (by rfl) (fun K hK => ?_)
  go_simp
  have kq64 := fun W : World => (C.equal Rq63.out Rq3.out) W
  rw [decide_eq_true (show n62 = n2 from (by rw [← Hn62.out]; exact fr_one HLn2.out))] at kq64
  have Kq64 := Lib.hid kq64
  clear kq64
  with_reducible refine (Kq64.out _).mono ?_
  rintro e vq64 ⟨rfl, hbq64⟩
  have kbq64 := below_next kbq63 hbq64
  clear hS hbq64
  refine hK.out _ _ (by exact kbq64) (fun hS => ?_)
  clear hK K
  refine' take_at 19 rfl (by kernel_rfl) (by kernel_rfl) (by kernel_rfl) (fun _ _ _ h => h) (by rfl) hS ?_ ?_ ?_
  rotate_left 2
  · intro W hSW; go_simp; try with_reducible rfl
  · simp only [List.set_cons_succ, List.set_cons_zero]; rfl
  refine' take_at 20 rfl (by kernel_rfl) (by kernel_rfl) (by kernel_rfl) (fun _ _ _ h => h) (by rfl) hS ?_ ?_ ?_
  rotate_left 2
  · intro W hSW; go_simp; try with_reducible rfl
  · simp only [List.set_cons_succ, List.set_cons_zero]; rfl
  refine' take_at 21 rfl (by kernel_rfl) (by kernel_rfl) (by kernel_rfl) (fun _ _ _ h => h) (by rfl) hS ?_ ?_ ?_
  rotate_left 2
  · intro W hSW; exact run_loadR rfl rfl (HRq60.out.below hSW).tail.tail.head Try.underlying26 rfl (C.base.info Rq3.out)
  · simp only [List.set_cons_succ, List.set_cons_zero]; rfl
  refine call_at 22 rfl (by kernel_rfl) (by rfl) (fun K hK => ?_)
  go_simp
  have s95_0 : ∀ W : World, Calls Try.prog 14 #[.int .u64 0] W (RetFe R W 0) := fun W => C.small 0 (by decide) W
  with_reducible refine (s95_0 _).mono ?_
  rintro e vq65 ⟨cq65, rfl, rq65, hbq65⟩
  have Rq65 := Lib.hid rq65
  clear rq65
  have kbq65 := below_next kbq64 hbq65
  clear hS hbq65
  refine hK.out _ _ (by exact kbq65) (fun hS => ?_)
  clear hK K
  refine call_at 23 rfl (by kernel_rfl) (by rfl) (fun K hK => ?_)
  go_simp
  obtain ⟨n66, hn66⟩ : ∃ x : Nat, (n2 * 0) % PP = x := ⟨_, rfl⟩
  have Hn66 := Lib.hid hn66
  have HLn66 : Hid (n66 < PP) := Lib.hid (by rw [← hn66]; exact Nat.mod_lt _ (by decide))
  clear hn66
  with_reducible refine ((C.mul Rq3.out Rq65.out) _).mono ?_
  rintro e vq67 ⟨cq67, rfl, rq67, hbq67⟩
  rw [Hn66.out] at rq67
  have Rq67 := Lib.hid rq67
  clear rq67
  have kbq67 := below_next kbq65 hbq67
  clear hS hbq67
  refine hK.out _ _ (by exact kbq67) (fun hS => ?_)
  clear hK K
  refine call_at 24 rfl (by kernel_rfl) (by rfl) (fun K hK => ?_)
  go_simp
  have kq68 := fun W : World => (C.isZero Rq67.out) W
  rw [decide_eq_true (show n66 = 0 from (by rw [← Hn66.out]; exact fr_zero _))] at kq68
  have Kq68 := Lib.hid kq68
  clear kq68
  with_reducible refine (Kq68.out _).mono ?_
  rintro e vq68 ⟨rfl, hbq68⟩
  have kbq68 := below_next kbq67 hbq68
  clear hS hbq68
  refine hK.out _ _ (by exact kbq68) (fun hS => ?_)
  clear hK K
  refine' take_at 25 rfl (by kernel_rfl) (by kernel_rfl) (by kernel_rfl) (fun _ _ _ h => h) (by rfl) hS ?_ ?_ ?_
  rotate_left 2
  · intro W hSW; go_simp; try with_reducible rfl
  · simp only [List.set_cons_succ, List.set_cons_zero]; rfl
  refine' take_at 26 rfl (by kernel_rfl) (by kernel_rfl) (by kernel_rfl) (fun _ _ _ h => h) (by rfl) hS ?_ ?_ ?_
  rotate_left 2
  · intro W hSW; go_simp; try with_reducible rfl
  · simp only [List.set_cons_succ, List.set_cons_zero]; rfl
  refine wpAnyH_done (by kernel_rfl) ?_ _
  refine NoPanic.normal ?_
  clear hS
  (try simp only [Act.put])
  have HRq69 := Lib.hid (HRq60.out.below kbq68)
  have HBq69 := Lib.hid (below_next HBq60.out kbq68)
  go_wp2_with fail
  go_ret
  exact ⟨rfl, HBq69.out⟩
end Go.Proofs.Ytlhnjdnkjgnooaa

