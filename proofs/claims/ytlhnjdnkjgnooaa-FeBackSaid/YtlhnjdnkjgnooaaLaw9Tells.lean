/- The walk of FeTells. Written by wip/tools/mk_law9.py. -/
import Derived.Test.YtlhnjdnkjgnooaaLaw9Alive
namespace Go.Proofs.Ytlhnjdnkjgnooaa
open Go.RowKit
set_option linter.unusedVariables false
set_option maxRecDepth 100000

set_option maxHeartbeats 6400000 in
theorem law9Tells {R : Array Value → Nat → Prop} (C : FeC R) (a : List UInt8) (ha : a.length = 32) (b : List UInt8) (hb : b.length = 32) (n : Nat) (hn : n < 18446744073709551616) (w : World) : Calls Try.prog 3 #[.agg (arrB a), .agg (arrB b), .int .u64 (n : Int)] w fun e w' => e = .returned (.bool true) ∧ Below w.heap.size w w' := by
  have HAL : Hid (∀ W : World, Calls Try.prog 9 #[] W fun e w' => e = .returned (.bool true) ∧ Below W.heap.size W w') := Lib.hid (fun W => alive9_any C W)
  obtain ⟨Z, hZ, RZ⟩ := C.base.zero
  have hzR := refT_zero
  have hz32 := zero32_zero
  have Ha := Lib.hid ha
  have Hb := Lib.hid hb
  clear ha hb
  have Hn := Lib.hid hn
  have Hnlt : Hid (n < PP) := Lib.hid (by unfold PP; omega)
  clear hn
  go_enter Try.func3, Try.ntmps3
  go_wp2_with fail
  have HR0 := Lib.hid (((RowsW.nil w).box (arrB a) 22).box (arrB b) 22)
  have HB0 := Lib.hid (below_box (below_box (Below.refl w.heap.size w) (arrB a) 22) (arrB b) 22)
  rw [World.size_alloc] at HR0
  obtain ⟨W0, hW0⟩ : ∃ W, ((w.alloc (.cells (arrB a) 22)).alloc (.cells (arrB b) 22)) = W := ⟨_, rfl⟩
  obtain ⟨g0, hg0⟩ : ∃ g, w.heap.size = g := ⟨_, rfl⟩
  rw [hW0] at HR0 HB0
  rw [hg0] at HR0
  rw [hW0, hg0]
  have HG0 := Lib.hid hg0
  clear hW0 hg0
  with_reducible refine (HAL.out _).mono ?_
  rintro e v1 ⟨rfl, hb1⟩
  have HR1 := Lib.hid (HR0.out.below hb1)
  have HB1 := Lib.hid (below_next HB0.out hb1)
  clear hb1
  go_upto_region 2 with fail
  have l1 := HR1.out.tail.head
  go_wp2_with (refine wpList_load_row rfl 22 (.tmp 3) rfl g0 rfl 22 (arrB a) (0, 0) _ l1 Try.underlying22 rfl (arr32_info Ha.out) ?_)
  obtain ⟨n2, hn2⟩ : ∃ x : Nat, feN a = x := ⟨_, rfl⟩
  have Hn2 := Lib.hid hn2
  have HLn2 : Hid (n2 < PP) := Lib.hid (by rw [← hn2]; exact Nat.mod_lt _ (by decide))
  clear hn2
  with_reducible refine ((C.from_ a Ha.out) _).mono ?_
  rintro e vq3 ⟨cq3, rfl, rq3, hbq3⟩
  rw [Hn2.out] at rq3
  have Rq3 := Lib.hid rq3
  clear rq3
  have HRq3 := Lib.hid (HR1.out.below hbq3)
  have HBq3 := Lib.hid (below_next HB1.out hbq3)
  clear hbq3
  have h0q4 : (vq3.alloc (.cells Z 26)).heap[vq3.heap.size]? = some (.cells Z 26 (0, 0)) := heap_alloc_new _ _
  have HRq4 := Lib.hid (HRq3.out.new Z cq3 26)
  have HBq4 := Lib.hid (below_new HBq3.out Z cq3 26)
  have HNq4 := Lib.hid HRq3.out.ne
  have HGq4 := Lib.hid HBq3.out.size
  go_upto_region 3 with (refine wpList_store_row rfl 26 (.tmp 8) (.tmp 14) rfl vq3.heap.size cq3 rfl rfl 26 Z h0q4 (C.base.info Rq3.out) (C.base.size RZ Rq3.out) (C.base.one Rq3.out) ?_)
  obtain ⟨Wq4, hWq4⟩ : ∃ W, (vq3.alloc (.cells Z 26)).setRow vq3.heap.size cq3 = W := ⟨_, rfl⟩
  obtain ⟨gq4, hgq4⟩ : ∃ g, vq3.heap.size = g := ⟨_, rfl⟩
  rw [hWq4, hgq4] at HRq4
  rw [hWq4] at HBq4
  rw [hgq4] at HNq4 HGq4
  rw [hWq4, hgq4]
  clear hWq4 hgq4 h0q4
  have NEq4_0 : Hid (g0 ≠ gq4) := Lib.hid (HNq4.out (g0, (arrB a), 22) (by simp))
  have NEq4_1 : Hid ((g0 + 1) ≠ gq4) := Lib.hid (HNq4.out ((g0 + 1), (arrB b), 22) (by simp))
  have l5 := HRq4.out.tail.head
  go_wp2_with (refine wpList_load_row rfl 22 (.tmp 4) rfl (g0 + 1) rfl 22 (arrB b) (0, 0) _ l5 Try.underlying22 rfl (arr32_info Hb.out) ?_)
  obtain ⟨n6, hn6⟩ : ∃ x : Nat, feN b = x := ⟨_, rfl⟩
  have Hn6 := Lib.hid hn6
  have HLn6 : Hid (n6 < PP) := Lib.hid (by rw [← hn6]; exact Nat.mod_lt _ (by decide))
  clear hn6
  with_reducible refine ((C.from_ b Hb.out) _).mono ?_
  rintro e vq7 ⟨cq7, rfl, rq7, hbq7⟩
  rw [Hn6.out] at rq7
  have Rq7 := Lib.hid rq7
  clear rq7
  have HRq7 := Lib.hid (HRq4.out.below hbq7)
  have HBq7 := Lib.hid (below_next HBq4.out hbq7)
  clear hbq7
  have h0q8 : (vq7.alloc (.cells Z 26)).heap[vq7.heap.size]? = some (.cells Z 26 (0, 0)) := heap_alloc_new _ _
  have HRq8 := Lib.hid (HRq7.out.new Z cq7 26)
  have HBq8 := Lib.hid (below_new HBq7.out Z cq7 26)
  have HNq8 := Lib.hid HRq7.out.ne
  have HGq8 := Lib.hid HBq7.out.size
  go_upto_region 4 with (refine wpList_store_row rfl 26 (.tmp 9) (.tmp 16) rfl vq7.heap.size cq7 rfl rfl 26 Z h0q8 (C.base.info Rq7.out) (C.base.size RZ Rq7.out) (C.base.one Rq7.out) ?_)
  obtain ⟨Wq8, hWq8⟩ : ∃ W, (vq7.alloc (.cells Z 26)).setRow vq7.heap.size cq7 = W := ⟨_, rfl⟩
  obtain ⟨gq8, hgq8⟩ : ∃ g, vq7.heap.size = g := ⟨_, rfl⟩
  rw [hWq8, hgq8] at HRq8
  rw [hWq8] at HBq8
  rw [hgq8] at HNq8 HGq8
  rw [hWq8, hgq8]
  clear hWq8 hgq8 h0q8
  have NEq8_0 : Hid (g0 ≠ gq8) := Lib.hid (HNq8.out (g0, (arrB a), 22) (by simp))
  have NEq8_1 : Hid ((g0 + 1) ≠ gq8) := Lib.hid (HNq8.out ((g0 + 1), (arrB b), 22) (by simp))
  have NEq8_2 : Hid (gq4 ≠ gq8) := Lib.hid (HNq8.out (gq4, cq3, 26) (by simp))
  have l9 := HRq8.out.tail.tail.tail.head
  go_wp2_with (refine wpList_load_row rfl 22 (.tmp 3) rfl g0 rfl 22 (arrB a) (0, 0) _ l9 Try.underlying22 rfl (arr32_info Ha.out) ?_)
  have kq10 := fun W : World => (rfromN a Ha.out) W
  rw [Hn2.out] at kq10
  have Kq10 := Lib.hid kq10
  clear kq10
  with_reducible refine (Kq10.out _).mono ?_
  rintro e vq10 ⟨rfl, hbq10⟩
  have HRq10 := Lib.hid (HRq8.out.below hbq10)
  have HBq10 := Lib.hid (below_next HBq8.out hbq10)
  clear hbq10
  have h0q11 : (vq10.alloc (.cells (refT 0) 29)).heap[vq10.heap.size]? = some (.cells (refT 0) 29 (0, 0)) := heap_alloc_new _ _
  have HRq11 := Lib.hid (HRq10.out.new (refT 0) (refT n2) 29)
  have HBq11 := Lib.hid (below_new HBq10.out (refT 0) (refT n2) 29)
  have HNq11 := Lib.hid HRq10.out.ne
  have HGq11 := Lib.hid HBq10.out.size
  go_upto_region 5 with (refine wpList_store_row rfl 29 (.tmp 10) (.tmp 18) rfl vq10.heap.size (refT n2) rfl rfl 29 (refT 0) h0q11 (refT_info _) (refT_size _ _) (refT_one _) ?_)
  obtain ⟨Wq11, hWq11⟩ : ∃ W, (vq10.alloc (.cells (refT 0) 29)).setRow vq10.heap.size (refT n2) = W := ⟨_, rfl⟩
  obtain ⟨gq11, hgq11⟩ : ∃ g, vq10.heap.size = g := ⟨_, rfl⟩
  rw [hWq11, hgq11] at HRq11
  rw [hWq11] at HBq11
  rw [hgq11] at HNq11 HGq11
  rw [hWq11, hgq11]
  clear hWq11 hgq11 h0q11
  have NEq11_0 : Hid (g0 ≠ gq11) := Lib.hid (HNq11.out (g0, (arrB a), 22) (by simp))
  have NEq11_1 : Hid ((g0 + 1) ≠ gq11) := Lib.hid (HNq11.out ((g0 + 1), (arrB b), 22) (by simp))
  have NEq11_2 : Hid (gq4 ≠ gq11) := Lib.hid (HNq11.out (gq4, cq3, 26) (by simp))
  have NEq11_3 : Hid (gq8 ≠ gq11) := Lib.hid (HNq11.out (gq8, cq7, 26) (by simp))
  have l12 := HRq11.out.tail.tail.tail.head
  go_wp2_with (refine wpList_load_row rfl 22 (.tmp 4) rfl (g0 + 1) rfl 22 (arrB b) (0, 0) _ l12 Try.underlying22 rfl (arr32_info Hb.out) ?_)
  have kq13 := fun W : World => (rfromN b Hb.out) W
  rw [Hn6.out] at kq13
  have Kq13 := Lib.hid kq13
  clear kq13
  with_reducible refine (Kq13.out _).mono ?_
  rintro e vq13 ⟨rfl, hbq13⟩
  have HRq13 := Lib.hid (HRq11.out.below hbq13)
  have HBq13 := Lib.hid (below_next HBq11.out hbq13)
  clear hbq13
  have h0q14 : (vq13.alloc (.cells (refT 0) 29)).heap[vq13.heap.size]? = some (.cells (refT 0) 29 (0, 0)) := heap_alloc_new _ _
  have HRq14 := Lib.hid (HRq13.out.new (refT 0) (refT n6) 29)
  have HBq14 := Lib.hid (below_new HBq13.out (refT 0) (refT n6) 29)
  have HNq14 := Lib.hid HRq13.out.ne
  have HGq14 := Lib.hid HBq13.out.size
  go_upto_region 6 with (refine wpList_store_row rfl 29 (.tmp 11) (.tmp 20) rfl vq13.heap.size (refT n6) rfl rfl 29 (refT 0) h0q14 (refT_info _) (refT_size _ _) (refT_one _) ?_)
  obtain ⟨Wq14, hWq14⟩ : ∃ W, (vq13.alloc (.cells (refT 0) 29)).setRow vq13.heap.size (refT n6) = W := ⟨_, rfl⟩
  obtain ⟨gq14, hgq14⟩ : ∃ g, vq13.heap.size = g := ⟨_, rfl⟩
  rw [hWq14, hgq14] at HRq14
  rw [hWq14] at HBq14
  rw [hgq14] at HNq14 HGq14
  rw [hWq14, hgq14]
  clear hWq14 hgq14 h0q14
  have NEq14_0 : Hid (g0 ≠ gq14) := Lib.hid (HNq14.out (g0, (arrB a), 22) (by simp))
  have NEq14_1 : Hid ((g0 + 1) ≠ gq14) := Lib.hid (HNq14.out ((g0 + 1), (arrB b), 22) (by simp))
  have NEq14_2 : Hid (gq4 ≠ gq14) := Lib.hid (HNq14.out (gq4, cq3, 26) (by simp))
  have NEq14_3 : Hid (gq8 ≠ gq14) := Lib.hid (HNq14.out (gq8, cq7, 26) (by simp))
  have NEq14_4 : Hid (gq11 ≠ gq14) := Lib.hid (HNq14.out (gq11, (refT n2), 29) (by simp))
  obtain ⟨b15, hb15⟩ : ∃ x : Bool, decide (n2 = 0) = x := ⟨_, rfl⟩
  have Hb15 := Lib.hid hb15
  clear hb15
  obtain ⟨b16, hb16⟩ : ∃ x : Bool, decide (n2 = n6) = x := ⟨_, rfl⟩
  have Hb16 := Lib.hid hb16
  clear hb16
  refine wp_region_noPanic ?_
  refine wp_region_held_drew (S := fun W => Below Wq14.heap.size Wq14 W) (by kernel_rfl) (by exact (Below.refl _ _).drew) (fun hS => ?_)
  refine' take_at 0 rfl (by kernel_rfl) (by kernel_rfl) (by kernel_rfl) (fun _ _ _ h => h) (by rfl) hS ?_ ?_ ?_
  rotate_left 2
  · intro W hSW; go_simp; try with_reducible rfl
  · simp only [List.set_cons_succ, List.set_cons_zero]; rfl
  refine' take_at 1 rfl (by kernel_rfl) (by kernel_rfl) (by kernel_rfl) (fun _ _ _ h => h) (by rfl) hS ?_ ?_ ?_
  rotate_left 2
  · intro W hSW; go_simp; try with_reducible rfl
  · simp only [List.set_cons_succ, List.set_cons_zero]; rfl
  refine' take_at 2 rfl (by kernel_rfl) (by kernel_rfl) (by kernel_rfl) (fun _ _ _ h => h) (by rfl) hS ?_ ?_ ?_
  rotate_left 2
  · intro W hSW; go_simp; try with_reducible rfl
  · simp only [List.set_cons_succ, List.set_cons_zero]; rfl
  refine' take_at 3 rfl (by kernel_rfl) (by kernel_rfl) (by kernel_rfl) (fun _ _ _ h => h) (by rfl) hS ?_ ?_ ?_
  rotate_left 2
  · intro W hSW; exact run_loadR rfl rfl (HRq14.out.below hSW).tail.tail.tail.head Try.underlying26 rfl (C.base.info Rq3.out)
  · simp only [List.set_cons_succ, List.set_cons_zero]; rfl
  refine' take_at 5 rfl (by kernel_rfl) (by kernel_rfl) (by kernel_rfl) (fun _ _ _ h => h) (by rfl) hS ?_ ?_ ?_
  rotate_left 2
  · intro W hSW; exact run_loadR rfl rfl (HRq14.out.below hSW).tail.head Try.underlying29 rfl (refT_info _)
  · simp only [List.set_cons_succ, List.set_cons_zero]; rfl
  refine call_at 4 rfl (by kernel_rfl) (by rfl) (fun K hK => ?_)
  go_simp
  with_reducible refine ((C.bytes Rq3.out) _).mono ?_
  rintro e vq17 ⟨rfl, hbq17⟩
  have kbq17 := below_next hS hbq17
  clear hS hbq17
  refine hK.out _ _ (by exact kbq17) (fun hS => ?_)
  clear hK K
  refine call_at 6 rfl (by kernel_rfl) (by rfl) (fun K hK => ?_)
  go_simp
  with_reducible refine ((rbytesN n2) _).mono ?_
  rintro e vq18 ⟨rfl, hbq18⟩
  have kbq18 := below_next kbq17 hbq18
  clear hS hbq18
  refine hK.out _ _ (by exact kbq18) (fun hS => ?_)
  clear hK K
  refine' take_at 7 rfl (by kernel_rfl) (by kernel_rfl) (by kernel_rfl) (fun _ _ _ h => h) (by rfl) hS ?_ ?_ ?_
  rotate_left 2
  · intro W hSW; exact run_eql2 rfl rfl rfl guardB (neBytT n2 W)
  · simp only [List.set_cons_succ, List.set_cons_zero]; rfl
  refine' take_at 8 rfl (by kernel_rfl) (by kernel_rfl) (by kernel_rfl) (fun _ _ _ h => h) (by rfl) hS ?_ ?_ ?_
  rotate_left 2
  · intro W hSW; go_simp; try with_reducible rfl
  · simp only [List.set_cons_succ, List.set_cons_zero]; rfl
  refine' take_at 9 rfl (by kernel_rfl) (by kernel_rfl) (by kernel_rfl) (fun _ _ _ h => h) (by rfl) hS ?_ ?_ ?_
  rotate_left 2
  · intro W hSW; go_simp; try with_reducible rfl
  · simp only [List.set_cons_succ, List.set_cons_zero]; rfl
  refine' take_at 10 rfl (by kernel_rfl) (by kernel_rfl) (by kernel_rfl) (fun _ _ _ h => h) (by rfl) hS ?_ ?_ ?_
  rotate_left 2
  · intro W hSW; go_simp; try with_reducible rfl
  · simp only [List.set_cons_succ, List.set_cons_zero]; rfl
  refine' take_at 13 rfl (by kernel_rfl) (by kernel_rfl) (by kernel_rfl) (fun _ _ _ h => h) (by rfl) hS ?_ ?_ ?_
  rotate_left 2
  · intro W hSW; go_simp; try with_reducible rfl
  · simp only [List.set_cons_succ, List.set_cons_zero]; rfl
  refine call_at 11 rfl (by kernel_rfl) (by rfl) (fun K hK => ?_)
  go_simp
  with_reducible refine ((C.small n Hn.out) _).mono ?_
  rintro e vq19 ⟨cq19, rfl, rq19, hbq19⟩
  have Rq19 := Lib.hid rq19
  clear rq19
  have kbq19 := below_next kbq18 hbq19
  clear hS hbq19
  refine hK.out _ _ (by exact kbq19) (fun hS => ?_)
  clear hK K
  refine call_at 12 rfl (by kernel_rfl) (by rfl) (fun K hK => ?_)
  go_simp
  with_reducible refine ((C.bytes Rq19.out) _).mono ?_
  rintro e vq20 ⟨rfl, hbq20⟩
  have kbq20 := below_next kbq19 hbq20
  clear hS hbq20
  refine hK.out _ _ (by exact kbq20) (fun hS => ?_)
  clear hK K
  refine call_at 14 rfl (by kernel_rfl) (by rfl) (fun K hK => ?_)
  go_simp
  with_reducible refine ((rsmallN n Hn.out) _).mono ?_
  rintro e vq21 ⟨rfl, hbq21⟩
  have kbq21 := below_next kbq20 hbq21
  clear hS hbq21
  refine hK.out _ _ (by exact kbq21) (fun hS => ?_)
  clear hK K
  refine call_at 15 rfl (by kernel_rfl) (by rfl) (fun K hK => ?_)
  go_simp
  with_reducible refine ((rbytesN n) _).mono ?_
  rintro e vq22 ⟨rfl, hbq22⟩
  have kbq22 := below_next kbq21 hbq22
  clear hS hbq22
  refine hK.out _ _ (by exact kbq22) (fun hS => ?_)
  clear hK K
  refine' take_at 16 rfl (by kernel_rfl) (by kernel_rfl) (by kernel_rfl) (fun _ _ _ h => h) (by rfl) hS ?_ ?_ ?_
  rotate_left 2
  · intro W hSW; exact run_eql2 rfl rfl rfl guardB (neBytT n W)
  · simp only [List.set_cons_succ, List.set_cons_zero]; rfl
  refine' take_at 17 rfl (by kernel_rfl) (by kernel_rfl) (by kernel_rfl) (fun _ _ _ h => h) (by rfl) hS ?_ ?_ ?_
  rotate_left 2
  · intro W hSW; go_simp; try with_reducible rfl
  · simp only [List.set_cons_succ, List.set_cons_zero]; rfl
  refine' take_at 18 rfl (by kernel_rfl) (by kernel_rfl) (by kernel_rfl) (fun _ _ _ h => h) (by rfl) hS ?_ ?_ ?_
  rotate_left 2
  · intro W hSW; go_simp; try with_reducible rfl
  · simp only [List.set_cons_succ, List.set_cons_zero]; rfl
  refine' take_at 19 rfl (by kernel_rfl) (by kernel_rfl) (by kernel_rfl) (fun _ _ _ h => h) (by rfl) hS ?_ ?_ ?_
  rotate_left 2
  · intro W hSW; exact run_loadR rfl rfl (HRq14.out.below hSW).tail.tail.tail.tail.tail.head Try.underlying22 rfl (arr32_info Ha.out)
  · simp only [List.set_cons_succ, List.set_cons_zero]; rfl
  refine' take_at 21 rfl (by kernel_rfl) (by kernel_rfl) (by kernel_rfl) (fun _ _ _ h => h) (by rfl) hS ?_ ?_ ?_
  rotate_left 2
  · intro W hSW; exact run_loadR rfl rfl (HRq14.out.below hSW).tail.tail.tail.tail.tail.head Try.underlying22 rfl (arr32_info Ha.out)
  · simp only [List.set_cons_succ, List.set_cons_zero]; rfl
  refine call_at 20 rfl (by kernel_rfl) (by rfl) (fun K hK => ?_)
  go_simp
  obtain ⟨b23, hb23⟩ : ∃ x : Bool, canN a = x := ⟨_, rfl⟩
  have Hb23 := Lib.hid hb23
  clear hb23
  have kq24 := fun W : World => (C.can a Ha.out) W
  rw [Hb23.out] at kq24
  have Kq24 := Lib.hid kq24
  clear kq24
  with_reducible refine (Kq24.out _).mono ?_
  rintro e vq24 ⟨rfl, hbq24⟩
  have kbq24 := below_next kbq22 hbq24
  clear hS hbq24
  refine hK.out _ _ (by exact kbq24) (fun hS => ?_)
  clear hK K
  refine call_at 22 rfl (by kernel_rfl) (by rfl) (fun K hK => ?_)
  go_simp
  have kq25 := fun W : World => (rcanN a Ha.out) W
  rw [Hb23.out] at kq25
  have Kq25 := Lib.hid kq25
  clear kq25
  with_reducible refine (Kq25.out _).mono ?_
  rintro e vq25 ⟨rfl, hbq25⟩
  have kbq25 := below_next kbq24 hbq25
  clear hS hbq25
  refine hK.out _ _ (by exact kbq25) (fun hS => ?_)
  clear hK K
  refine' take_at 23 rfl (by kernel_rfl) (by kernel_rfl) (by kernel_rfl) (fun _ _ _ h => h) (by rfl) hS ?_ ?_ ?_
  rotate_left 2
  · intro W hSW; go_simp; try with_reducible rfl
  · simp only [List.set_cons_succ, List.set_cons_zero]; rfl
  refine' take_at 24 rfl (by kernel_rfl) (by kernel_rfl) (by kernel_rfl) (fun _ _ _ h => h) (by rfl) hS ?_ ?_ ?_
  rotate_left 2
  · intro W hSW; go_simp; try with_reducible rfl
  · simp only [List.set_cons_succ, List.set_cons_zero]; rfl
  refine' take_at 25 rfl (by kernel_rfl) (by kernel_rfl) (by kernel_rfl) (fun _ _ _ h => h) (by rfl) hS ?_ ?_ ?_
  rotate_left 2
  · intro W hSW; go_simp; try with_reducible rfl
  · simp only [List.set_cons_succ, List.set_cons_zero]; rfl
  refine' take_at 26 rfl (by kernel_rfl) (by kernel_rfl) (by kernel_rfl) (fun _ _ _ h => h) (by rfl) hS ?_ ?_ ?_
  rotate_left 2
  · intro W hSW; exact run_loadR rfl rfl (HRq14.out.below hSW).tail.tail.tail.head Try.underlying26 rfl (C.base.info Rq3.out)
  · simp only [List.set_cons_succ, List.set_cons_zero]; rfl
  refine' take_at 28 rfl (by kernel_rfl) (by kernel_rfl) (by kernel_rfl) (fun _ _ _ h => h) (by rfl) hS ?_ ?_ ?_
  rotate_left 2
  · intro W hSW; exact run_loadR rfl rfl (HRq14.out.below hSW).tail.head Try.underlying29 rfl (refT_info _)
  · simp only [List.set_cons_succ, List.set_cons_zero]; rfl
  refine call_at 27 rfl (by kernel_rfl) (by rfl) (fun K hK => ?_)
  go_simp
  obtain ⟨b26, hb26⟩ : ∃ x : Bool, decide (n2 % 2 = 1) = x := ⟨_, rfl⟩
  have Hb26 := Lib.hid hb26
  clear hb26
  have kq27 := fun W : World => (C.odd Rq3.out) W
  rw [Hb26.out] at kq27
  have Kq27 := Lib.hid kq27
  clear kq27
  with_reducible refine (Kq27.out _).mono ?_
  rintro e vq27 ⟨rfl, hbq27⟩
  have kbq27 := below_next kbq25 hbq27
  clear hS hbq27
  refine hK.out _ _ (by exact kbq27) (fun hS => ?_)
  clear hK K
  refine call_at 29 rfl (by kernel_rfl) (by rfl) (fun K hK => ?_)
  go_simp
  have kq28 := fun W : World => (roddN n2) W
  rw [Hb26.out] at kq28
  have Kq28 := Lib.hid kq28
  clear kq28
  with_reducible refine (Kq28.out _).mono ?_
  rintro e vq28 ⟨rfl, hbq28⟩
  have kbq28 := below_next kbq27 hbq28
  clear hS hbq28
  refine hK.out _ _ (by exact kbq28) (fun hS => ?_)
  clear hK K
  refine' take_at 30 rfl (by kernel_rfl) (by kernel_rfl) (by kernel_rfl) (fun _ _ _ h => h) (by rfl) hS ?_ ?_ ?_
  rotate_left 2
  · intro W hSW; go_simp; try with_reducible rfl
  · simp only [List.set_cons_succ, List.set_cons_zero]; rfl
  refine' take_at 31 rfl (by kernel_rfl) (by kernel_rfl) (by kernel_rfl) (fun _ _ _ h => h) (by rfl) hS ?_ ?_ ?_
  rotate_left 2
  · intro W hSW; go_simp; try with_reducible rfl
  · simp only [List.set_cons_succ, List.set_cons_zero]; rfl
  refine' take_at 32 rfl (by kernel_rfl) (by kernel_rfl) (by kernel_rfl) (fun _ _ _ h => h) (by rfl) hS ?_ ?_ ?_
  rotate_left 2
  · intro W hSW; go_simp; try with_reducible rfl
  · simp only [List.set_cons_succ, List.set_cons_zero]; rfl
  refine' take_at 33 rfl (by kernel_rfl) (by kernel_rfl) (by kernel_rfl) (fun _ _ _ h => h) (by rfl) hS ?_ ?_ ?_
  rotate_left 2
  · intro W hSW; exact run_loadR rfl rfl (HRq14.out.below hSW).tail.tail.tail.head Try.underlying26 rfl (C.base.info Rq3.out)
  · simp only [List.set_cons_succ, List.set_cons_zero]; rfl
  refine' take_at 35 rfl (by kernel_rfl) (by kernel_rfl) (by kernel_rfl) (fun _ _ _ h => h) (by rfl) hS ?_ ?_ ?_
  rotate_left 2
  · intro W hSW; exact run_loadR rfl rfl (HRq14.out.below hSW).tail.head Try.underlying29 rfl (refT_info _)
  · simp only [List.set_cons_succ, List.set_cons_zero]; rfl
  refine' take_at 36 rfl (by kernel_rfl) (by kernel_rfl) (by kernel_rfl) (fun _ _ _ h => h) (by rfl) hS ?_ ?_ ?_
  rotate_left 2
  · intro W hSW; go_simp; try with_reducible rfl
  · simp only [List.set_cons_succ, List.set_cons_zero]; rfl
  refine' take_at 37 rfl (by kernel_rfl) (by kernel_rfl) (by kernel_rfl) (fun _ _ _ h => h) (by rfl) hS ?_ ?_ ?_
  rotate_left 2
  · intro W hSW; exact run_eql2 rfl rfl rfl guardR (by have h := eqRef HLn2.out (show 0 < PP by decide) W; rw [Hb15.out] at h; exact h)
  · simp only [List.set_cons_succ, List.set_cons_zero]; rfl
  refine call_at 34 rfl (by kernel_rfl) (by rfl) (fun K hK => ?_)
  go_simp
  have kq29 := fun W : World => (C.isZero Rq3.out) W
  rw [Hb15.out] at kq29
  have Kq29 := Lib.hid kq29
  clear kq29
  with_reducible refine (Kq29.out _).mono ?_
  rintro e vq29 ⟨rfl, hbq29⟩
  have kbq29 := below_next kbq28 hbq29
  clear hS hbq29
  refine hK.out _ _ (by exact kbq29) (fun hS => ?_)
  clear hK K
  refine' take_at 38 rfl (by kernel_rfl) (by kernel_rfl) (by kernel_rfl) (fun _ _ _ h => h) (by rfl) hS ?_ ?_ ?_
  rotate_left 2
  · intro W hSW; go_simp; try with_reducible rfl
  · simp only [List.set_cons_succ, List.set_cons_zero]; rfl
  refine' take_at 39 rfl (by kernel_rfl) (by kernel_rfl) (by kernel_rfl) (fun _ _ _ h => h) (by rfl) hS ?_ ?_ ?_
  rotate_left 2
  · intro W hSW; go_simp; try with_reducible rfl
  · simp only [List.set_cons_succ, List.set_cons_zero]; rfl
  refine wpAnyH_done (by kernel_rfl) ?_ _
  refine NoPanic.normal ?_
  clear hS
  (try simp only [Act.put])
  have HRq30 := Lib.hid (HRq14.out.below kbq29)
  have HBq30 := Lib.hid (below_next HBq14.out kbq29)
  go_upto_region 8 with fail
  refine wp_region_noPanic ?_
  refine wp_region_held_drew (S := fun W => Below vq29.heap.size vq29 W) (by kernel_rfl) (by exact (Below.refl _ _).drew) (fun hS => ?_)
  refine' take_at 0 rfl (by kernel_rfl) (by kernel_rfl) (by kernel_rfl) (fun _ _ _ h => h) (by rfl) hS ?_ ?_ ?_
  rotate_left 2
  · intro W hSW; exact run_loadR rfl rfl (HRq30.out.below hSW).tail.tail.tail.head Try.underlying26 rfl (C.base.info Rq3.out)
  · simp only [List.set_cons_succ, List.set_cons_zero]; rfl
  refine' take_at 1 rfl (by kernel_rfl) (by kernel_rfl) (by kernel_rfl) (fun _ _ _ h => h) (by rfl) hS ?_ ?_ ?_
  rotate_left 2
  · intro W hSW; exact run_loadR rfl rfl (HRq30.out.below hSW).tail.tail.head Try.underlying26 rfl (C.base.info Rq7.out)
  · simp only [List.set_cons_succ, List.set_cons_zero]; rfl
  refine' take_at 4 rfl (by kernel_rfl) (by kernel_rfl) (by kernel_rfl) (fun _ _ _ h => h) (by rfl) hS ?_ ?_ ?_
  rotate_left 2
  · intro W hSW; exact run_loadR rfl rfl (HRq30.out.below hSW).tail.head Try.underlying29 rfl (refT_info _)
  · simp only [List.set_cons_succ, List.set_cons_zero]; rfl
  refine' take_at 5 rfl (by kernel_rfl) (by kernel_rfl) (by kernel_rfl) (fun _ _ _ h => h) (by rfl) hS ?_ ?_ ?_
  rotate_left 2
  · intro W hSW; exact run_loadR rfl rfl (HRq30.out.below hSW).head Try.underlying29 rfl (refT_info _)
  · simp only [List.set_cons_succ, List.set_cons_zero]; rfl
  refine call_at 2 rfl (by kernel_rfl) (by rfl) (fun K hK => ?_)
  go_simp
  obtain ⟨n31, hn31⟩ : ∃ x : Nat, (n2 + n6) % PP = x := ⟨_, rfl⟩
  have Hn31 := Lib.hid hn31
  have HLn31 : Hid (n31 < PP) := Lib.hid (by rw [← hn31]; exact Nat.mod_lt _ (by decide))
  clear hn31
  with_reducible refine ((C.add Rq3.out Rq7.out) _).mono ?_
  rintro e vq32 ⟨cq32, rfl, rq32, hbq32⟩
  rw [Hn31.out] at rq32
  have Rq32 := Lib.hid rq32
  clear rq32
  have kbq32 := below_next hS hbq32
  clear hS hbq32
  refine hK.out _ _ (by exact kbq32) (fun hS => ?_)
  clear hK K
  refine call_at 3 rfl (by kernel_rfl) (by rfl) (fun K hK => ?_)
  go_simp
  with_reducible refine ((C.bytes Rq32.out) _).mono ?_
  rintro e vq33 ⟨rfl, hbq33⟩
  have kbq33 := below_next kbq32 hbq33
  clear hS hbq33
  refine hK.out _ _ (by exact kbq33) (fun hS => ?_)
  clear hK K
  refine call_at 6 rfl (by kernel_rfl) (by rfl) (fun K hK => ?_)
  go_simp
  have kq34 := fun W : World => (raddN HLn2.out HLn6.out) W
  rw [Hn31.out] at kq34
  have Kq34 := Lib.hid kq34
  clear kq34
  with_reducible refine (Kq34.out _).mono ?_
  rintro e vq34 ⟨rfl, hbq34⟩
  have kbq34 := below_next kbq33 hbq34
  clear hS hbq34
  refine hK.out _ _ (by exact kbq34) (fun hS => ?_)
  clear hK K
  refine call_at 7 rfl (by kernel_rfl) (by rfl) (fun K hK => ?_)
  go_simp
  with_reducible refine ((rbytesN n31) _).mono ?_
  rintro e vq35 ⟨rfl, hbq35⟩
  have kbq35 := below_next kbq34 hbq35
  clear hS hbq35
  refine hK.out _ _ (by exact kbq35) (fun hS => ?_)
  clear hK K
  refine' take_at 8 rfl (by kernel_rfl) (by kernel_rfl) (by kernel_rfl) (fun _ _ _ h => h) (by rfl) hS ?_ ?_ ?_
  rotate_left 2
  · intro W hSW; exact run_eql2 rfl rfl rfl guardB (eqBytT n31 W)
  · simp only [List.set_cons_succ, List.set_cons_zero]; rfl
  refine' take_at 9 rfl (by kernel_rfl) (by kernel_rfl) (by kernel_rfl) (fun _ _ _ h => h) (by rfl) hS ?_ ?_ ?_
  rotate_left 2
  · intro W hSW; go_simp; try with_reducible rfl
  · simp only [List.set_cons_succ, List.set_cons_zero]; rfl
  refine' take_at 10 rfl (by kernel_rfl) (by kernel_rfl) (by kernel_rfl) (fun _ _ _ h => h) (by rfl) hS ?_ ?_ ?_
  rotate_left 2
  · intro W hSW; exact run_loadR rfl rfl (HRq30.out.below hSW).tail.tail.tail.head Try.underlying26 rfl (C.base.info Rq3.out)
  · simp only [List.set_cons_succ, List.set_cons_zero]; rfl
  refine' take_at 11 rfl (by kernel_rfl) (by kernel_rfl) (by kernel_rfl) (fun _ _ _ h => h) (by rfl) hS ?_ ?_ ?_
  rotate_left 2
  · intro W hSW; exact run_loadR rfl rfl (HRq30.out.below hSW).tail.tail.head Try.underlying26 rfl (C.base.info Rq7.out)
  · simp only [List.set_cons_succ, List.set_cons_zero]; rfl
  refine' take_at 14 rfl (by kernel_rfl) (by kernel_rfl) (by kernel_rfl) (fun _ _ _ h => h) (by rfl) hS ?_ ?_ ?_
  rotate_left 2
  · intro W hSW; exact run_loadR rfl rfl (HRq30.out.below hSW).tail.head Try.underlying29 rfl (refT_info _)
  · simp only [List.set_cons_succ, List.set_cons_zero]; rfl
  refine' take_at 15 rfl (by kernel_rfl) (by kernel_rfl) (by kernel_rfl) (fun _ _ _ h => h) (by rfl) hS ?_ ?_ ?_
  rotate_left 2
  · intro W hSW; exact run_loadR rfl rfl (HRq30.out.below hSW).head Try.underlying29 rfl (refT_info _)
  · simp only [List.set_cons_succ, List.set_cons_zero]; rfl
  refine call_at 12 rfl (by kernel_rfl) (by rfl) (fun K hK => ?_)
  go_simp
  obtain ⟨n36, hn36⟩ : ∃ x : Nat, (n2 + (PP - n6)) % PP = x := ⟨_, rfl⟩
  have Hn36 := Lib.hid hn36
  have HLn36 : Hid (n36 < PP) := Lib.hid (by rw [← hn36]; exact Nat.mod_lt _ (by decide))
  clear hn36
  with_reducible refine ((C.sub Rq3.out Rq7.out) _).mono ?_
  rintro e vq37 ⟨cq37, rfl, rq37, hbq37⟩
  rw [Hn36.out] at rq37
  have Rq37 := Lib.hid rq37
  clear rq37
  have kbq37 := below_next kbq35 hbq37
  clear hS hbq37
  refine hK.out _ _ (by exact kbq37) (fun hS => ?_)
  clear hK K
  refine call_at 13 rfl (by kernel_rfl) (by rfl) (fun K hK => ?_)
  go_simp
  with_reducible refine ((C.bytes Rq37.out) _).mono ?_
  rintro e vq38 ⟨rfl, hbq38⟩
  have kbq38 := below_next kbq37 hbq38
  clear hS hbq38
  refine hK.out _ _ (by exact kbq38) (fun hS => ?_)
  clear hK K
  refine call_at 16 rfl (by kernel_rfl) (by rfl) (fun K hK => ?_)
  go_simp
  have kq39 := fun W : World => (rsubN HLn2.out HLn6.out) W
  rw [Hn36.out] at kq39
  have Kq39 := Lib.hid kq39
  clear kq39
  with_reducible refine (Kq39.out _).mono ?_
  rintro e vq39 ⟨rfl, hbq39⟩
  have kbq39 := below_next kbq38 hbq39
  clear hS hbq39
  refine hK.out _ _ (by exact kbq39) (fun hS => ?_)
  clear hK K
  refine call_at 17 rfl (by kernel_rfl) (by rfl) (fun K hK => ?_)
  go_simp
  with_reducible refine ((rbytesN n36) _).mono ?_
  rintro e vq40 ⟨rfl, hbq40⟩
  have kbq40 := below_next kbq39 hbq40
  clear hS hbq40
  refine hK.out _ _ (by exact kbq40) (fun hS => ?_)
  clear hK K
  refine' take_at 18 rfl (by kernel_rfl) (by kernel_rfl) (by kernel_rfl) (fun _ _ _ h => h) (by rfl) hS ?_ ?_ ?_
  rotate_left 2
  · intro W hSW; exact run_eql2 rfl rfl rfl guardB (eqBytT n36 W)
  · simp only [List.set_cons_succ, List.set_cons_zero]; rfl
  refine' take_at 19 rfl (by kernel_rfl) (by kernel_rfl) (by kernel_rfl) (fun _ _ _ h => h) (by rfl) hS ?_ ?_ ?_
  rotate_left 2
  · intro W hSW; go_simp; try with_reducible rfl
  · simp only [List.set_cons_succ, List.set_cons_zero]; rfl
  refine' take_at 20 rfl (by kernel_rfl) (by kernel_rfl) (by kernel_rfl) (fun _ _ _ h => h) (by rfl) hS ?_ ?_ ?_
  rotate_left 2
  · intro W hSW; go_simp; try with_reducible rfl
  · simp only [List.set_cons_succ, List.set_cons_zero]; rfl
  refine' take_at 21 rfl (by kernel_rfl) (by kernel_rfl) (by kernel_rfl) (fun _ _ _ h => h) (by rfl) hS ?_ ?_ ?_
  rotate_left 2
  · intro W hSW; exact run_loadR rfl rfl (HRq30.out.below hSW).tail.tail.tail.head Try.underlying26 rfl (C.base.info Rq3.out)
  · simp only [List.set_cons_succ, List.set_cons_zero]; rfl
  refine' take_at 22 rfl (by kernel_rfl) (by kernel_rfl) (by kernel_rfl) (fun _ _ _ h => h) (by rfl) hS ?_ ?_ ?_
  rotate_left 2
  · intro W hSW; exact run_loadR rfl rfl (HRq30.out.below hSW).tail.tail.head Try.underlying26 rfl (C.base.info Rq7.out)
  · simp only [List.set_cons_succ, List.set_cons_zero]; rfl
  refine' take_at 25 rfl (by kernel_rfl) (by kernel_rfl) (by kernel_rfl) (fun _ _ _ h => h) (by rfl) hS ?_ ?_ ?_
  rotate_left 2
  · intro W hSW; exact run_loadR rfl rfl (HRq30.out.below hSW).tail.head Try.underlying29 rfl (refT_info _)
  · simp only [List.set_cons_succ, List.set_cons_zero]; rfl
  refine' take_at 26 rfl (by kernel_rfl) (by kernel_rfl) (by kernel_rfl) (fun _ _ _ h => h) (by rfl) hS ?_ ?_ ?_
  rotate_left 2
  · intro W hSW; exact run_loadR rfl rfl (HRq30.out.below hSW).head Try.underlying29 rfl (refT_info _)
  · simp only [List.set_cons_succ, List.set_cons_zero]; rfl
  refine call_at 23 rfl (by kernel_rfl) (by rfl) (fun K hK => ?_)
  go_simp
  obtain ⟨n41, hn41⟩ : ∃ x : Nat, (n2 * n6) % PP = x := ⟨_, rfl⟩
  have Hn41 := Lib.hid hn41
  have HLn41 : Hid (n41 < PP) := Lib.hid (by rw [← hn41]; exact Nat.mod_lt _ (by decide))
  clear hn41
  with_reducible refine ((C.mul Rq3.out Rq7.out) _).mono ?_
  rintro e vq42 ⟨cq42, rfl, rq42, hbq42⟩
  rw [Hn41.out] at rq42
  have Rq42 := Lib.hid rq42
  clear rq42
  have kbq42 := below_next kbq40 hbq42
  clear hS hbq42
  refine hK.out _ _ (by exact kbq42) (fun hS => ?_)
  clear hK K
  refine call_at 24 rfl (by kernel_rfl) (by rfl) (fun K hK => ?_)
  go_simp
  with_reducible refine ((C.bytes Rq42.out) _).mono ?_
  rintro e vq43 ⟨rfl, hbq43⟩
  have kbq43 := below_next kbq42 hbq43
  clear hS hbq43
  refine hK.out _ _ (by exact kbq43) (fun hS => ?_)
  clear hK K
  refine call_at 27 rfl (by kernel_rfl) (by rfl) (fun K hK => ?_)
  go_simp
  have kq44 := fun W : World => (rmulN HLn2.out HLn6.out) W
  rw [Hn41.out] at kq44
  have Kq44 := Lib.hid kq44
  clear kq44
  with_reducible refine (Kq44.out _).mono ?_
  rintro e vq44 ⟨rfl, hbq44⟩
  have kbq44 := below_next kbq43 hbq44
  clear hS hbq44
  refine hK.out _ _ (by exact kbq44) (fun hS => ?_)
  clear hK K
  refine call_at 28 rfl (by kernel_rfl) (by rfl) (fun K hK => ?_)
  go_simp
  with_reducible refine ((rbytesN n41) _).mono ?_
  rintro e vq45 ⟨rfl, hbq45⟩
  have kbq45 := below_next kbq44 hbq45
  clear hS hbq45
  refine hK.out _ _ (by exact kbq45) (fun hS => ?_)
  clear hK K
  refine' take_at 29 rfl (by kernel_rfl) (by kernel_rfl) (by kernel_rfl) (fun _ _ _ h => h) (by rfl) hS ?_ ?_ ?_
  rotate_left 2
  · intro W hSW; exact run_eql2 rfl rfl rfl guardB (eqBytT n41 W)
  · simp only [List.set_cons_succ, List.set_cons_zero]; rfl
  refine' take_at 30 rfl (by kernel_rfl) (by kernel_rfl) (by kernel_rfl) (fun _ _ _ h => h) (by rfl) hS ?_ ?_ ?_
  rotate_left 2
  · intro W hSW; go_simp; try with_reducible rfl
  · simp only [List.set_cons_succ, List.set_cons_zero]; rfl
  refine' take_at 31 rfl (by kernel_rfl) (by kernel_rfl) (by kernel_rfl) (fun _ _ _ h => h) (by rfl) hS ?_ ?_ ?_
  rotate_left 2
  · intro W hSW; go_simp; try with_reducible rfl
  · simp only [List.set_cons_succ, List.set_cons_zero]; rfl
  refine' take_at 32 rfl (by kernel_rfl) (by kernel_rfl) (by kernel_rfl) (fun _ _ _ h => h) (by rfl) hS ?_ ?_ ?_
  rotate_left 2
  · intro W hSW; exact run_loadR rfl rfl (HRq30.out.below hSW).tail.tail.tail.head Try.underlying26 rfl (C.base.info Rq3.out)
  · simp only [List.set_cons_succ, List.set_cons_zero]; rfl
  refine' take_at 35 rfl (by kernel_rfl) (by kernel_rfl) (by kernel_rfl) (fun _ _ _ h => h) (by rfl) hS ?_ ?_ ?_
  rotate_left 2
  · intro W hSW; exact run_loadR rfl rfl (HRq30.out.below hSW).tail.head Try.underlying29 rfl (refT_info _)
  · simp only [List.set_cons_succ, List.set_cons_zero]; rfl
  refine' take_at 36 rfl (by kernel_rfl) (by kernel_rfl) (by kernel_rfl) (fun _ _ _ h => h) (by rfl) hS ?_ ?_ ?_
  rotate_left 2
  · intro W hSW; exact run_loadR rfl rfl (HRq30.out.below hSW).tail.head Try.underlying29 rfl (refT_info _)
  · simp only [List.set_cons_succ, List.set_cons_zero]; rfl
  refine call_at 33 rfl (by kernel_rfl) (by rfl) (fun K hK => ?_)
  go_simp
  obtain ⟨n46, hn46⟩ : ∃ x : Nat, (n2 * n2) % PP = x := ⟨_, rfl⟩
  have Hn46 := Lib.hid hn46
  have HLn46 : Hid (n46 < PP) := Lib.hid (by rw [← hn46]; exact Nat.mod_lt _ (by decide))
  clear hn46
  with_reducible refine ((C.square Rq3.out) _).mono ?_
  rintro e vq47 ⟨cq47, rfl, rq47, hbq47⟩
  rw [Hn46.out] at rq47
  have Rq47 := Lib.hid rq47
  clear rq47
  have kbq47 := below_next kbq45 hbq47
  clear hS hbq47
  refine hK.out _ _ (by exact kbq47) (fun hS => ?_)
  clear hK K
  refine call_at 34 rfl (by kernel_rfl) (by rfl) (fun K hK => ?_)
  go_simp
  with_reducible refine ((C.bytes Rq47.out) _).mono ?_
  rintro e vq48 ⟨rfl, hbq48⟩
  have kbq48 := below_next kbq47 hbq48
  clear hS hbq48
  refine hK.out _ _ (by exact kbq48) (fun hS => ?_)
  clear hK K
  refine call_at 37 rfl (by kernel_rfl) (by rfl) (fun K hK => ?_)
  go_simp
  have kq49 := fun W : World => (rmulN HLn2.out HLn2.out) W
  rw [Hn46.out] at kq49
  have Kq49 := Lib.hid kq49
  clear kq49
  with_reducible refine (Kq49.out _).mono ?_
  rintro e vq49 ⟨rfl, hbq49⟩
  have kbq49 := below_next kbq48 hbq49
  clear hS hbq49
  refine hK.out _ _ (by exact kbq49) (fun hS => ?_)
  clear hK K
  refine call_at 38 rfl (by kernel_rfl) (by rfl) (fun K hK => ?_)
  go_simp
  with_reducible refine ((rbytesN n46) _).mono ?_
  rintro e vq50 ⟨rfl, hbq50⟩
  have kbq50 := below_next kbq49 hbq50
  clear hS hbq50
  refine hK.out _ _ (by exact kbq50) (fun hS => ?_)
  clear hK K
  refine' take_at 39 rfl (by kernel_rfl) (by kernel_rfl) (by kernel_rfl) (fun _ _ _ h => h) (by rfl) hS ?_ ?_ ?_
  rotate_left 2
  · intro W hSW; exact run_eql2 rfl rfl rfl guardB (eqBytT n46 W)
  · simp only [List.set_cons_succ, List.set_cons_zero]; rfl
  refine' take_at 40 rfl (by kernel_rfl) (by kernel_rfl) (by kernel_rfl) (fun _ _ _ h => h) (by rfl) hS ?_ ?_ ?_
  rotate_left 2
  · intro W hSW; go_simp; try with_reducible rfl
  · simp only [List.set_cons_succ, List.set_cons_zero]; rfl
  refine' take_at 41 rfl (by kernel_rfl) (by kernel_rfl) (by kernel_rfl) (fun _ _ _ h => h) (by rfl) hS ?_ ?_ ?_
  rotate_left 2
  · intro W hSW; go_simp; try with_reducible rfl
  · simp only [List.set_cons_succ, List.set_cons_zero]; rfl
  refine' take_at 42 rfl (by kernel_rfl) (by kernel_rfl) (by kernel_rfl) (fun _ _ _ h => h) (by rfl) hS ?_ ?_ ?_
  rotate_left 2
  · intro W hSW; exact run_loadR rfl rfl (HRq30.out.below hSW).tail.tail.tail.head Try.underlying26 rfl (C.base.info Rq3.out)
  · simp only [List.set_cons_succ, List.set_cons_zero]; rfl
  refine' take_at 45 rfl (by kernel_rfl) (by kernel_rfl) (by kernel_rfl) (fun _ _ _ h => h) (by rfl) hS ?_ ?_ ?_
  rotate_left 2
  · intro W hSW; exact run_loadR rfl rfl (HRq30.out.below hSW).tail.head Try.underlying29 rfl (refT_info _)
  · simp only [List.set_cons_succ, List.set_cons_zero]; rfl
  refine call_at 43 rfl (by kernel_rfl) (by rfl) (fun K hK => ?_)
  go_simp
  obtain ⟨n51, hn51⟩ : ∃ x : Nat, (PP - n2) % PP = x := ⟨_, rfl⟩
  have Hn51 := Lib.hid hn51
  have HLn51 : Hid (n51 < PP) := Lib.hid (by rw [← hn51]; exact Nat.mod_lt _ (by decide))
  clear hn51
  with_reducible refine ((C.neg Rq3.out) _).mono ?_
  rintro e vq52 ⟨cq52, rfl, rq52, hbq52⟩
  rw [Hn51.out] at rq52
  have Rq52 := Lib.hid rq52
  clear rq52
  have kbq52 := below_next kbq50 hbq52
  clear hS hbq52
  refine hK.out _ _ (by exact kbq52) (fun hS => ?_)
  clear hK K
  refine call_at 44 rfl (by kernel_rfl) (by rfl) (fun K hK => ?_)
  go_simp
  with_reducible refine ((C.bytes Rq52.out) _).mono ?_
  rintro e vq53 ⟨rfl, hbq53⟩
  have kbq53 := below_next kbq52 hbq53
  clear hS hbq53
  refine hK.out _ _ (by exact kbq53) (fun hS => ?_)
  clear hK K
  refine call_at 46 rfl (by kernel_rfl) (by rfl) (fun K hK => ?_)
  go_simp
  have kq54 := fun W : World => (rnegN HLn2.out) W
  rw [Hn51.out] at kq54
  have Kq54 := Lib.hid kq54
  clear kq54
  with_reducible refine (Kq54.out _).mono ?_
  rintro e vq54 ⟨rfl, hbq54⟩
  have kbq54 := below_next kbq53 hbq54
  clear hS hbq54
  refine hK.out _ _ (by exact kbq54) (fun hS => ?_)
  clear hK K
  refine call_at 47 rfl (by kernel_rfl) (by rfl) (fun K hK => ?_)
  go_simp
  with_reducible refine ((rbytesN n51) _).mono ?_
  rintro e vq55 ⟨rfl, hbq55⟩
  have kbq55 := below_next kbq54 hbq55
  clear hS hbq55
  refine hK.out _ _ (by exact kbq55) (fun hS => ?_)
  clear hK K
  refine' take_at 48 rfl (by kernel_rfl) (by kernel_rfl) (by kernel_rfl) (fun _ _ _ h => h) (by rfl) hS ?_ ?_ ?_
  rotate_left 2
  · intro W hSW; exact run_eql2 rfl rfl rfl guardB (eqBytT n51 W)
  · simp only [List.set_cons_succ, List.set_cons_zero]; rfl
  refine' take_at 49 rfl (by kernel_rfl) (by kernel_rfl) (by kernel_rfl) (fun _ _ _ h => h) (by rfl) hS ?_ ?_ ?_
  rotate_left 2
  · intro W hSW; go_simp; try with_reducible rfl
  · simp only [List.set_cons_succ, List.set_cons_zero]; rfl
  refine' take_at 50 rfl (by kernel_rfl) (by kernel_rfl) (by kernel_rfl) (fun _ _ _ h => h) (by rfl) hS ?_ ?_ ?_
  rotate_left 2
  · intro W hSW; go_simp; try with_reducible rfl
  · simp only [List.set_cons_succ, List.set_cons_zero]; rfl
  refine' take_at 51 rfl (by kernel_rfl) (by kernel_rfl) (by kernel_rfl) (fun _ _ _ h => h) (by rfl) hS ?_ ?_ ?_
  rotate_left 2
  · intro W hSW; exact run_loadR rfl rfl (HRq30.out.below hSW).tail.tail.tail.head Try.underlying26 rfl (C.base.info Rq3.out)
  · simp only [List.set_cons_succ, List.set_cons_zero]; rfl
  refine' take_at 52 rfl (by kernel_rfl) (by kernel_rfl) (by kernel_rfl) (fun _ _ _ h => h) (by rfl) hS ?_ ?_ ?_
  rotate_left 2
  · intro W hSW; exact run_loadR rfl rfl (HRq30.out.below hSW).tail.tail.head Try.underlying26 rfl (C.base.info Rq7.out)
  · simp only [List.set_cons_succ, List.set_cons_zero]; rfl
  refine' take_at 54 rfl (by kernel_rfl) (by kernel_rfl) (by kernel_rfl) (fun _ _ _ h => h) (by rfl) hS ?_ ?_ ?_
  rotate_left 2
  · intro W hSW; exact run_loadR rfl rfl (HRq30.out.below hSW).tail.head Try.underlying29 rfl (refT_info _)
  · simp only [List.set_cons_succ, List.set_cons_zero]; rfl
  refine' take_at 55 rfl (by kernel_rfl) (by kernel_rfl) (by kernel_rfl) (fun _ _ _ h => h) (by rfl) hS ?_ ?_ ?_
  rotate_left 2
  · intro W hSW; exact run_loadR rfl rfl (HRq30.out.below hSW).head Try.underlying29 rfl (refT_info _)
  · simp only [List.set_cons_succ, List.set_cons_zero]; rfl
  refine' take_at 56 rfl (by kernel_rfl) (by kernel_rfl) (by kernel_rfl) (fun _ _ _ h => h) (by rfl) hS ?_ ?_ ?_
  rotate_left 2
  · intro W hSW; exact run_eql2 rfl rfl rfl guardR (by have h := eqRef HLn2.out HLn6.out W; rw [Hb16.out] at h; exact h)
  · simp only [List.set_cons_succ, List.set_cons_zero]; rfl
  refine call_at 53 rfl (by kernel_rfl) (by rfl) (fun K hK => ?_)
  go_simp
  have kq56 := fun W : World => (C.equal Rq3.out Rq7.out) W
  rw [Hb16.out] at kq56
  have Kq56 := Lib.hid kq56
  clear kq56
  with_reducible refine (Kq56.out _).mono ?_
  rintro e vq56 ⟨rfl, hbq56⟩
  have kbq56 := below_next kbq55 hbq56
  clear hS hbq56
  refine hK.out _ _ (by exact kbq56) (fun hS => ?_)
  clear hK K
  refine' take_at 57 rfl (by kernel_rfl) (by kernel_rfl) (by kernel_rfl) (fun _ _ _ h => h) (by rfl) hS ?_ ?_ ?_
  rotate_left 2
  · intro W hSW; go_simp; try with_reducible rfl
  · simp only [List.set_cons_succ, List.set_cons_zero]; rfl
  refine' take_at 58 rfl (by kernel_rfl) (by kernel_rfl) (by kernel_rfl) (fun _ _ _ h => h) (by rfl) hS ?_ ?_ ?_
  rotate_left 2
  · intro W hSW; go_simp; try with_reducible rfl
  · simp only [List.set_cons_succ, List.set_cons_zero]; rfl
  refine' take_at 59 rfl (by kernel_rfl) (by kernel_rfl) (by kernel_rfl) (fun _ _ _ h => h) (by rfl) hS ?_ ?_ ?_
  rotate_left 2
  · intro W hSW; go_simp; try with_reducible rfl
  · simp only [List.set_cons_succ, List.set_cons_zero]; rfl
  refine wpAnyH_done (by kernel_rfl) ?_ _
  refine NoPanic.normal ?_
  clear hS
  (try simp only [Act.put])
  have HRq57 := Lib.hid (HRq30.out.below kbq56)
  have HBq57 := Lib.hid (below_next HBq30.out kbq56)
  go_wp2_with fail
  go_ret
  exact ⟨rfl, HBq57.out⟩
end Go.Proofs.Ytlhnjdnkjgnooaa

