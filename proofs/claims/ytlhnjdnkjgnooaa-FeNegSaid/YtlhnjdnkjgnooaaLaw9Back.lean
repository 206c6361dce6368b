/- The walk of FeBack. Written by wip/tools/mk_law9.py. -/
import Derived.Test.YtlhnjdnkjgnooaaLaw9Alive
import Derived.Test.YtlhnjdnkjgnooaaFe9L
namespace Go.Proofs.Ytlhnjdnkjgnooaa
open Go.RowKit
set_option linter.unusedVariables false
set_option maxRecDepth 100000

set_option maxHeartbeats 6400000 in
theorem law9Back {R : Array Value → Nat → Prop} (C : FeC R) (a : List UInt8) (ha : a.length = 32) (w : World) : Calls Try.prog 6 #[.agg (arrB a)] w fun e w' => e = .returned (.bool true) ∧ Below w.heap.size w w' := by
  have HAL : Hid (∀ W : World, Calls Try.prog 9 #[] W fun e w' => e = .returned (.bool true) ∧ Below W.heap.size W w') := Lib.hid (fun W => alive9_any C W)
  obtain ⟨Z, hZ, RZ⟩ := C.base.zero
  have hzR := refT_zero
  have hz32 := zero32_zero
  have Ha := Lib.hid ha
  clear ha
  go_enter Try.func6, Try.ntmps6
  go_wp2_with fail
  have HR0 := Lib.hid ((RowsW.nil w).box (arrB a) 22)
  have HB0 := Lib.hid (below_box (Below.refl w.heap.size w) (arrB a) 22)
  obtain ⟨W0, hW0⟩ : ∃ W, (w.alloc (.cells (arrB a) 22)) = W := ⟨_, rfl⟩
  obtain ⟨g0, hg0⟩ : ∃ g, w.heap.size = g := ⟨_, rfl⟩
  rw [hW0] at HR0 HB0
  rw [hg0] at HR0
  rw [hW0, hg0]
  have HG0 := Lib.hid hg0
  clear hW0 hg0
  with_reducible refine (HAL.out _).mono ?_
  rintro e v1 ⟨rfl, hb1⟩
  have HR1 := Lib.hid (HR0.out.below hb1)
  have HB1 := Lib.hid (below_next HB0.out hb1)
  clear hb1
  go_upto_region 2 with fail
  have l1 := HR1.out.head
  go_wp2_with (refine wpList_load_row rfl 22 (.tmp 1) rfl g0 rfl 22 (arrB a) (0, 0) _ l1 Try.underlying22 rfl (arr32_info Ha.out) ?_)
  obtain ⟨n2, hn2⟩ : ∃ x : Nat, feN a = x := ⟨_, rfl⟩
  have Hn2 := Lib.hid hn2
  have HLn2 : Hid (n2 < PP) := Lib.hid (by rw [← hn2]; exact Nat.mod_lt _ (by decide))
  clear hn2
  with_reducible refine ((C.from_ a Ha.out) _).mono ?_
  rintro e vq3 ⟨cq3, rfl, rq3, hbq3⟩
  rw [Hn2.out] at rq3
  have Rq3 := Lib.hid rq3
  clear rq3
  have HRq3 := Lib.hid (HR1.out.below hbq3)
  have HBq3 := Lib.hid (below_next HB1.out hbq3)
  clear hbq3
  have h0q4 : (vq3.alloc (.cells Z 26)).heap[vq3.heap.size]? = some (.cells Z 26 (0, 0)) := heap_alloc_new _ _
  have HRq4 := Lib.hid (HRq3.out.new Z cq3 26)
  have HBq4 := Lib.hid (below_new HBq3.out Z cq3 26)
  have HNq4 := Lib.hid HRq3.out.ne
  have HGq4 := Lib.hid HBq3.out.size
  go_upto_region 3 with (refine wpList_store_row rfl 26 (.tmp 4) (.tmp 9) rfl vq3.heap.size cq3 rfl rfl 26 Z h0q4 (C.base.info Rq3.out) (C.base.size RZ Rq3.out) (C.base.one Rq3.out) ?_)
  obtain ⟨Wq4, hWq4⟩ : ∃ W, (vq3.alloc (.cells Z 26)).setRow vq3.heap.size cq3 = W := ⟨_, rfl⟩
  obtain ⟨gq4, hgq4⟩ : ∃ g, vq3.heap.size = g := ⟨_, rfl⟩
  rw [hWq4, hgq4] at HRq4
  rw [hWq4] at HBq4
  rw [hgq4] at HNq4 HGq4
  rw [hWq4, hgq4]
  clear hWq4 hgq4 h0q4
  have NEq4_0 : Hid (g0 ≠ gq4) := Lib.hid (HNq4.out (g0, (arrB a), 22) (by simp))
  have l5 := HRq4.out.head
  go_wp2_with (refine wpList_load_row rfl 26 (.tmp 4) rfl gq4 rfl 26 cq3 (0, 0) _ l5 Try.underlying26 rfl (C.base.info Rq3.out) ?_)
  with_reducible refine ((C.bytes Rq3.out) _).mono ?_
  rintro e vq6 ⟨rfl, hbq6⟩
  have HRq6 := Lib.hid (HRq4.out.below hbq6)
  have HBq6 := Lib.hid (below_next HBq4.out hbq6)
  clear hbq6
  have h0q7 : (vq6.alloc (.cells zero32 22)).heap[vq6.heap.size]? = some (.cells zero32 22 (0, 0)) := heap_alloc_new _ _
  have HRq7 := Lib.hid (HRq6.out.new zero32 (bytT n2) 22)
  have HBq7 := Lib.hid (below_new HBq6.out zero32 (bytT n2) 22)
  have HNq7 := Lib.hid HRq6.out.ne
  have HGq7 := Lib.hid HBq6.out.size
  go_upto_region 4 with (refine wpList_store_row rfl 22 (.tmp 5) (.tmp 11) rfl vq6.heap.size (bytT n2) rfl rfl 22 zero32 h0q7 (bytT_info _) (zero32_byt _) (bytT_one _) ?_)
  obtain ⟨Wq7, hWq7⟩ : ∃ W, (vq6.alloc (.cells zero32 22)).setRow vq6.heap.size (bytT n2) = W := ⟨_, rfl⟩
  obtain ⟨gq7, hgq7⟩ : ∃ g, vq6.heap.size = g := ⟨_, rfl⟩
  rw [hWq7, hgq7] at HRq7
  rw [hWq7] at HBq7
  rw [hgq7] at HNq7 HGq7
  rw [hWq7, hgq7]
  clear hWq7 hgq7 h0q7
  have NEq7_0 : Hid (g0 ≠ gq7) := Lib.hid (HNq7.out (g0, (arrB a), 22) (by simp))
  have NEq7_1 : Hid (gq4 ≠ gq7) := Lib.hid (HNq7.out (gq4, cq3, 26) (by simp))
  have l8 := HRq7.out.tail.tail.head
  have h0q9 : (Wq7.alloc (.cells zero32 22)).heap[Wq7.heap.size]? = some (.cells zero32 22 (0, 0)) := heap_alloc_new _ _
  have HRq9 := Lib.hid (HRq7.out.new zero32 (arrB a) 22)
  have HBq9 := Lib.hid (below_new HBq7.out zero32 (arrB a) 22)
  have HNq9 := Lib.hid HRq7.out.ne
  have HGq9 := Lib.hid HBq7.out.size
  go_upto_region 5 with (first
      | (refine wpList_load_row rfl 22 (.tmp 1) rfl g0 rfl 22 (arrB a) (0, 0) _ l8 Try.underlying22 rfl (arr32_info Ha.out) ?_)
      | (refine wpList_store_row rfl 22 (.tmp 6) (.tmp 12) rfl Wq7.heap.size (arrB a) rfl rfl 22 zero32 h0q9 (arr32_info Ha.out) (zero32_size Ha.out) (arrB_one _) ?_))
  obtain ⟨Wq9, hWq9⟩ : ∃ W, (Wq7.alloc (.cells zero32 22)).setRow Wq7.heap.size (arrB a) = W := ⟨_, rfl⟩
  obtain ⟨gq9, hgq9⟩ : ∃ g, Wq7.heap.size = g := ⟨_, rfl⟩
  rw [hWq9, hgq9] at HRq9
  rw [hWq9] at HBq9
  rw [hgq9] at HNq9 HGq9
  rw [hWq9, hgq9]
  clear hWq9 hgq9 h0q9
  have NEq9_0 : Hid (g0 ≠ gq9) := Lib.hid (HNq9.out (g0, (arrB a), 22) (by simp))
  have NEq9_1 : Hid (gq4 ≠ gq9) := Lib.hid (HNq9.out (gq4, cq3, 26) (by simp))
  have NEq9_2 : Hid (gq7 ≠ gq9) := Lib.hid (HNq9.out (gq7, (bytT n2), 22) (by simp))
  have cx : Wq9.cell? ⟨gq9, 31, none⟩ = some (.int .u8 ((a.getD 31 0).toNat : Int)) := by rw [cell_of_row _ _ _ _ _ _ HRq9.out.head, arrB_get _ _ (by rw [Ha.out]; omega)]
  have fx := frozen_row HRq9.out.head 31
  have hs := HRq9.out.set HNq9.out 31 (.int .u8 ((a.getD 31 0 ^^^ 128).toNat : Int))
  rw [arrB_set] at hs
  obtain ⟨u, hu⟩ : ∃ u : Int, ((a.getD 31 0).toNat : Int) = u := ⟨_, rfl⟩
  obtain ⟨v, hv⟩ : ∃ v : Int, ((a.getD 31 0 ^^^ 128).toNat : Int) = v := ⟨_, rfl⟩
  have f1 : bits .xor .u8 u 128 = v := by rw [← hu, ← hv]; exact u8_xorM _ 128
  have hb9 := HBq9.out.setCell (p := ⟨gq9, 31, none⟩) (by show w.heap.size ≤ gq9; exact HGq9.out) (.int .u8 v)
  rw [hu] at cx
  rw [hv] at hs
  obtain ⟨W9, hW9⟩ : ∃ W9, Wq9.setCell ⟨gq9, 31, none⟩ (.int .u8 v) = W9 := ⟨_, rfl⟩
  rw [hW9] at hs hb9
  have HR9 := Lib.hid hs
  have HB9 := Lib.hid hb9
  have HW9 := Lib.hid hW9
  clear hs hb9 hu hv hW9
  go_upto_region 6 with fail
  rw [HW9.out]
  clear HW9 cx fx f1
  have Hfl : Hid ((flipB a).length = 32) := Lib.hid (by unfold flipB; rw [List.length_set]; exact Ha.out)
  change Hid (RowsW _ ((_, arrB (flipB a), _) :: _)) at HR9
  obtain ⟨t31, ht31⟩ : ∃ v : Int, (((leB 32 n2).getD 31 0).toNat : Int) = v := ⟨_, rfl⟩
  have hg31 := bytT_get n2 31 (by omega)
  rw [ht31] at hg31
  have hl31 : t31 < 128 := by have := top_lt HLn2.out; omega
  have Ht31 := Lib.hid ht31
  clear ht31
  refine wp_region_noPanic ?_
  refine wp_region_held_drew (S := fun W => Below W9.heap.size W9 W) (by kernel_rfl) (by exact (Below.refl _ _).drew) (fun hS => ?_)
  refine' take_at 0 rfl (by kernel_rfl) (by kernel_rfl) (by kernel_rfl) (fun _ _ _ h => h) (by rfl) hS ?_ ?_ ?_
  rotate_left 2
  · intro W hSW; go_simp; try with_reducible rfl
  · simp only [List.set_cons_succ, List.set_cons_zero]; rfl
  refine' take_at 1 rfl (by kernel_rfl) (by kernel_rfl) (by kernel_rfl) (fun _ _ _ h => h) (by rfl) hS ?_ ?_ ?_
  rotate_left 2
  · intro W hSW; go_simp; try with_reducible rfl
  · simp only [List.set_cons_succ, List.set_cons_zero]; rfl
  refine' take_at 2 rfl (by kernel_rfl) (by kernel_rfl) (by kernel_rfl) (fun _ _ _ h => h) (by rfl) hS ?_ ?_ ?_
  rotate_left 2
  · intro W hSW; exact run_loadR rfl rfl (HR9.out.below hSW).tail.head Try.underlying22 rfl (bytT_info _)
  · simp only [List.set_cons_succ, List.set_cons_zero]; rfl
  refine' take_at 4 rfl (by kernel_rfl) (by kernel_rfl) (by kernel_rfl) (fun _ _ _ h => h) (by rfl) hS ?_ ?_ ?_
  rotate_left 2
  · intro W hSW; exact run_loadR rfl rfl (HR9.out.below hSW).tail.tail.head Try.underlying26 rfl (C.base.info Rq3.out)
  · simp only [List.set_cons_succ, List.set_cons_zero]; rfl
  refine call_at 3 rfl (by kernel_rfl) (by rfl) (fun K hK => ?_)
  go_simp
  have fb20 : ∀ W : World, Calls Try.prog 10 #[.agg (bytT n2)] W (RetFe R W n2) := fun W => by have h := C.from_ (leB 32 n2) (leB_len 32 n2) W; rw [feN_leB HLn2.out] at h; exact h
  with_reducible refine (fb20 _).mono ?_
  rintro e vq10 ⟨cq10, rfl, rq10, hbq10⟩
  have Rq10 := Lib.hid rq10
  clear rq10
  have kbq10 := below_next hS hbq10
  clear hS hbq10
  refine hK.out _ _ (by exact kbq10) (fun hS => ?_)
  clear hK K
  refine call_at 5 rfl (by kernel_rfl) (by rfl) (fun K hK => ?_)
  go_simp
  have kq11 := fun W : World => (C.equal Rq10.out Rq3.out) W
  rw [decide_eq_true (rfl : n2 = n2)] at kq11
  have Kq11 := Lib.hid kq11
  clear kq11
  with_reducible refine (Kq11.out _).mono ?_
  rintro e vq11 ⟨rfl, hbq11⟩
  have kbq11 := below_next kbq10 hbq11
  clear hS hbq11
  refine hK.out _ _ (by exact kbq11) (fun hS => ?_)
  clear hK K
  refine' take_at 6 rfl (by kernel_rfl) (by kernel_rfl) (by kernel_rfl) (fun _ _ _ h => h) (by rfl) hS ?_ ?_ ?_
  rotate_left 2
  · intro W hSW; go_simp; try with_reducible rfl
  · simp only [List.set_cons_succ, List.set_cons_zero]; rfl
  refine' take_at 7 rfl (by kernel_rfl) (by kernel_rfl) (by kernel_rfl) (fun _ _ _ h => h) (by rfl) hS ?_ ?_ ?_
  rotate_left 2
  · intro W hSW; go_simp; try with_reducible rfl
  · simp only [List.set_cons_succ, List.set_cons_zero]; rfl
  refine' take_at 8 rfl (by kernel_rfl) (by kernel_rfl) (by kernel_rfl) (fun _ _ _ h => h) (by rfl) hS ?_ ?_ ?_
  rotate_left 2
  · intro W hSW; exact run_loadR rfl rfl (HR9.out.below hSW).tail.head Try.underlying22 rfl (bytT_info _)
  · simp only [List.set_cons_succ, List.set_cons_zero]; rfl
  refine call_at 9 rfl (by kernel_rfl) (by rfl) (fun K hK => ?_)
  go_simp
  have cb26 : ∀ W : World, Calls Try.prog 16 #[.agg (bytT n2)] W (RetV W (.bool true)) := fun W => by have h := C.can (leB 32 n2) (leB_len 32 n2) W; rw [canN_leB HLn2.out] at h; exact h
  with_reducible refine (cb26 _).mono ?_
  rintro e vq12 ⟨rfl, hbq12⟩
  have kbq12 := below_next kbq11 hbq12
  clear hS hbq12
  refine hK.out _ _ (by exact kbq12) (fun hS => ?_)
  clear hK K
  refine' take_at 10 rfl (by kernel_rfl) (by kernel_rfl) (by kernel_rfl) (fun _ _ _ h => h) (by rfl) hS ?_ ?_ ?_
  rotate_left 2
  · intro W hSW; go_simp; try with_reducible rfl
  · simp only [List.set_cons_succ, List.set_cons_zero]; rfl
  refine' take_at 11 rfl (by kernel_rfl) (by kernel_rfl) (by kernel_rfl) (fun _ _ _ h => h) (by rfl) hS ?_ ?_ ?_
  rotate_left 2
  · intro W hSW; go_simp; try with_reducible rfl
  · simp only [List.set_cons_succ, List.set_cons_zero]; rfl
  refine' take_at 12 rfl (by kernel_rfl) (by kernel_rfl) (by kernel_rfl) (fun _ _ _ h => h) (by rfl) hS ?_ ?_ ?_
  rotate_left 2
  · intro W hSW; go_simp; try with_reducible rfl
  · simp only [List.set_cons_succ, List.set_cons_zero]; rfl
  refine' take_at 13 rfl (by kernel_rfl) (by kernel_rfl) (by kernel_rfl) (fun _ _ _ h => h) (by rfl) hS ?_ ?_ ?_
  rotate_left 2
  · intro W hSW; have hc := (cell_of_row _ _ _ _ _ _ (HR9.out.below hSW).tail.head).trans hg31; go_simp; try with_reducible rfl
  · simp only [List.set_cons_succ, List.set_cons_zero]; rfl
  refine' take_at 14 rfl (by kernel_rfl) (by kernel_rfl) (by kernel_rfl) (fun _ _ _ h => h) (by rfl) hS ?_ ?_ ?_
  rotate_left 2
  · intro W hSW; go_simp; try with_reducible rfl
  · simp only [List.set_cons_succ, List.set_cons_zero]; rfl
  refine' take_at 15 rfl (by kernel_rfl) (by kernel_rfl) (by kernel_rfl) (fun _ _ _ h => h) (by rfl) hS ?_ ?_ ?_
  rotate_left 2
  · intro W hSW; go_simp; try with_reducible rfl
  · simp only [List.set_cons_succ, List.set_cons_zero]; rfl
  refine' take_at 16 rfl (by kernel_rfl) (by kernel_rfl) (by kernel_rfl) (fun _ _ _ h => h) (by rfl) hS ?_ ?_ ?_
  rotate_left 2
  · intro W hSW; go_simp; try with_reducible rfl
  · simp only [List.set_cons_succ, List.set_cons_zero]; rfl
  refine' take_at 17 rfl (by kernel_rfl) (by kernel_rfl) (by kernel_rfl) (fun _ _ _ h => h) (by rfl) hS ?_ ?_ ?_
  rotate_left 2
  · intro W hSW; exact run_loadR rfl rfl (HR9.out.below hSW).head Try.underlying22 rfl (arr32_info Hfl.out)
  · simp only [List.set_cons_succ, List.set_cons_zero]; rfl
  refine' take_at 19 rfl (by kernel_rfl) (by kernel_rfl) (by kernel_rfl) (fun _ _ _ h => h) (by rfl) hS ?_ ?_ ?_
  rotate_left 2
  · intro W hSW; exact run_loadR rfl rfl (HR9.out.below hSW).tail.tail.head Try.underlying26 rfl (C.base.info Rq3.out)
  · simp only [List.set_cons_succ, List.set_cons_zero]; rfl
  refine call_at 18 rfl (by kernel_rfl) (by rfl) (fun K hK => ?_)
  go_simp
  with_reducible refine ((C.from_ (flipB a) Hfl.out) _).mono ?_
  rintro e vq13 ⟨cq13, rfl, rq13, hbq13⟩
  rw [flip_fe Ha.out, Hn2.out] at rq13
  have Rq13 := Lib.hid rq13
  clear rq13
  have kbq13 := below_next kbq12 hbq13
  clear hS hbq13
  refine hK.out _ _ (by exact kbq13) (fun hS => ?_)
  clear hK K
  refine call_at 20 rfl (by kernel_rfl) (by rfl) (fun K hK => ?_)
  go_simp
  have kq14 := fun W : World => (C.equal Rq13.out Rq3.out) W
  rw [decide_eq_true (rfl : n2 = n2)] at kq14
  have Kq14 := Lib.hid kq14
  clear kq14
  with_reducible refine (Kq14.out _).mono ?_
  rintro e vq14 ⟨rfl, hbq14⟩
  have kbq14 := below_next kbq13 hbq14
  clear hS hbq14
  refine hK.out _ _ (by exact kbq14) (fun hS => ?_)
  clear hK K
  refine' take_at 21 rfl (by kernel_rfl) (by kernel_rfl) (by kernel_rfl) (fun _ _ _ h => h) (by rfl) hS ?_ ?_ ?_
  rotate_left 2
  · intro W hSW; go_simp; try with_reducible rfl
  · simp only [List.set_cons_succ, List.set_cons_zero]; rfl
  refine' take_at 22 rfl (by kernel_rfl) (by kernel_rfl) (by kernel_rfl) (fun _ _ _ h => h) (by rfl) hS ?_ ?_ ?_
  rotate_left 2
  · intro W hSW; go_simp; try with_reducible rfl
  · simp only [List.set_cons_succ, List.set_cons_zero]; rfl
  refine' take_at 23 rfl (by kernel_rfl) (by kernel_rfl) (by kernel_rfl) (fun _ _ _ h => h) (by rfl) hS ?_ ?_ ?_
  rotate_left 2
  · intro W hSW; exact run_loadR rfl rfl (HR9.out.below hSW).tail.tail.tail.head Try.underlying22 rfl (arr32_info Ha.out)
  · simp only [List.set_cons_succ, List.set_cons_zero]; rfl
  refine' take_at 25 rfl (by kernel_rfl) (by kernel_rfl) (by kernel_rfl) (fun _ _ _ h => h) (by rfl) hS ?_ ?_ ?_
  rotate_left 2
  · intro W hSW; exact run_loadR rfl rfl (HR9.out.below hSW).head Try.underlying22 rfl (arr32_info Hfl.out)
  · simp only [List.set_cons_succ, List.set_cons_zero]; rfl
  refine call_at 24 rfl (by kernel_rfl) (by rfl) (fun K hK => ?_)
  go_simp
  obtain ⟨b15, hb15⟩ : ∃ x : Bool, canN a = x := ⟨_, rfl⟩
  have Hb15 := Lib.hid hb15
  clear hb15
  have kq16 := fun W : World => (C.can a Ha.out) W
  rw [Hb15.out] at kq16
  have Kq16 := Lib.hid kq16
  clear kq16
  with_reducible refine (Kq16.out _).mono ?_
  rintro e vq16 ⟨rfl, hbq16⟩
  have kbq16 := below_next kbq14 hbq16
  clear hS hbq16
  refine hK.out _ _ (by exact kbq16) (fun hS => ?_)
  clear hK K
  refine call_at 26 rfl (by kernel_rfl) (by rfl) (fun K hK => ?_)
  go_simp
  have kq17 := fun W : World => (C.can (flipB a) Hfl.out) W
  rw [flip_can Ha.out, Hb15.out] at kq17
  have Kq17 := Lib.hid kq17
  clear kq17
  with_reducible refine (Kq17.out _).mono ?_
  rintro e vq17 ⟨rfl, hbq17⟩
  have kbq17 := below_next kbq16 hbq17
  clear hS hbq17
  refine hK.out _ _ (by exact kbq17) (fun hS => ?_)
  clear hK K
  refine' take_at 27 rfl (by kernel_rfl) (by kernel_rfl) (by kernel_rfl) (fun _ _ _ h => h) (by rfl) hS ?_ ?_ ?_
  rotate_left 2
  · intro W hSW; go_simp; try with_reducible rfl
  · simp only [List.set_cons_succ, List.set_cons_zero]; rfl
  refine' take_at 28 rfl (by kernel_rfl) (by kernel_rfl) (by kernel_rfl) (fun _ _ _ h => h) (by rfl) hS ?_ ?_ ?_
  rotate_left 2
  · intro W hSW; go_simp; try with_reducible rfl
  · simp only [List.set_cons_succ, List.set_cons_zero]; rfl
  refine' take_at 29 rfl (by kernel_rfl) (by kernel_rfl) (by kernel_rfl) (fun _ _ _ h => h) (by rfl) hS ?_ ?_ ?_
  rotate_left 2
  · intro W hSW; go_simp; try with_reducible rfl
  · simp only [List.set_cons_succ, List.set_cons_zero]; rfl
  refine wpAnyH_done (by kernel_rfl) ?_ _
  refine NoPanic.normal ?_
  clear hS
  (try simp only [Act.put])
  have HRq18 := Lib.hid (HR9.out.below kbq17)
  have HBq18 := Lib.hid (below_next HB9.out kbq17)
  go_wp2_with fail
  go_ret
  exact ⟨rfl, HBq18.out⟩
end Go.Proofs.Ytlhnjdnkjgnooaa

