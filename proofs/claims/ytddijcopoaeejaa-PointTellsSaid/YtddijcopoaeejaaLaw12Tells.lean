/- The walk of PointTells. Written by wip/tools. -/
import Derived.Test.YtddijcopoaeejaaLaw12At
import Derived.Test.YtddijcopoaeejaaGheld
import Derived.Test.YtddijcopoaeejaaGbyt
namespace Go.Proofs.Ytddijcopoaeejaa
open Go.RowKit
set_option linter.unusedVariables false
set_option maxRecDepth 100000

set_option maxHeartbeats 6400000 in
theorem law12Tells {R : Array Value → PtD → Prop} (D : PtC R) (a : List UInt8) (ha : a.length = 32) (b : List UInt8) (hb : b.length = 32) (w : World) : Calls Try.prog 3 #[.agg (arrB a), .agg (arrB b)] w fun e w' => e = .returned (.bool true) ∧ Below w.heap.size w w' := by
  have HAL : Hid (∀ W : World, Calls Try.prog 9 #[] W fun e w' => e = .returned (.bool true) ∧ Below W.heap.size W w') := Lib.hid (fun W => alive12_any D W)
  obtain ⟨Z, hZ, sZ⟩ := D.base.zero
  have hz32 := zero32_zero
  have hzP := refP_zero
  have Ha := Lib.hid ha
  have Hb := Lib.hid hb
  clear ha hb
  go_enter Try.func3, Try.ntmps3
  go_wp2_with fail
  have HR0 := Lib.hid (((RowsW.nil w).box (arrB a) 22).box (arrB b) 22)
  have HB0 := Lib.hid (below_box (below_box (Below.refl w.heap.size w) (arrB a) 22) (arrB b) 22)
  rw [World.size_alloc] at HR0
  obtain ⟨W0, hW0⟩ : ∃ W, ((w.alloc (.cells (arrB a) 22)).alloc (.cells (arrB b) 22)) = W := ⟨_, rfl⟩
  obtain ⟨g0, hg0⟩ : ∃ g, w.heap.size = g := ⟨_, rfl⟩
  rw [hW0] at HR0 HB0
  rw [hg0] at HR0
  rw [hW0, hg0]
  have HG0 := Lib.hid hg0
  clear hW0 hg0
  with_reducible refine (HAL.out _).mono ?_
  rintro e v1 ⟨rfl, hb1⟩
  have HR1 := Lib.hid (HR0.out.below hb1)
  have HB1 := Lib.hid (below_next HB0.out hb1)
  clear hb1
  go_upto_region 2 with fail
  have l1 := HR1.out.tail.head
  go_wp2_with (refine wpList_load_row rfl 22 (.tmp 2) rfl g0 rfl 22 (arrB a) (0, 0) _ l1 Try.underlying22 rfl (arr32_info Ha.out) ?_)
  obtain ⟨p2, hp2⟩ : ∃ y_ : PtD, decP a = y_ := ⟨_, rfl⟩
  have Hp2 := Lib.hid hp2
  clear hp2
  obtain ⟨b3, hb3⟩ : ∃ x_ : Bool, decF a = x_ := ⟨_, rfl⟩
  have Hb3 := Lib.hid hb3
  clear hb3
  have kq4 := fun W : World => (D.decode a Ha.out) W
  rw [Hp2.out, Hb3.out] at kq4
  have Kq4 := Lib.hid kq4
  clear kq4
  with_reducible refine (Kq4.out _).mono ?_
  rintro e vq4 ⟨cq4, rfl, rq4, hbq4⟩
  have Rq4 := Lib.hid rq4
  clear rq4
  have HRq4 := Lib.hid (HR1.out.below hbq4)
  have HBq4 := Lib.hid (below_next HB1.out hbq4)
  clear hbq4
  have h0q5 : (vq4.alloc (.cells Z 28)).heap[vq4.heap.size]? = some (.cells Z 28 (0, 0)) := heap_alloc_new _ _
  have HRq5 := Lib.hid (HRq4.out.new Z cq4 28)
  have HBq5 := Lib.hid (below_new HBq4.out Z cq4 28)
  have HNq5 := Lib.hid HRq4.out.ne
  have HGq5 := Lib.hid HBq4.out.size
  go_upto_region 3 with (refine wpList_store_row rfl 28 (.tmp 6) (.tmp 18) rfl vq4.heap.size cq4 rfl rfl 28 Z h0q5 (D.base.info Rq4.out) (sZ Rq4.out) (D.base.one Rq4.out) ?_)
  obtain ⟨Wq5, hWq5⟩ : ∃ W, (vq4.alloc (.cells Z 28)).setRow vq4.heap.size cq4 = W := ⟨_, rfl⟩
  obtain ⟨gq5, hgq5⟩ : ∃ g, vq4.heap.size = g := ⟨_, rfl⟩
  rw [hWq5, hgq5] at HRq5
  rw [hWq5] at HBq5
  rw [hgq5] at HNq5 HGq5
  rw [hWq5, hgq5]
  clear hWq5 hgq5 h0q5
  have NEq5_0 : Hid (g0 ≠ gq5) := Lib.hid (HNq5.out (g0, (arrB a), 22) (by simp))
  have NEq5_1 : Hid ((g0 + 1) ≠ gq5) := Lib.hid (HNq5.out ((g0 + 1), (arrB b), 22) (by simp))
  have l6 := HRq5.out.tail.tail.head
  go_wp2_with (refine wpList_load_row rfl 22 (.tmp 2) rfl g0 rfl 22 (arrB a) (0, 0) _ l6 Try.underlying22 rfl (arr32_info Ha.out) ?_)
  have kq7 := fun W : World => (rdecodeN Ha.out) W
  rw [Hp2.out, Hb3.out] at kq7
  have Kq7 := Lib.hid kq7
  clear kq7
  with_reducible refine (Kq7.out _).mono ?_
  rintro e vq7 ⟨cq7, rfl, rq7, hbq7⟩
  have Rq7 := Lib.hid rq7
  clear rq7
  have HRq7 := Lib.hid (HRq5.out.below hbq7)
  have HBq7 := Lib.hid (below_next HBq5.out hbq7)
  clear hbq7
  have h0q8 : (vq7.alloc (.cells (refP 0 0 0 0) 34)).heap[vq7.heap.size]? = some (.cells (refP 0 0 0 0) 34 (0, 0)) := heap_alloc_new _ _
  have HRq8 := Lib.hid (HRq7.out.new (refP 0 0 0 0) cq7 34)
  have HBq8 := Lib.hid (below_new HBq7.out (refP 0 0 0 0) cq7 34)
  have HNq8 := Lib.hid HRq7.out.ne
  have HGq8 := Lib.hid HBq7.out.size
  go_upto_region 4 with (refine wpList_store_row rfl 34 (.tmp 8) (.tmp 23) rfl vq7.heap.size cq7 rfl rfl 34 (refP 0 0 0 0) h0q8 (rq_info Rq7.out) (rq_z Rq7.out) (rq_one Rq7.out) ?_)
  obtain ⟨Wq8, hWq8⟩ : ∃ W, (vq7.alloc (.cells (refP 0 0 0 0) 34)).setRow vq7.heap.size cq7 = W := ⟨_, rfl⟩
  obtain ⟨gq8, hgq8⟩ : ∃ g, vq7.heap.size = g := ⟨_, rfl⟩
  rw [hWq8, hgq8] at HRq8
  rw [hWq8] at HBq8
  rw [hgq8] at HNq8 HGq8
  rw [hWq8, hgq8]
  clear hWq8 hgq8 h0q8
  have NEq8_0 : Hid (g0 ≠ gq8) := Lib.hid (HNq8.out (g0, (arrB a), 22) (by simp))
  have NEq8_1 : Hid ((g0 + 1) ≠ gq8) := Lib.hid (HNq8.out ((g0 + 1), (arrB b), 22) (by simp))
  have NEq8_2 : Hid (gq5 ≠ gq8) := Lib.hid (HNq8.out (gq5, cq4, 28) (by simp))
  refine wp_region_noPanic ?_
  refine wp_region_held_drew (S := fun W => Below Wq8.heap.size Wq8 W) (by kernel_rfl) (by exact (Below.refl _ _).drew) (fun hS => ?_)
  refine' take_at 0 rfl (by kernel_rfl) (by kernel_rfl) (by kernel_rfl) (fun _ _ _ h => h) (by rfl) hS ?_ ?_ ?_
  rotate_left 2
  · intro W hSW; go_simp; try with_reducible rfl
  · simp only [List.set_cons_succ, List.set_cons_zero]; rfl
  refine' take_at 1 rfl (by kernel_rfl) (by kernel_rfl) (by kernel_rfl) (fun _ _ _ h => h) (by rfl) hS ?_ ?_ ?_
  rotate_left 2
  · intro W hSW; go_simp; try with_reducible rfl
  · simp only [List.set_cons_succ, List.set_cons_zero]; rfl
  refine' take_at 2 rfl (by kernel_rfl) (by kernel_rfl) (by kernel_rfl) (fun _ _ _ h => h) (by rfl) hS ?_ ?_ ?_
  rotate_left 2
  · intro W hSW; go_simp; try with_reducible rfl
  · simp only [List.set_cons_succ, List.set_cons_zero]; rfl
  refine' take_at 3 rfl (by kernel_rfl) (by kernel_rfl) (by kernel_rfl) (fun _ _ _ h => h) (by rfl) hS ?_ ?_ ?_
  rotate_left 2
  · intro W hSW; go_simp; try with_reducible rfl
  · simp only [List.set_cons_succ, List.set_cons_zero]; rfl
  refine' take_at 4 rfl (by kernel_rfl) (by kernel_rfl) (by kernel_rfl) (fun _ _ _ h => h) (by rfl) hS ?_ ?_ ?_
  rotate_left 2
  · intro W hSW; go_simp; try with_reducible rfl
  · simp only [List.set_cons_succ, List.set_cons_zero]; rfl
  refine' take_at 5 rfl (by kernel_rfl) (by kernel_rfl) (by kernel_rfl) (fun _ _ _ h => h) (by rfl) hS ?_ ?_ ?_
  rotate_left 2
  · intro W hSW; go_simp; try with_reducible rfl
  · simp only [List.set_cons_succ, List.set_cons_zero]; rfl
  refine' take_at 6 rfl (by kernel_rfl) (by kernel_rfl) (by kernel_rfl) (fun _ _ _ h => h) (by rfl) hS ?_ ?_ ?_
  rotate_left 2
  · intro W hSW; go_simp; try with_reducible rfl
  · simp only [List.set_cons_succ, List.set_cons_zero]; rfl
  refine' take_at 7 rfl (by kernel_rfl) (by kernel_rfl) (by kernel_rfl) (fun _ _ _ h => h) (by rfl) hS ?_ ?_ ?_
  rotate_left 2
  · intro W hSW; go_simp; try with_reducible rfl
  · simp only [List.set_cons_succ, List.set_cons_zero]; rfl
  refine' take_at 8 rfl (by kernel_rfl) (by kernel_rfl) (by kernel_rfl) (fun _ _ _ h => h) (by rfl) hS ?_ ?_ ?_
  rotate_left 2
  · intro W hSW; exact run_loadR rfl rfl (HRq8.out.below hSW).tail.head Try.underlying28 rfl (D.base.info Rq4.out)
  · simp only [List.set_cons_succ, List.set_cons_zero]; rfl
  refine' take_at 10 rfl (by kernel_rfl) (by kernel_rfl) (by kernel_rfl) (fun _ _ _ h => h) (by rfl) hS ?_ ?_ ?_
  rotate_left 2
  · intro W hSW; exact run_loadR rfl rfl (HRq8.out.below hSW).head Try.underlying34 rfl (rq_info Rq7.out)
  · simp only [List.set_cons_succ, List.set_cons_zero]; rfl
  refine call_at 9 rfl (by kernel_rfl) (by rfl) (fun K hK => ?_)
  go_simp
  with_reducible refine ((D.encode Rq4.out) _).mono ?_
  rintro e vq9 ⟨rfl, hbq9⟩
  have kbq9 := below_next hS hbq9
  clear hS hbq9
  refine hK.out _ _ (by exact kbq9) (fun hS => ?_)
  clear hK K
  refine call_at 11 rfl (by kernel_rfl) (by rfl) (fun K hK => ?_)
  go_simp
  with_reducible refine ((rencode_any Rq7.out) _).mono ?_
  rintro e vq10 ⟨rfl, hbq10⟩
  have kbq10 := below_next kbq9 hbq10
  clear hS hbq10
  refine hK.out _ _ (by exact kbq10) (fun hS => ?_)
  clear hK K
  refine' take_at 12 rfl (by kernel_rfl) (by kernel_rfl) (by kernel_rfl) (fun _ _ _ h => h) (by rfl) hS ?_ ?_ ?_
  rotate_left 2
  · intro W hSW; exact run_eql2 rfl rfl rfl guardB (neBytT (F25519.encN p2) W)
  · simp only [List.set_cons_succ, List.set_cons_zero]; rfl
  refine' take_at 13 rfl (by kernel_rfl) (by kernel_rfl) (by kernel_rfl) (fun _ _ _ h => h) (by rfl) hS ?_ ?_ ?_
  rotate_left 2
  · intro W hSW; go_simp; try with_reducible rfl
  · simp only [List.set_cons_succ, List.set_cons_zero]; rfl
  refine wpAnyH_done (by kernel_rfl) ?_ _
  refine NoPanic.normal ?_
  clear hS
  (try simp only [Act.put])
  have HRq11 := Lib.hid (HRq8.out.below kbq10)
  have HBq11 := Lib.hid (below_next HBq8.out kbq10)
  go_upto_region 6 with fail
  have l12 := HRq11.out.tail.tail.tail.head
  go_wp2_with (refine wpList_load_row rfl 22 (.tmp 2) rfl g0 rfl 22 (arrB a) (0, 0) _ l12 Try.underlying22 rfl (arr32_info Ha.out) ?_)
  obtain ⟨p13, hp13⟩ : ∃ y_ : PtD, atP a = y_ := ⟨_, rfl⟩
  have Hp13 := Lib.hid hp13
  clear hp13
  have kq14 := fun W : World => (at12_any D a Ha.out) W
  rw [Hp13.out] at kq14
  have Kq14 := Lib.hid kq14
  clear kq14
  with_reducible refine (Kq14.out _).mono ?_
  rintro e vq14 ⟨cq14, dq14, rfl, rq14, sq14, hbq14⟩
  have Rq14 := Lib.hid rq14
  have Sq14 := Lib.hid sq14
  clear rq14 sq14
  have HRq14 := Lib.hid (HRq11.out.below hbq14)
  have HBq14 := Lib.hid (below_next HBq11.out hbq14)
  clear hbq14
  have haq15 := heap_new2a vq14 Z (refP 0 0 0 0) 28 34
  have hbbq15 := heap_new2b vq14 Z (refP 0 0 0 0) cq14 28 34
  have HRq15 := Lib.hid (HRq14.out.new2 Z cq14 (refP 0 0 0 0) dq14 28 34)
  have HBq15 := Lib.hid (below_new2 HBq14.out Z cq14 (refP 0 0 0 0) dq14 28 34)
  go_upto_region 7 with (first
      | (refine wpList_store_row rfl 28 (.tmp 10) (.tmp 42) rfl vq14.heap.size cq14 rfl rfl 28 Z haq15 (D.base.info Rq14.out) (sZ Rq14.out) (D.base.one Rq14.out) ?_)
      | (refine wpList_store_row rfl 34 (.tmp 11) (.tmp 43) rfl (vq14.heap.size + 1) dq14 rfl rfl 34 (refP 0 0 0 0) hbbq15 (rq_info Sq14.out) (rq_z Sq14.out) (rq_one Sq14.out) ?_))
  obtain ⟨Wq15, hWq15⟩ : ∃ W, (((vq14.alloc (.cells Z 28)).alloc (.cells (refP 0 0 0 0) 34)).setRow vq14.heap.size cq14).setRow (vq14.heap.size + 1) dq14 = W := ⟨_, rfl⟩
  obtain ⟨gq15, hgq15⟩ : ∃ g, vq14.heap.size = g := ⟨_, rfl⟩
  rw [hWq15, hgq15] at HRq15
  rw [hWq15] at HBq15
  rw [hWq15, hgq15]
  clear hWq15 hgq15 haq15 hbbq15
  have l16 := HRq15.out.tail.tail.tail.tail.head
  go_wp2_with (refine wpList_load_row rfl 22 (.tmp 3) rfl (g0 + 1) rfl 22 (arrB b) (0, 0) _ l16 Try.underlying22 rfl (arr32_info Hb.out) ?_)
  obtain ⟨p17, hp17⟩ : ∃ y_ : PtD, atP b = y_ := ⟨_, rfl⟩
  have Hp17 := Lib.hid hp17
  clear hp17
  have kq18 := fun W : World => (at12_any D b Hb.out) W
  rw [Hp17.out] at kq18
  have Kq18 := Lib.hid kq18
  clear kq18
  with_reducible refine (Kq18.out _).mono ?_
  rintro e vq18 ⟨cq18, dq18, rfl, rq18, sq18, hbq18⟩
  have Rq18 := Lib.hid rq18
  have Sq18 := Lib.hid sq18
  clear rq18 sq18
  have HRq18 := Lib.hid (HRq15.out.below hbq18)
  have HBq18 := Lib.hid (below_next HBq15.out hbq18)
  clear hbq18
  have haq19 := heap_new2a vq18 Z (refP 0 0 0 0) 28 34
  have hbbq19 := heap_new2b vq18 Z (refP 0 0 0 0) cq18 28 34
  have HRq19 := Lib.hid (HRq18.out.new2 Z cq18 (refP 0 0 0 0) dq18 28 34)
  have HBq19 := Lib.hid (below_new2 HBq18.out Z cq18 (refP 0 0 0 0) dq18 28 34)
  go_upto_region 8 with (first
      | (refine wpList_store_row rfl 28 (.tmp 12) (.tmp 47) rfl vq18.heap.size cq18 rfl rfl 28 Z haq19 (D.base.info Rq18.out) (sZ Rq18.out) (D.base.one Rq18.out) ?_)
      | (refine wpList_store_row rfl 34 (.tmp 13) (.tmp 48) rfl (vq18.heap.size + 1) dq18 rfl rfl 34 (refP 0 0 0 0) hbbq19 (rq_info Sq18.out) (rq_z Sq18.out) (rq_one Sq18.out) ?_))
  obtain ⟨Wq19, hWq19⟩ : ∃ W, (((vq18.alloc (.cells Z 28)).alloc (.cells (refP 0 0 0 0) 34)).setRow vq18.heap.size cq18).setRow (vq18.heap.size + 1) dq18 = W := ⟨_, rfl⟩
  obtain ⟨gq19, hgq19⟩ : ∃ g, vq18.heap.size = g := ⟨_, rfl⟩
  rw [hWq19, hgq19] at HRq19
  rw [hWq19] at HBq19
  rw [hWq19, hgq19]
  clear hWq19 hgq19 haq19 hbbq19
  refine wp_region_noPanic ?_
  refine wp_region_held_drew (S := fun W => Below Wq19.heap.size Wq19 W) (by kernel_rfl) (by exact (Below.refl _ _).drew) (fun hS => ?_)
  refine' take_at 0 rfl (by kernel_rfl) (by kernel_rfl) (by kernel_rfl) (fun _ _ _ h => h) (by rfl) hS ?_ ?_ ?_
  rotate_left 2
  · intro W hSW; exact run_loadR rfl rfl (HRq19.out.below hSW).tail.tail.tail.head Try.underlying28 rfl (D.base.info Rq14.out)
  · simp only [List.set_cons_succ, List.set_cons_zero]; rfl
  refine' take_at 2 rfl (by kernel_rfl) (by kernel_rfl) (by kernel_rfl) (fun _ _ _ h => h) (by rfl) hS ?_ ?_ ?_
  rotate_left 2
  · intro W hSW; exact run_loadR rfl rfl (HRq19.out.below hSW).tail.tail.head Try.underlying34 rfl (rq_info Sq14.out)
  · simp only [List.set_cons_succ, List.set_cons_zero]; rfl
  refine call_at 1 rfl (by kernel_rfl) (by rfl) (fun K hK => ?_)
  go_simp
  with_reducible refine ((D.encode Rq14.out) _).mono ?_
  rintro e vq20 ⟨rfl, hbq20⟩
  have kbq20 := below_next hS hbq20
  clear hS hbq20
  refine hK.out _ _ (by exact kbq20) (fun hS => ?_)
  clear hK K
  refine call_at 3 rfl (by kernel_rfl) (by rfl) (fun K hK => ?_)
  go_simp
  with_reducible refine ((rencode_any Sq14.out) _).mono ?_
  rintro e vq21 ⟨rfl, hbq21⟩
  have kbq21 := below_next kbq20 hbq21
  clear hS hbq21
  refine hK.out _ _ (by exact kbq21) (fun hS => ?_)
  clear hK K
  refine' take_at 4 rfl (by kernel_rfl) (by kernel_rfl) (by kernel_rfl) (fun _ _ _ h => h) (by rfl) hS ?_ ?_ ?_
  rotate_left 2
  · intro W hSW; exact run_eql2 rfl rfl rfl guardB (eqBytT (F25519.encN p13) W)
  · simp only [List.set_cons_succ, List.set_cons_zero]; rfl
  refine' take_at 5 rfl (by kernel_rfl) (by kernel_rfl) (by kernel_rfl) (fun _ _ _ h => h) (by rfl) hS ?_ ?_ ?_
  rotate_left 2
  · intro W hSW; go_simp; try with_reducible rfl
  · simp only [List.set_cons_succ, List.set_cons_zero]; rfl
  refine' take_at 6 rfl (by kernel_rfl) (by kernel_rfl) (by kernel_rfl) (fun _ _ _ h => h) (by rfl) hS ?_ ?_ ?_
  rotate_left 2
  · intro W hSW; exact run_loadR rfl rfl (HRq19.out.below hSW).tail.tail.tail.head Try.underlying28 rfl (D.base.info Rq14.out)
  · simp only [List.set_cons_succ, List.set_cons_zero]; rfl
  refine' take_at 7 rfl (by kernel_rfl) (by kernel_rfl) (by kernel_rfl) (fun _ _ _ h => h) (by rfl) hS ?_ ?_ ?_
  rotate_left 2
  · intro W hSW; exact run_loadR rfl rfl (HRq19.out.below hSW).tail.head Try.underlying28 rfl (D.base.info Rq18.out)
  · simp only [List.set_cons_succ, List.set_cons_zero]; rfl
  refine' take_at 10 rfl (by kernel_rfl) (by kernel_rfl) (by kernel_rfl) (fun _ _ _ h => h) (by rfl) hS ?_ ?_ ?_
  rotate_left 2
  · intro W hSW; exact run_loadR rfl rfl (HRq19.out.below hSW).tail.tail.head Try.underlying34 rfl (rq_info Sq14.out)
  · simp only [List.set_cons_succ, List.set_cons_zero]; rfl
  refine' take_at 11 rfl (by kernel_rfl) (by kernel_rfl) (by kernel_rfl) (fun _ _ _ h => h) (by rfl) hS ?_ ?_ ?_
  rotate_left 2
  · intro W hSW; exact run_loadR rfl rfl (HRq19.out.below hSW).head Try.underlying34 rfl (rq_info Sq18.out)
  · simp only [List.set_cons_succ, List.set_cons_zero]; rfl
  refine call_at 8 rfl (by kernel_rfl) (by rfl) (fun K hK => ?_)
  go_simp
  obtain ⟨p22, hp22⟩ : ∃ y_ : PtD, padd p13 p17 = y_ := ⟨_, rfl⟩
  have Hp22 := Lib.hid hp22
  clear hp22
  with_reducible refine ((D.add Rq14.out Rq18.out) _).mono ?_
  rintro e vq23 ⟨cq23, rfl, rq23, hbq23⟩
  rw [Hp22.out] at rq23
  have Rq23 := Lib.hid rq23
  clear rq23
  have kbq23 := below_next kbq21 hbq23
  clear hS hbq23
  refine hK.out _ _ (by exact kbq23) (fun hS => ?_)
  clear hK K
  refine call_at 9 rfl (by kernel_rfl) (by rfl) (fun K hK => ?_)
  go_simp
  with_reducible refine ((D.encode Rq23.out) _).mono ?_
  rintro e vq24 ⟨rfl, hbq24⟩
  have kbq24 := below_next kbq23 hbq24
  clear hS hbq24
  refine hK.out _ _ (by exact kbq24) (fun hS => ?_)
  clear hK K
  refine call_at 12 rfl (by kernel_rfl) (by rfl) (fun K hK => ?_)
  go_simp
  with_reducible refine ((rplus_any Sq14.out Sq18.out) _).mono ?_
  rintro e vq25 ⟨cq25, rfl, rq25, hbq25⟩
  rw [Hp22.out] at rq25
  have Rq25 := Lib.hid rq25
  clear rq25
  have kbq25 := below_next kbq24 hbq25
  clear hS hbq25
  refine hK.out _ _ (by exact kbq25) (fun hS => ?_)
  clear hK K
  refine call_at 13 rfl (by kernel_rfl) (by rfl) (fun K hK => ?_)
  go_simp
  with_reducible refine ((rencode_any Rq25.out) _).mono ?_
  rintro e vq26 ⟨rfl, hbq26⟩
  have kbq26 := below_next kbq25 hbq26
  clear hS hbq26
  refine hK.out _ _ (by exact kbq26) (fun hS => ?_)
  clear hK K
  refine' take_at 14 rfl (by kernel_rfl) (by kernel_rfl) (by kernel_rfl) (fun _ _ _ h => h) (by rfl) hS ?_ ?_ ?_
  rotate_left 2
  · intro W hSW; exact run_eql2 rfl rfl rfl guardB (eqBytT (F25519.encN p22) W)
  · simp only [List.set_cons_succ, List.set_cons_zero]; rfl
  refine' take_at 15 rfl (by kernel_rfl) (by kernel_rfl) (by kernel_rfl) (fun _ _ _ h => h) (by rfl) hS ?_ ?_ ?_
  rotate_left 2
  · intro W hSW; go_simp; try with_reducible rfl
  · simp only [List.set_cons_succ, List.set_cons_zero]; rfl
  refine' take_at 16 rfl (by kernel_rfl) (by kernel_rfl) (by kernel_rfl) (fun _ _ _ h => h) (by rfl) hS ?_ ?_ ?_
  rotate_left 2
  · intro W hSW; go_simp; try with_reducible rfl
  · simp only [List.set_cons_succ, List.set_cons_zero]; rfl
  refine' take_at 17 rfl (by kernel_rfl) (by kernel_rfl) (by kernel_rfl) (fun _ _ _ h => h) (by rfl) hS ?_ ?_ ?_
  rotate_left 2
  · intro W hSW; exact run_loadR rfl rfl (HRq19.out.below hSW).tail.tail.tail.head Try.underlying28 rfl (D.base.info Rq14.out)
  · simp only [List.set_cons_succ, List.set_cons_zero]; rfl
  refine' take_at 20 rfl (by kernel_rfl) (by kernel_rfl) (by kernel_rfl) (fun _ _ _ h => h) (by rfl) hS ?_ ?_ ?_
  rotate_left 2
  · intro W hSW; exact run_loadR rfl rfl (HRq19.out.below hSW).tail.tail.head Try.underlying34 rfl (rq_info Sq14.out)
  · simp only [List.set_cons_succ, List.set_cons_zero]; rfl
  refine' take_at 21 rfl (by kernel_rfl) (by kernel_rfl) (by kernel_rfl) (fun _ _ _ h => h) (by rfl) hS ?_ ?_ ?_
  rotate_left 2
  · intro W hSW; exact run_loadR rfl rfl (HRq19.out.below hSW).tail.tail.head Try.underlying34 rfl (rq_info Sq14.out)
  · simp only [List.set_cons_succ, List.set_cons_zero]; rfl
  refine call_at 18 rfl (by kernel_rfl) (by rfl) (fun K hK => ?_)
  go_simp
  obtain ⟨p27, hp27⟩ : ∃ y_ : PtD, padd p13 p13 = y_ := ⟨_, rfl⟩
  have Hp27 := Lib.hid hp27
  clear hp27
  with_reducible refine ((D.double Rq14.out) _).mono ?_
  rintro e vq28 ⟨cq28, rfl, rq28, hbq28⟩
  rw [Hp27.out] at rq28
  have Rq28 := Lib.hid rq28
  clear rq28
  have kbq28 := below_next kbq26 hbq28
  clear hS hbq28
  refine hK.out _ _ (by exact kbq28) (fun hS => ?_)
  clear hK K
  refine call_at 19 rfl (by kernel_rfl) (by rfl) (fun K hK => ?_)
  go_simp
  with_reducible refine ((D.encode Rq28.out) _).mono ?_
  rintro e vq29 ⟨rfl, hbq29⟩
  have kbq29 := below_next kbq28 hbq29
  clear hS hbq29
  refine hK.out _ _ (by exact kbq29) (fun hS => ?_)
  clear hK K
  refine call_at 22 rfl (by kernel_rfl) (by rfl) (fun K hK => ?_)
  go_simp
  with_reducible refine ((rplus_any Sq14.out Sq14.out) _).mono ?_
  rintro e vq30 ⟨cq30, rfl, rq30, hbq30⟩
  rw [Hp27.out] at rq30
  have Rq30 := Lib.hid rq30
  clear rq30
  have kbq30 := below_next kbq29 hbq30
  clear hS hbq30
  refine hK.out _ _ (by exact kbq30) (fun hS => ?_)
  clear hK K
  refine call_at 23 rfl (by kernel_rfl) (by rfl) (fun K hK => ?_)
  go_simp
  with_reducible refine ((rencode_any Rq30.out) _).mono ?_
  rintro e vq31 ⟨rfl, hbq31⟩
  have kbq31 := below_next kbq30 hbq31
  clear hS hbq31
  refine hK.out _ _ (by exact kbq31) (fun hS => ?_)
  clear hK K
  refine' take_at 24 rfl (by kernel_rfl) (by kernel_rfl) (by kernel_rfl) (fun _ _ _ h => h) (by rfl) hS ?_ ?_ ?_
  rotate_left 2
  · intro W hSW; exact run_eql2 rfl rfl rfl guardB (eqBytT (F25519.encN p27) W)
  · simp only [List.set_cons_succ, List.set_cons_zero]; rfl
  refine' take_at 25 rfl (by kernel_rfl) (by kernel_rfl) (by kernel_rfl) (fun _ _ _ h => h) (by rfl) hS ?_ ?_ ?_
  rotate_left 2
  · intro W hSW; go_simp; try with_reducible rfl
  · simp only [List.set_cons_succ, List.set_cons_zero]; rfl
  refine' take_at 26 rfl (by kernel_rfl) (by kernel_rfl) (by kernel_rfl) (fun _ _ _ h => h) (by rfl) hS ?_ ?_ ?_
  rotate_left 2
  · intro W hSW; go_simp; try with_reducible rfl
  · simp only [List.set_cons_succ, List.set_cons_zero]; rfl
  refine' take_at 27 rfl (by kernel_rfl) (by kernel_rfl) (by kernel_rfl) (fun _ _ _ h => h) (by rfl) hS ?_ ?_ ?_
  rotate_left 2
  · intro W hSW; exact run_loadR rfl rfl (HRq19.out.below hSW).tail.tail.tail.head Try.underlying28 rfl (D.base.info Rq14.out)
  · simp only [List.set_cons_succ, List.set_cons_zero]; rfl
  refine' take_at 30 rfl (by kernel_rfl) (by kernel_rfl) (by kernel_rfl) (fun _ _ _ h => h) (by rfl) hS ?_ ?_ ?_
  rotate_left 2
  · intro W hSW; exact run_loadR rfl rfl (HRq19.out.below hSW).tail.tail.head Try.underlying34 rfl (rq_info Sq14.out)
  · simp only [List.set_cons_succ, List.set_cons_zero]; rfl
  refine call_at 28 rfl (by kernel_rfl) (by rfl) (fun K hK => ?_)
  go_simp
  obtain ⟨p32, hp32⟩ : ∃ y_ : PtD, Ed.Pt.neg p13 = y_ := ⟨_, rfl⟩
  have Hp32 := Lib.hid hp32
  clear hp32
  with_reducible refine ((D.neg Rq14.out) _).mono ?_
  rintro e vq33 ⟨cq33, rfl, rq33, hbq33⟩
  rw [Hp32.out] at rq33
  have Rq33 := Lib.hid rq33
  clear rq33
  have kbq33 := below_next kbq31 hbq33
  clear hS hbq33
  refine hK.out _ _ (by exact kbq33) (fun hS => ?_)
  clear hK K
  refine call_at 29 rfl (by kernel_rfl) (by rfl) (fun K hK => ?_)
  go_simp
  with_reducible refine ((D.encode Rq33.out) _).mono ?_
  rintro e vq34 ⟨rfl, hbq34⟩
  have kbq34 := below_next kbq33 hbq34
  clear hS hbq34
  refine hK.out _ _ (by exact kbq34) (fun hS => ?_)
  clear hK K
  refine call_at 31 rfl (by kernel_rfl) (by rfl) (fun K hK => ?_)
  go_simp
  with_reducible refine ((rturn_any Sq14.out) _).mono ?_
  rintro e vq35 ⟨cq35, rfl, rq35, hbq35⟩
  rw [Hp32.out] at rq35
  have Rq35 := Lib.hid rq35
  clear rq35
  have kbq35 := below_next kbq34 hbq35
  clear hS hbq35
  refine hK.out _ _ (by exact kbq35) (fun hS => ?_)
  clear hK K
  refine call_at 32 rfl (by kernel_rfl) (by rfl) (fun K hK => ?_)
  go_simp
  with_reducible refine ((rencode_any Rq35.out) _).mono ?_
  rintro e vq36 ⟨rfl, hbq36⟩
  have kbq36 := below_next kbq35 hbq36
  clear hS hbq36
  refine hK.out _ _ (by exact kbq36) (fun hS => ?_)
  clear hK K
  refine' take_at 33 rfl (by kernel_rfl) (by kernel_rfl) (by kernel_rfl) (fun _ _ _ h => h) (by rfl) hS ?_ ?_ ?_
  rotate_left 2
  · intro W hSW; exact run_eql2 rfl rfl rfl guardB (eqBytT (F25519.encN p32) W)
  · simp only [List.set_cons_succ, List.set_cons_zero]; rfl
  refine' take_at 34 rfl (by kernel_rfl) (by kernel_rfl) (by kernel_rfl) (fun _ _ _ h => h) (by rfl) hS ?_ ?_ ?_
  rotate_left 2
  · intro W hSW; go_simp; try with_reducible rfl
  · simp only [List.set_cons_succ, List.set_cons_zero]; rfl
  refine' take_at 35 rfl (by kernel_rfl) (by kernel_rfl) (by kernel_rfl) (fun _ _ _ h => h) (by rfl) hS ?_ ?_ ?_
  rotate_left 2
  · intro W hSW; go_simp; try with_reducible rfl
  · simp only [List.set_cons_succ, List.set_cons_zero]; rfl
  refine' take_at 36 rfl (by kernel_rfl) (by kernel_rfl) (by kernel_rfl) (fun _ _ _ h => h) (by rfl) hS ?_ ?_ ?_
  rotate_left 2
  · intro W hSW; exact run_loadR rfl rfl (HRq19.out.below hSW).tail.tail.tail.head Try.underlying28 rfl (D.base.info Rq14.out)
  · simp only [List.set_cons_succ, List.set_cons_zero]; rfl
  refine' take_at 37 rfl (by kernel_rfl) (by kernel_rfl) (by kernel_rfl) (fun _ _ _ h => h) (by rfl) hS ?_ ?_ ?_
  rotate_left 2
  · intro W hSW; exact run_loadR rfl rfl (HRq19.out.below hSW).tail.head Try.underlying28 rfl (D.base.info Rq18.out)
  · simp only [List.set_cons_succ, List.set_cons_zero]; rfl
  refine' take_at 39 rfl (by kernel_rfl) (by kernel_rfl) (by kernel_rfl) (fun _ _ _ h => h) (by rfl) hS ?_ ?_ ?_
  rotate_left 2
  · intro W hSW; exact run_loadR rfl rfl (HRq19.out.below hSW).tail.tail.head Try.underlying34 rfl (rq_info Sq14.out)
  · simp only [List.set_cons_succ, List.set_cons_zero]; rfl
  refine' take_at 40 rfl (by kernel_rfl) (by kernel_rfl) (by kernel_rfl) (fun _ _ _ h => h) (by rfl) hS ?_ ?_ ?_
  rotate_left 2
  · intro W hSW; exact run_loadR rfl rfl (HRq19.out.below hSW).head Try.underlying34 rfl (rq_info Sq18.out)
  · simp only [List.set_cons_succ, List.set_cons_zero]; rfl
  refine call_at 38 rfl (by kernel_rfl) (by rfl) (fun K hK => ?_)
  go_simp
  obtain ⟨b37, hb37⟩ : ∃ x_ : Bool, ptEq p13 p17 = x_ := ⟨_, rfl⟩
  have Hb37 := Lib.hid hb37
  clear hb37
  have kq38 := fun W : World => (D.equal Rq14.out Rq18.out) W
  rw [Hb37.out] at kq38
  have Kq38 := Lib.hid kq38
  clear kq38
  with_reducible refine (Kq38.out _).mono ?_
  rintro e vq38 ⟨rfl, hbq38⟩
  have kbq38 := below_next kbq36 hbq38
  clear hS hbq38
  refine hK.out _ _ (by exact kbq38) (fun hS => ?_)
  clear hK K
  refine call_at 41 rfl (by kernel_rfl) (by rfl) (fun K hK => ?_)
  go_simp
  have kq39 := fun W : World => (ralike_any Sq14.out Sq18.out) W
  rw [Hb37.out] at kq39
  have Kq39 := Lib.hid kq39
  clear kq39
  with_reducible refine (Kq39.out _).mono ?_
  rintro e vq39 ⟨rfl, hbq39⟩
  have kbq39 := below_next kbq38 hbq39
  clear hS hbq39
  refine hK.out _ _ (by exact kbq39) (fun hS => ?_)
  clear hK K
  refine' take_at 42 rfl (by kernel_rfl) (by kernel_rfl) (by kernel_rfl) (fun _ _ _ h => h) (by rfl) hS ?_ ?_ ?_
  rotate_left 2
  · intro W hSW; go_simp; try with_reducible rfl
  · simp only [List.set_cons_succ, List.set_cons_zero]; rfl
  refine' take_at 43 rfl (by kernel_rfl) (by kernel_rfl) (by kernel_rfl) (fun _ _ _ h => h) (by rfl) hS ?_ ?_ ?_
  rotate_left 2
  · intro W hSW; go_simp; try with_reducible rfl
  · simp only [List.set_cons_succ, List.set_cons_zero]; rfl
  refine' take_at 44 rfl (by kernel_rfl) (by kernel_rfl) (by kernel_rfl) (fun _ _ _ h => h) (by rfl) hS ?_ ?_ ?_
  rotate_left 2
  · intro W hSW; go_simp; try with_reducible rfl
  · simp only [List.set_cons_succ, List.set_cons_zero]; rfl
  refine wpAnyH_done (by kernel_rfl) ?_ _
  refine NoPanic.normal ?_
  clear hS
  (try simp only [Act.put])
  have HRq40 := Lib.hid (HRq19.out.below kbq39)
  have HBq40 := Lib.hid (below_next HBq19.out kbq39)
  go_wp2_with fail
  go_ret
  exact ⟨rfl, HBq40.out⟩
end Go.Proofs.Ytddijcopoaeejaa

