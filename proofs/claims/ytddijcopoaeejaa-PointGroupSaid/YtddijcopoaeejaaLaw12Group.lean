/- The walk of PointGroup. Written by wip/tools. -/
import Derived.Test.YtddijcopoaeejaaLaw12At
import Derived.Test.YtddijcopoaeejaaGheld
import Derived.Test.YtddijcopoaeejaaGbyt
namespace Go.Proofs.Ytddijcopoaeejaa
open Go.RowKit
set_option linter.unusedVariables false
set_option maxRecDepth 100000

set_option maxHeartbeats 6400000 in
theorem law12Group {R : Array Value → PtD → Prop} (D : PtC R) (a : List UInt8) (ha : a.length = 32) (b : List UInt8) (hb : b.length = 32) (c : List UInt8) (hc : c.length = 32) (w : World) : Calls Try.prog 5 #[.agg (arrB a), .agg (arrB b), .agg (arrB c)] w fun e w' => e = .returned (.bool true) ∧ Below w.heap.size w w' := by
  have HAL : Hid (∀ W : World, Calls Try.prog 9 #[] W fun e w' => e = .returned (.bool true) ∧ Below W.heap.size W w') := Lib.hid (fun W => alive12_any D W)
  obtain ⟨Z, hZ, sZ⟩ := D.base.zero
  have hz32 := zero32_zero
  have hzP := refP_zero
  have Ha := Lib.hid ha
  have Hb := Lib.hid hb
  have Hc := Lib.hid hc
  clear ha hb hc
  go_enter Try.func5, Try.ntmps5
  go_wp2_with fail
  have HR0 := Lib.hid ((((RowsW.nil w).box (arrB a) 22).box (arrB b) 22).box (arrB c) 22)
  have HB0 := Lib.hid (below_box (below_box (below_box (Below.refl w.heap.size w) (arrB a) 22) (arrB b) 22) (arrB c) 22)
  rw [World.size_alloc] at HR0
  rw [World.size_alloc] at HR0
  obtain ⟨W0, hW0⟩ : ∃ W, (((w.alloc (.cells (arrB a) 22)).alloc (.cells (arrB b) 22)).alloc (.cells (arrB c) 22)) = W := ⟨_, rfl⟩
  obtain ⟨g0, hg0⟩ : ∃ g, w.heap.size = g := ⟨_, rfl⟩
  rw [hW0] at HR0 HB0
  rw [hg0] at HR0
  rw [hW0, hg0]
  have HG0 := Lib.hid hg0
  clear hW0 hg0
  with_reducible refine (HAL.out _).mono ?_
  rintro e v1 ⟨rfl, hb1⟩
  have HR1 := Lib.hid (HR0.out.below hb1)
  have HB1 := Lib.hid (below_next HB0.out hb1)
  clear hb1
  go_upto_region 2 with fail
  have l1 := HR1.out.tail.tail.head
  go_wp2_with (refine wpList_load_row rfl 22 (.tmp 3) rfl g0 rfl 22 (arrB a) (0, 0) _ l1 Try.underlying22 rfl (arr32_info Ha.out) ?_)
  obtain ⟨p2, hp2⟩ : ∃ y_ : PtD, atP a = y_ := ⟨_, rfl⟩
  have Hp2 := Lib.hid hp2
  clear hp2
  have kq3 := fun W : World => (at12_any D a Ha.out) W
  rw [Hp2.out] at kq3
  have Kq3 := Lib.hid kq3
  clear kq3
  with_reducible refine (Kq3.out _).mono ?_
  rintro e vq3 ⟨cq3, dq3, rfl, rq3, sq3, hbq3⟩
  have Rq3 := Lib.hid rq3
  have Sq3 := Lib.hid sq3
  clear rq3 sq3
  have HRq3 := Lib.hid (HR1.out.below hbq3)
  have HBq3 := Lib.hid (below_next HB1.out hbq3)
  clear hbq3
  have haq4 := heap_new2a vq3 Z (refP 0 0 0 0) 28 34
  have hbbq4 := heap_new2b vq3 Z (refP 0 0 0 0) cq3 28 34
  have HRq4 := Lib.hid (HRq3.out.new2 Z cq3 (refP 0 0 0 0) dq3 28 34)
  have HBq4 := Lib.hid (below_new2 HBq3.out Z cq3 (refP 0 0 0 0) dq3 28 34)
  go_upto_region 3 with (first
      | (refine wpList_store_row rfl 28 (.tmp 8) (.tmp 18) rfl vq3.heap.size cq3 rfl rfl 28 Z haq4 (D.base.info Rq3.out) (sZ Rq3.out) (D.base.one Rq3.out) ?_)
      | (refine wpList_store_row rfl 34 (.tmp 9) (.tmp 19) rfl (vq3.heap.size + 1) dq3 rfl rfl 34 (refP 0 0 0 0) hbbq4 (rq_info Sq3.out) (rq_z Sq3.out) (rq_one Sq3.out) ?_))
  obtain ⟨Wq4, hWq4⟩ : ∃ W, (((vq3.alloc (.cells Z 28)).alloc (.cells (refP 0 0 0 0) 34)).setRow vq3.heap.size cq3).setRow (vq3.heap.size + 1) dq3 = W := ⟨_, rfl⟩
  obtain ⟨gq4, hgq4⟩ : ∃ g, vq3.heap.size = g := ⟨_, rfl⟩
  rw [hWq4, hgq4] at HRq4
  rw [hWq4] at HBq4
  rw [hWq4, hgq4]
  clear hWq4 hgq4 haq4 hbbq4
  have l5 := HRq4.out.tail.tail.tail.head
  go_wp2_with (refine wpList_load_row rfl 22 (.tmp 4) rfl (g0 + 1) rfl 22 (arrB b) (0, 0) _ l5 Try.underlying22 rfl (arr32_info Hb.out) ?_)
  obtain ⟨p6, hp6⟩ : ∃ y_ : PtD, atP b = y_ := ⟨_, rfl⟩
  have Hp6 := Lib.hid hp6
  clear hp6
  have kq7 := fun W : World => (at12_any D b Hb.out) W
  rw [Hp6.out] at kq7
  have Kq7 := Lib.hid kq7
  clear kq7
  with_reducible refine (Kq7.out _).mono ?_
  rintro e vq7 ⟨cq7, dq7, rfl, rq7, sq7, hbq7⟩
  have Rq7 := Lib.hid rq7
  have Sq7 := Lib.hid sq7
  clear rq7 sq7
  have HRq7 := Lib.hid (HRq4.out.below hbq7)
  have HBq7 := Lib.hid (below_next HBq4.out hbq7)
  clear hbq7
  have haq8 := heap_new2a vq7 Z (refP 0 0 0 0) 28 34
  have hbbq8 := heap_new2b vq7 Z (refP 0 0 0 0) cq7 28 34
  have HRq8 := Lib.hid (HRq7.out.new2 Z cq7 (refP 0 0 0 0) dq7 28 34)
  have HBq8 := Lib.hid (below_new2 HBq7.out Z cq7 (refP 0 0 0 0) dq7 28 34)
  go_upto_region 4 with (first
      | (refine wpList_store_row rfl 28 (.tmp 10) (.tmp 23) rfl vq7.heap.size cq7 rfl rfl 28 Z haq8 (D.base.info Rq7.out) (sZ Rq7.out) (D.base.one Rq7.out) ?_)
      | (refine wpList_store_row rfl 34 (.tmp 11) (.tmp 24) rfl (vq7.heap.size + 1) dq7 rfl rfl 34 (refP 0 0 0 0) hbbq8 (rq_info Sq7.out) (rq_z Sq7.out) (rq_one Sq7.out) ?_))
  obtain ⟨Wq8, hWq8⟩ : ∃ W, (((vq7.alloc (.cells Z 28)).alloc (.cells (refP 0 0 0 0) 34)).setRow vq7.heap.size cq7).setRow (vq7.heap.size + 1) dq7 = W := ⟨_, rfl⟩
  obtain ⟨gq8, hgq8⟩ : ∃ g, vq7.heap.size = g := ⟨_, rfl⟩
  rw [hWq8, hgq8] at HRq8
  rw [hWq8] at HBq8
  rw [hWq8, hgq8]
  clear hWq8 hgq8 haq8 hbbq8
  have l9 := HRq8.out.tail.tail.tail.tail.head
  go_wp2_with (refine wpList_load_row rfl 22 (.tmp 5) rfl (g0 + 1 + 1) rfl 22 (arrB c) (0, 0) _ l9 Try.underlying22 rfl (arr32_info Hc.out) ?_)
  obtain ⟨p10, hp10⟩ : ∃ y_ : PtD, atP c = y_ := ⟨_, rfl⟩
  have Hp10 := Lib.hid hp10
  clear hp10
  have kq11 := fun W : World => (at12_any D c Hc.out) W
  rw [Hp10.out] at kq11
  have Kq11 := Lib.hid kq11
  clear kq11
  with_reducible refine (Kq11.out _).mono ?_
  rintro e vq11 ⟨cq11, dq11, rfl, rq11, sq11, hbq11⟩
  have Rq11 := Lib.hid rq11
  have Sq11 := Lib.hid sq11
  clear rq11 sq11
  have HRq11 := Lib.hid (HRq8.out.below hbq11)
  have HBq11 := Lib.hid (below_next HBq8.out hbq11)
  clear hbq11
  have haq12 := heap_new2a vq11 Z (refP 0 0 0 0) 28 34
  have hbbq12 := heap_new2b vq11 Z (refP 0 0 0 0) cq11 28 34
  have HRq12 := Lib.hid (HRq11.out.new2 Z cq11 (refP 0 0 0 0) dq11 28 34)
  have HBq12 := Lib.hid (below_new2 HBq11.out Z cq11 (refP 0 0 0 0) dq11 28 34)
  go_upto_region 5 with (first
      | (refine wpList_store_row rfl 28 (.tmp 12) (.tmp 28) rfl vq11.heap.size cq11 rfl rfl 28 Z haq12 (D.base.info Rq11.out) (sZ Rq11.out) (D.base.one Rq11.out) ?_)
      | (refine wpList_store_row rfl 34 (.tmp 13) (.tmp 29) rfl (vq11.heap.size + 1) dq11 rfl rfl 34 (refP 0 0 0 0) hbbq12 (rq_info Sq11.out) (rq_z Sq11.out) (rq_one Sq11.out) ?_))
  obtain ⟨Wq12, hWq12⟩ : ∃ W, (((vq11.alloc (.cells Z 28)).alloc (.cells (refP 0 0 0 0) 34)).setRow vq11.heap.size cq11).setRow (vq11.heap.size + 1) dq11 = W := ⟨_, rfl⟩
  obtain ⟨gq12, hgq12⟩ : ∃ g, vq11.heap.size = g := ⟨_, rfl⟩
  rw [hWq12, hgq12] at HRq12
  rw [hWq12] at HBq12
  rw [hWq12, hgq12]
  clear hWq12 hgq12 haq12 hbbq12
  refine wp_region_noPanic ?_
  refine wp_region_held_drew (S := fun W => Below Wq12.heap.size Wq12 W) (by kernel_rfl) (by exact (Below.refl _ _).drew) (fun hS => ?_)
  refine' take_at 0 rfl (by kernel_rfl) (by kernel_rfl) (by kernel_rfl) (fun _ _ _ h => h) (by rfl) hS ?_ ?_ ?_
  rotate_left 2
  · intro W hSW; go_simp; try with_reducible rfl
  · simp only [List.set_cons_succ, List.set_cons_zero]; rfl
  refine' take_at 1 rfl (by kernel_rfl) (by kernel_rfl) (by kernel_rfl) (fun _ _ _ h => h) (by rfl) hS ?_ ?_ ?_
  rotate_left 2
  · intro W hSW; go_simp; try with_reducible rfl
  · simp only [List.set_cons_succ, List.set_cons_zero]; rfl
  refine' take_at 2 rfl (by kernel_rfl) (by kernel_rfl) (by kernel_rfl) (fun _ _ _ h => h) (by rfl) hS ?_ ?_ ?_
  rotate_left 2
  · intro W hSW; exact run_loadR rfl rfl (HRq12.out.below hSW).tail.tail.tail.tail.tail.head Try.underlying28 rfl (D.base.info Rq3.out)
  · simp only [List.set_cons_succ, List.set_cons_zero]; rfl
  refine' take_at 3 rfl (by kernel_rfl) (by kernel_rfl) (by kernel_rfl) (fun _ _ _ h => h) (by rfl) hS ?_ ?_ ?_
  rotate_left 2
  · intro W hSW; exact run_loadR rfl rfl (HRq12.out.below hSW).tail.tail.tail.head Try.underlying28 rfl (D.base.info Rq7.out)
  · simp only [List.set_cons_succ, List.set_cons_zero]; rfl
  refine' take_at 5 rfl (by kernel_rfl) (by kernel_rfl) (by kernel_rfl) (fun _ _ _ h => h) (by rfl) hS ?_ ?_ ?_
  rotate_left 2
  · intro W hSW; exact run_loadR rfl rfl (HRq12.out.below hSW).tail.tail.tail.head Try.underlying28 rfl (D.base.info Rq7.out)
  · simp only [List.set_cons_succ, List.set_cons_zero]; rfl
  refine' take_at 6 rfl (by kernel_rfl) (by kernel_rfl) (by kernel_rfl) (fun _ _ _ h => h) (by rfl) hS ?_ ?_ ?_
  rotate_left 2
  · intro W hSW; exact run_loadR rfl rfl (HRq12.out.below hSW).tail.tail.tail.tail.tail.head Try.underlying28 rfl (D.base.info Rq3.out)
  · simp only [List.set_cons_succ, List.set_cons_zero]; rfl
  refine call_at 4 rfl (by kernel_rfl) (by rfl) (fun K hK => ?_)
  go_simp
  obtain ⟨p13, hp13⟩ : ∃ y_ : PtD, padd p2 p6 = y_ := ⟨_, rfl⟩
  have Hp13 := Lib.hid hp13
  clear hp13
  with_reducible refine ((D.add Rq3.out Rq7.out) _).mono ?_
  rintro e vq14 ⟨cq14, rfl, rq14, hbq14⟩
  rw [Hp13.out] at rq14
  have Rq14 := Lib.hid rq14
  clear rq14
  have kbq14 := below_next hS hbq14
  clear hS hbq14
  refine hK.out _ _ (by exact kbq14) (fun hS => ?_)
  clear hK K
  refine call_at 7 rfl (by kernel_rfl) (by rfl) (fun K hK => ?_)
  go_simp
  obtain ⟨p15, hp15⟩ : ∃ y_ : PtD, padd p6 p2 = y_ := ⟨_, rfl⟩
  have Hp15 := Lib.hid hp15
  clear hp15
  with_reducible refine ((D.add Rq7.out Rq3.out) _).mono ?_
  rintro e vq16 ⟨cq16, rfl, rq16, hbq16⟩
  rw [Hp15.out] at rq16
  have Rq16 := Lib.hid rq16
  clear rq16
  have kbq16 := below_next kbq14 hbq16
  clear hS hbq16
  refine hK.out _ _ (by exact kbq16) (fun hS => ?_)
  clear hK K
  refine call_at 8 rfl (by kernel_rfl) (by rfl) (fun K hK => ?_)
  go_simp
  have kq17 := fun W : World => (D.equal Rq14.out Rq16.out) W
  rw [show ptEq p13 p15 = true from (ptEq_iff.2 (by rw [← Hp13.out, ← Hp15.out]; exact padd_comm _ _))] at kq17
  have Kq17 := Lib.hid kq17
  clear kq17
  with_reducible refine (Kq17.out _).mono ?_
  rintro e vq17 ⟨rfl, hbq17⟩
  have kbq17 := below_next kbq16 hbq17
  clear hS hbq17
  refine hK.out _ _ (by exact kbq17) (fun hS => ?_)
  clear hK K
  refine' take_at 9 rfl (by kernel_rfl) (by kernel_rfl) (by kernel_rfl) (fun _ _ _ h => h) (by rfl) hS ?_ ?_ ?_
  rotate_left 2
  · intro W hSW; go_simp; try with_reducible rfl
  · simp only [List.set_cons_succ, List.set_cons_zero]; rfl
  refine' take_at 10 rfl (by kernel_rfl) (by kernel_rfl) (by kernel_rfl) (fun _ _ _ h => h) (by rfl) hS ?_ ?_ ?_
  rotate_left 2
  · intro W hSW; go_simp; try with_reducible rfl
  · simp only [List.set_cons_succ, List.set_cons_zero]; rfl
  refine' take_at 11 rfl (by kernel_rfl) (by kernel_rfl) (by kernel_rfl) (fun _ _ _ h => h) (by rfl) hS ?_ ?_ ?_
  rotate_left 2
  · intro W hSW; exact run_loadR rfl rfl (HRq12.out.below hSW).tail.tail.tail.tail.tail.head Try.underlying28 rfl (D.base.info Rq3.out)
  · simp only [List.set_cons_succ, List.set_cons_zero]; rfl
  refine' take_at 12 rfl (by kernel_rfl) (by kernel_rfl) (by kernel_rfl) (fun _ _ _ h => h) (by rfl) hS ?_ ?_ ?_
  rotate_left 2
  · intro W hSW; exact run_loadR rfl rfl (HRq12.out.below hSW).tail.tail.tail.head Try.underlying28 rfl (D.base.info Rq7.out)
  · simp only [List.set_cons_succ, List.set_cons_zero]; rfl
  refine' take_at 14 rfl (by kernel_rfl) (by kernel_rfl) (by kernel_rfl) (fun _ _ _ h => h) (by rfl) hS ?_ ?_ ?_
  rotate_left 2
  · intro W hSW; exact run_loadR rfl rfl (HRq12.out.below hSW).tail.head Try.underlying28 rfl (D.base.info Rq11.out)
  · simp only [List.set_cons_succ, List.set_cons_zero]; rfl
  refine' take_at 16 rfl (by kernel_rfl) (by kernel_rfl) (by kernel_rfl) (fun _ _ _ h => h) (by rfl) hS ?_ ?_ ?_
  rotate_left 2
  · intro W hSW; exact run_loadR rfl rfl (HRq12.out.below hSW).tail.tail.tail.tail.tail.head Try.underlying28 rfl (D.base.info Rq3.out)
  · simp only [List.set_cons_succ, List.set_cons_zero]; rfl
  refine' take_at 17 rfl (by kernel_rfl) (by kernel_rfl) (by kernel_rfl) (fun _ _ _ h => h) (by rfl) hS ?_ ?_ ?_
  rotate_left 2
  · intro W hSW; exact run_loadR rfl rfl (HRq12.out.below hSW).tail.tail.tail.head Try.underlying28 rfl (D.base.info Rq7.out)
  · simp only [List.set_cons_succ, List.set_cons_zero]; rfl
  refine' take_at 18 rfl (by kernel_rfl) (by kernel_rfl) (by kernel_rfl) (fun _ _ _ h => h) (by rfl) hS ?_ ?_ ?_
  rotate_left 2
  · intro W hSW; exact run_loadR rfl rfl (HRq12.out.below hSW).tail.head Try.underlying28 rfl (D.base.info Rq11.out)
  · simp only [List.set_cons_succ, List.set_cons_zero]; rfl
  refine call_at 13 rfl (by kernel_rfl) (by rfl) (fun K hK => ?_)
  go_simp
  with_reducible refine ((D.add Rq3.out Rq7.out) _).mono ?_
  rintro e vq18 ⟨cq18, rfl, rq18, hbq18⟩
  rw [Hp13.out] at rq18
  have Rq18 := Lib.hid rq18
  clear rq18
  have kbq18 := below_next kbq17 hbq18
  clear hS hbq18
  refine hK.out _ _ (by exact kbq18) (fun hS => ?_)
  clear hK K
  refine call_at 15 rfl (by kernel_rfl) (by rfl) (fun K hK => ?_)
  go_simp
  obtain ⟨p19, hp19⟩ : ∃ y_ : PtD, padd p13 p10 = y_ := ⟨_, rfl⟩
  have Hp19 := Lib.hid hp19
  clear hp19
  with_reducible refine ((D.add Rq18.out Rq11.out) _).mono ?_
  rintro e vq20 ⟨cq20, rfl, rq20, hbq20⟩
  rw [Hp19.out] at rq20
  have Rq20 := Lib.hid rq20
  clear rq20
  have kbq20 := below_next kbq18 hbq20
  clear hS hbq20
  refine hK.out _ _ (by exact kbq20) (fun hS => ?_)
  clear hK K
  refine call_at 19 rfl (by kernel_rfl) (by rfl) (fun K hK => ?_)
  go_simp
  obtain ⟨p21, hp21⟩ : ∃ y_ : PtD, padd p6 p10 = y_ := ⟨_, rfl⟩
  have Hp21 := Lib.hid hp21
  clear hp21
  with_reducible refine ((D.add Rq7.out Rq11.out) _).mono ?_
  rintro e vq22 ⟨cq22, rfl, rq22, hbq22⟩
  rw [Hp21.out] at rq22
  have Rq22 := Lib.hid rq22
  clear rq22
  have kbq22 := below_next kbq20 hbq22
  clear hS hbq22
  refine hK.out _ _ (by exact kbq22) (fun hS => ?_)
  clear hK K
  refine call_at 20 rfl (by kernel_rfl) (by rfl) (fun K hK => ?_)
  go_simp
  obtain ⟨p23, hp23⟩ : ∃ y_ : PtD, padd p2 p21 = y_ := ⟨_, rfl⟩
  have Hp23 := Lib.hid hp23
  clear hp23
  with_reducible refine ((D.add Rq3.out Rq22.out) _).mono ?_
  rintro e vq24 ⟨cq24, rfl, rq24, hbq24⟩
  rw [Hp23.out] at rq24
  have Rq24 := Lib.hid rq24
  clear rq24
  have kbq24 := below_next kbq22 hbq24
  clear hS hbq24
  refine hK.out _ _ (by exact kbq24) (fun hS => ?_)
  clear hK K
  refine call_at 21 rfl (by kernel_rfl) (by rfl) (fun K hK => ?_)
  go_simp
  have kq25 := fun W : World => (D.equal Rq20.out Rq24.out) W
  rw [show ptEq p19 p23 = true from (ptEq_iff.2 (by rw [← Hp19.out, ← Hp13.out, ← Hp23.out, ← Hp21.out]; exact padd_assoc _ _ _))] at kq25
  have Kq25 := Lib.hid kq25
  clear kq25
  with_reducible refine (Kq25.out _).mono ?_
  rintro e vq25 ⟨rfl, hbq25⟩
  have kbq25 := below_next kbq24 hbq25
  clear hS hbq25
  refine hK.out _ _ (by exact kbq25) (fun hS => ?_)
  clear hK K
  refine' take_at 22 rfl (by kernel_rfl) (by kernel_rfl) (by kernel_rfl) (fun _ _ _ h => h) (by rfl) hS ?_ ?_ ?_
  rotate_left 2
  · intro W hSW; go_simp; try with_reducible rfl
  · simp only [List.set_cons_succ, List.set_cons_zero]; rfl
  refine' take_at 23 rfl (by kernel_rfl) (by kernel_rfl) (by kernel_rfl) (fun _ _ _ h => h) (by rfl) hS ?_ ?_ ?_
  rotate_left 2
  · intro W hSW; go_simp; try with_reducible rfl
  · simp only [List.set_cons_succ, List.set_cons_zero]; rfl
  refine' take_at 24 rfl (by kernel_rfl) (by kernel_rfl) (by kernel_rfl) (fun _ _ _ h => h) (by rfl) hS ?_ ?_ ?_
  rotate_left 2
  · intro W hSW; exact run_loadR rfl rfl (HRq12.out.below hSW).tail.tail.tail.tail.tail.head Try.underlying28 rfl (D.base.info Rq3.out)
  · simp only [List.set_cons_succ, List.set_cons_zero]; rfl
  refine' take_at 27 rfl (by kernel_rfl) (by kernel_rfl) (by kernel_rfl) (fun _ _ _ h => h) (by rfl) hS ?_ ?_ ?_
  rotate_left 2
  · intro W hSW; exact run_loadR rfl rfl (HRq12.out.below hSW).tail.tail.tail.tail.tail.head Try.underlying28 rfl (D.base.info Rq3.out)
  · simp only [List.set_cons_succ, List.set_cons_zero]; rfl
  refine call_at 25 rfl (by kernel_rfl) (by rfl) (fun K hK => ?_)
  go_simp
  with_reducible refine ((fun W => D.zero W) _).mono ?_
  rintro e vq26 ⟨cq26, rfl, rq26, hbq26⟩
  have Rq26 := Lib.hid rq26
  clear rq26
  have kbq26 := below_next kbq25 hbq26
  clear hS hbq26
  refine hK.out _ _ (by exact kbq26) (fun hS => ?_)
  clear hK K
  refine call_at 26 rfl (by kernel_rfl) (by rfl) (fun K hK => ?_)
  go_simp
  obtain ⟨p27, hp27⟩ : ∃ y_ : PtD, padd p2 pzero = y_ := ⟨_, rfl⟩
  have Hp27 := Lib.hid hp27
  clear hp27
  with_reducible refine ((D.add Rq3.out Rq26.out) _).mono ?_
  rintro e vq28 ⟨cq28, rfl, rq28, hbq28⟩
  rw [Hp27.out] at rq28
  have Rq28 := Lib.hid rq28
  clear rq28
  have kbq28 := below_next kbq26 hbq28
  clear hS hbq28
  refine hK.out _ _ (by exact kbq28) (fun hS => ?_)
  clear hK K
  refine call_at 28 rfl (by kernel_rfl) (by rfl) (fun K hK => ?_)
  go_simp
  have kq29 := fun W : World => (D.equal Rq28.out Rq3.out) W
  rw [show ptEq p27 p2 = true from (ptEq_iff.2 (by rw [← Hp27.out]; exact padd_z _))] at kq29
  have Kq29 := Lib.hid kq29
  clear kq29
  with_reducible refine (Kq29.out _).mono ?_
  rintro e vq29 ⟨rfl, hbq29⟩
  have kbq29 := below_next kbq28 hbq29
  clear hS hbq29
  refine hK.out _ _ (by exact kbq29) (fun hS => ?_)
  clear hK K
  refine' take_at 29 rfl (by kernel_rfl) (by kernel_rfl) (by kernel_rfl) (fun _ _ _ h => h) (by rfl) hS ?_ ?_ ?_
  rotate_left 2
  · intro W hSW; go_simp; try with_reducible rfl
  · simp only [List.set_cons_succ, List.set_cons_zero]; rfl
  refine' take_at 30 rfl (by kernel_rfl) (by kernel_rfl) (by kernel_rfl) (fun _ _ _ h => h) (by rfl) hS ?_ ?_ ?_
  rotate_left 2
  · intro W hSW; go_simp; try with_reducible rfl
  · simp only [List.set_cons_succ, List.set_cons_zero]; rfl
  refine' take_at 31 rfl (by kernel_rfl) (by kernel_rfl) (by kernel_rfl) (fun _ _ _ h => h) (by rfl) hS ?_ ?_ ?_
  rotate_left 2
  · intro W hSW; exact run_loadR rfl rfl (HRq12.out.below hSW).tail.tail.tail.tail.tail.head Try.underlying28 rfl (D.base.info Rq3.out)
  · simp only [List.set_cons_succ, List.set_cons_zero]; rfl
  refine' take_at 32 rfl (by kernel_rfl) (by kernel_rfl) (by kernel_rfl) (fun _ _ _ h => h) (by rfl) hS ?_ ?_ ?_
  rotate_left 2
  · intro W hSW; exact run_loadR rfl rfl (HRq12.out.below hSW).tail.tail.tail.tail.tail.head Try.underlying28 rfl (D.base.info Rq3.out)
  · simp only [List.set_cons_succ, List.set_cons_zero]; rfl
  refine call_at 33 rfl (by kernel_rfl) (by rfl) (fun K hK => ?_)
  go_simp
  obtain ⟨p30, hp30⟩ : ∃ y_ : PtD, Ed.Pt.neg p2 = y_ := ⟨_, rfl⟩
  have Hp30 := Lib.hid hp30
  clear hp30
  with_reducible refine ((D.neg Rq3.out) _).mono ?_
  rintro e vq31 ⟨cq31, rfl, rq31, hbq31⟩
  rw [Hp30.out] at rq31
  have Rq31 := Lib.hid rq31
  clear rq31
  have kbq31 := below_next kbq29 hbq31
  clear hS hbq31
  refine hK.out _ _ (by exact kbq31) (fun hS => ?_)
  clear hK K
  refine call_at 34 rfl (by kernel_rfl) (by rfl) (fun K hK => ?_)
  go_simp
  obtain ⟨p32, hp32⟩ : ∃ y_ : PtD, padd p2 p30 = y_ := ⟨_, rfl⟩
  have Hp32 := Lib.hid hp32
  clear hp32
  with_reducible refine ((D.add Rq3.out Rq31.out) _).mono ?_
  rintro e vq33 ⟨cq33, rfl, rq33, hbq33⟩
  rw [Hp32.out] at rq33
  have Rq33 := Lib.hid rq33
  clear rq33
  have kbq33 := below_next kbq31 hbq33
  clear hS hbq33
  refine hK.out _ _ (by exact kbq33) (fun hS => ?_)
  clear hK K
  refine call_at 35 rfl (by kernel_rfl) (by rfl) (fun K hK => ?_)
  go_simp
  with_reducible refine ((fun W => D.zero W) _).mono ?_
  rintro e vq34 ⟨cq34, rfl, rq34, hbq34⟩
  have Rq34 := Lib.hid rq34
  clear rq34
  have kbq34 := below_next kbq33 hbq34
  clear hS hbq34
  refine hK.out _ _ (by exact kbq34) (fun hS => ?_)
  clear hK K
  refine call_at 36 rfl (by kernel_rfl) (by rfl) (fun K hK => ?_)
  go_simp
  have kq35 := fun W : World => (D.equal Rq33.out Rq34.out) W
  rw [show ptEq p32 pzero = true from (ptEq_iff.2 (by rw [← Hp32.out, ← Hp30.out]; exact padd_neg _))] at kq35
  have Kq35 := Lib.hid kq35
  clear kq35
  with_reducible refine (Kq35.out _).mono ?_
  rintro e vq35 ⟨rfl, hbq35⟩
  have kbq35 := below_next kbq34 hbq35
  clear hS hbq35
  refine hK.out _ _ (by exact kbq35) (fun hS => ?_)
  clear hK K
  refine' take_at 37 rfl (by kernel_rfl) (by kernel_rfl) (by kernel_rfl) (fun _ _ _ h => h) (by rfl) hS ?_ ?_ ?_
  rotate_left 2
  · intro W hSW; go_simp; try with_reducible rfl
  · simp only [List.set_cons_succ, List.set_cons_zero]; rfl
  refine' take_at 38 rfl (by kernel_rfl) (by kernel_rfl) (by kernel_rfl) (fun _ _ _ h => h) (by rfl) hS ?_ ?_ ?_
  rotate_left 2
  · intro W hSW; go_simp; try with_reducible rfl
  · simp only [List.set_cons_succ, List.set_cons_zero]; rfl
  refine' take_at 39 rfl (by kernel_rfl) (by kernel_rfl) (by kernel_rfl) (fun _ _ _ h => h) (by rfl) hS ?_ ?_ ?_
  rotate_left 2
  · intro W hSW; exact run_loadR rfl rfl (HRq12.out.below hSW).tail.tail.tail.tail.tail.head Try.underlying28 rfl (D.base.info Rq3.out)
  · simp only [List.set_cons_succ, List.set_cons_zero]; rfl
  refine' take_at 41 rfl (by kernel_rfl) (by kernel_rfl) (by kernel_rfl) (fun _ _ _ h => h) (by rfl) hS ?_ ?_ ?_
  rotate_left 2
  · intro W hSW; exact run_loadR rfl rfl (HRq12.out.below hSW).tail.tail.tail.tail.tail.head Try.underlying28 rfl (D.base.info Rq3.out)
  · simp only [List.set_cons_succ, List.set_cons_zero]; rfl
  refine' take_at 42 rfl (by kernel_rfl) (by kernel_rfl) (by kernel_rfl) (fun _ _ _ h => h) (by rfl) hS ?_ ?_ ?_
  rotate_left 2
  · intro W hSW; exact run_loadR rfl rfl (HRq12.out.below hSW).tail.tail.tail.tail.tail.head Try.underlying28 rfl (D.base.info Rq3.out)
  · simp only [List.set_cons_succ, List.set_cons_zero]; rfl
  refine call_at 40 rfl (by kernel_rfl) (by rfl) (fun K hK => ?_)
  go_simp
  obtain ⟨p36, hp36⟩ : ∃ y_ : PtD, padd p2 p2 = y_ := ⟨_, rfl⟩
  have Hp36 := Lib.hid hp36
  clear hp36
  with_reducible refine ((D.double Rq3.out) _).mono ?_
  rintro e vq37 ⟨cq37, rfl, rq37, hbq37⟩
  rw [Hp36.out] at rq37
  have Rq37 := Lib.hid rq37
  clear rq37
  have kbq37 := below_next kbq35 hbq37
  clear hS hbq37
  refine hK.out _ _ (by exact kbq37) (fun hS => ?_)
  clear hK K
  refine call_at 43 rfl (by kernel_rfl) (by rfl) (fun K hK => ?_)
  go_simp
  with_reducible refine ((D.add Rq3.out Rq3.out) _).mono ?_
  rintro e vq38 ⟨cq38, rfl, rq38, hbq38⟩
  rw [Hp36.out] at rq38
  have Rq38 := Lib.hid rq38
  clear rq38
  have kbq38 := below_next kbq37 hbq38
  clear hS hbq38
  refine hK.out _ _ (by exact kbq38) (fun hS => ?_)
  clear hK K
  refine call_at 44 rfl (by kernel_rfl) (by rfl) (fun K hK => ?_)
  go_simp
  have kq39 := fun W : World => (D.equal Rq37.out Rq38.out) W
  rw [ptEq_self p36] at kq39
  have Kq39 := Lib.hid kq39
  clear kq39
  with_reducible refine (Kq39.out _).mono ?_
  rintro e vq39 ⟨rfl, hbq39⟩
  have kbq39 := below_next kbq38 hbq39
  clear hS hbq39
  refine hK.out _ _ (by exact kbq39) (fun hS => ?_)
  clear hK K
  refine' take_at 45 rfl (by kernel_rfl) (by kernel_rfl) (by kernel_rfl) (fun _ _ _ h => h) (by rfl) hS ?_ ?_ ?_
  rotate_left 2
  · intro W hSW; go_simp; try with_reducible rfl
  · simp only [List.set_cons_succ, List.set_cons_zero]; rfl
  refine' take_at 46 rfl (by kernel_rfl) (by kernel_rfl) (by kernel_rfl) (fun _ _ _ h => h) (by rfl) hS ?_ ?_ ?_
  rotate_left 2
  · intro W hSW; go_simp; try with_reducible rfl
  · simp only [List.set_cons_succ, List.set_cons_zero]; rfl
  refine' take_at 47 rfl (by kernel_rfl) (by kernel_rfl) (by kernel_rfl) (fun _ _ _ h => h) (by rfl) hS ?_ ?_ ?_
  rotate_left 2
  · intro W hSW; exact run_loadR rfl rfl (HRq12.out.below hSW).tail.tail.tail.tail.tail.head Try.underlying28 rfl (D.base.info Rq3.out)
  · simp only [List.set_cons_succ, List.set_cons_zero]; rfl
  refine' take_at 50 rfl (by kernel_rfl) (by kernel_rfl) (by kernel_rfl) (fun _ _ _ h => h) (by rfl) hS ?_ ?_ ?_
  rotate_left 2
  · intro W hSW; exact run_loadR rfl rfl (HRq12.out.below hSW).tail.tail.tail.tail.tail.head Try.underlying28 rfl (D.base.info Rq3.out)
  · simp only [List.set_cons_succ, List.set_cons_zero]; rfl
  refine call_at 48 rfl (by kernel_rfl) (by rfl) (fun K hK => ?_)
  go_simp
  with_reducible refine ((D.neg Rq3.out) _).mono ?_
  rintro e vq40 ⟨cq40, rfl, rq40, hbq40⟩
  rw [Hp30.out] at rq40
  have Rq40 := Lib.hid rq40
  clear rq40
  have kbq40 := below_next kbq39 hbq40
  clear hS hbq40
  refine hK.out _ _ (by exact kbq40) (fun hS => ?_)
  clear hK K
  refine call_at 49 rfl (by kernel_rfl) (by rfl) (fun K hK => ?_)
  go_simp
  obtain ⟨p41, hp41⟩ : ∃ y_ : PtD, Ed.Pt.neg p30 = y_ := ⟨_, rfl⟩
  have Hp41 := Lib.hid hp41
  clear hp41
  with_reducible refine ((D.neg Rq40.out) _).mono ?_
  rintro e vq42 ⟨cq42, rfl, rq42, hbq42⟩
  rw [Hp41.out] at rq42
  have Rq42 := Lib.hid rq42
  clear rq42
  have kbq42 := below_next kbq40 hbq42
  clear hS hbq42
  refine hK.out _ _ (by exact kbq42) (fun hS => ?_)
  clear hK K
  refine call_at 51 rfl (by kernel_rfl) (by rfl) (fun K hK => ?_)
  go_simp
  have kq43 := fun W : World => (D.equal Rq42.out Rq3.out) W
  rw [show ptEq p41 p2 = true from (ptEq_iff.2 (by rw [← Hp41.out, ← Hp30.out]; exact pneg_neg _))] at kq43
  have Kq43 := Lib.hid kq43
  clear kq43
  with_reducible refine (Kq43.out _).mono ?_
  rintro e vq43 ⟨rfl, hbq43⟩
  have kbq43 := below_next kbq42 hbq43
  clear hS hbq43
  refine hK.out _ _ (by exact kbq43) (fun hS => ?_)
  clear hK K
  refine' take_at 52 rfl (by kernel_rfl) (by kernel_rfl) (by kernel_rfl) (fun _ _ _ h => h) (by rfl) hS ?_ ?_ ?_
  rotate_left 2
  · intro W hSW; go_simp; try with_reducible rfl
  · simp only [List.set_cons_succ, List.set_cons_zero]; rfl
  refine' take_at 53 rfl (by kernel_rfl) (by kernel_rfl) (by kernel_rfl) (fun _ _ _ h => h) (by rfl) hS ?_ ?_ ?_
  rotate_left 2
  · intro W hSW; go_simp; try with_reducible rfl
  · simp only [List.set_cons_succ, List.set_cons_zero]; rfl
  refine wpAnyH_done (by kernel_rfl) ?_ _
  refine NoPanic.normal ?_
  clear hS
  (try simp only [Act.put])
  have HRq44 := Lib.hid (HRq12.out.below kbq43)
  have HBq44 := Lib.hid (below_next HBq12.out kbq43)
  go_wp2_with fail
  go_ret
  exact ⟨rfl, HBq44.out⟩
end Go.Proofs.Ytddijcopoaeejaa

