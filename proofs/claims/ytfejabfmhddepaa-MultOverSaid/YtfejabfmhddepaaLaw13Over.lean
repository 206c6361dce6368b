/- The walk of MultOver. Written by wip/tools. -/
import Derived.Test.YtfejabfmhddepaaLaw13Help
import Derived.Test.YtfejabfmhddepaaGheld
import Derived.Test.YtfejabfmhddepaaGbyt
namespace Go.Proofs.Ytfejabfmhddepaa
open Go.RowKit
set_option linter.unusedVariables false
set_option maxRecDepth 100000

set_option maxHeartbeats 6400000 in
theorem law13Over {R : Array Value → PtD → Prop} (D : PtC R) (M : MuC R) (n : List UInt8) (hn : n.length = 32) (a : List UInt8) (ha : a.length = 32) (b : List UInt8) (hb : b.length = 32) (w : World) : Calls Try.prog 5 #[.agg (arrB n), .agg (arrB a), .agg (arrB b)] w fun e w' => e = .returned (.bool true) ∧ Below w.heap.size w w' := by
  have HAL : Hid (∀ W : World, Calls Try.prog 8 #[] W fun e w' => e = .returned (.bool true) ∧ Below W.heap.size W w') := Lib.hid (fun W => alive13_any D M W)
  obtain ⟨Z, hZ, sZ⟩ := D.base.zero
  have hz32 := zero32_zero
  have hzP := refP_zero
  have Hn := Lib.hid hn
  have Ha := Lib.hid ha
  have Hb := Lib.hid hb
  clear hn ha hb
  go_enter Try.func5, Try.ntmps5
  go_wp2_with fail
  have HR0 := Lib.hid ((((RowsW.nil w).box (arrB n) 22).box (arrB a) 22).box (arrB b) 22)
  have HB0 := Lib.hid (below_box (below_box (below_box (Below.refl w.heap.size w) (arrB n) 22) (arrB a) 22) (arrB b) 22)
  rw [World.size_alloc] at HR0
  rw [World.size_alloc] at HR0
  obtain ⟨W0, hW0⟩ : ∃ W, (((w.alloc (.cells (arrB n) 22)).alloc (.cells (arrB a) 22)).alloc (.cells (arrB b) 22)) = W := ⟨_, rfl⟩
  obtain ⟨g0, hg0⟩ : ∃ g, w.heap.size = g := ⟨_, rfl⟩
  rw [hW0] at HR0 HB0
  rw [hg0] at HR0
  rw [hW0, hg0]
  have HG0 := Lib.hid hg0
  clear hW0 hg0
  with_reducible refine (HAL.out _).mono ?_
  rintro e v1 ⟨rfl, hb1⟩
  have HR1 := Lib.hid (HR0.out.below hb1)
  have HB1 := Lib.hid (below_next HB0.out hb1)
  clear hb1
  go_upto_region 2 with fail
  have l1 := HR1.out.tail.head
  go_wp2_with (refine wpList_load_row rfl 22 (.tmp 4) rfl (g0 + 1) rfl 22 (arrB a) (0, 0) _ l1 Try.underlying22 rfl (arr32_info Ha.out) ?_)
  obtain ⟨p2, hp2⟩ : ∃ y_ : PtD, atP a = y_ := ⟨_, rfl⟩
  have Hp2 := Lib.hid hp2
  clear hp2
  with_reducible refine ((at13_any D a Ha.out) _).mono ?_
  rintro e vq3 ⟨cq3, rfl, rq3, hbq3⟩
  rw [Hp2.out] at rq3
  have Rq3 := Lib.hid rq3
  clear rq3
  have HRq3 := Lib.hid (HR1.out.below hbq3)
  have HBq3 := Lib.hid (below_next HB1.out hbq3)
  clear hbq3
  have h0q4 : (vq3.alloc (.cells Z 28)).heap[vq3.heap.size]? = some (.cells Z 28 (0, 0)) := heap_alloc_new _ _
  have HRq4 := Lib.hid (HRq3.out.new Z cq3 28)
  have HBq4 := Lib.hid (below_new HBq3.out Z cq3 28)
  have HNq4 := Lib.hid HRq3.out.ne
  have HGq4 := Lib.hid HBq3.out.size
  go_upto_region 3 with (refine wpList_store_row rfl 28 (.tmp 8) (.tmp 12) rfl vq3.heap.size cq3 rfl rfl 28 Z h0q4 (D.base.info Rq3.out) (sZ Rq3.out) (D.base.one Rq3.out) ?_)
  obtain ⟨Wq4, hWq4⟩ : ∃ W, (vq3.alloc (.cells Z 28)).setRow vq3.heap.size cq3 = W := ⟨_, rfl⟩
  obtain ⟨gq4, hgq4⟩ : ∃ g, vq3.heap.size = g := ⟨_, rfl⟩
  rw [hWq4, hgq4] at HRq4
  rw [hWq4] at HBq4
  rw [hgq4] at HNq4 HGq4
  rw [hWq4, hgq4]
  clear hWq4 hgq4 h0q4
  have NEq4_0 : Hid (g0 ≠ gq4) := Lib.hid (HNq4.out (g0, (arrB n), 22) (by simp))
  have NEq4_1 : Hid ((g0 + 1) ≠ gq4) := Lib.hid (HNq4.out ((g0 + 1), (arrB a), 22) (by simp))
  have NEq4_2 : Hid ((g0 + 1 + 1) ≠ gq4) := Lib.hid (HNq4.out ((g0 + 1 + 1), (arrB b), 22) (by simp))
  have l5 := HRq4.out.tail.head
  go_wp2_with (refine wpList_load_row rfl 22 (.tmp 5) rfl (g0 + 1 + 1) rfl 22 (arrB b) (0, 0) _ l5 Try.underlying22 rfl (arr32_info Hb.out) ?_)
  obtain ⟨p6, hp6⟩ : ∃ y_ : PtD, atP b = y_ := ⟨_, rfl⟩
  have Hp6 := Lib.hid hp6
  clear hp6
  with_reducible refine ((at13_any D b Hb.out) _).mono ?_
  rintro e vq7 ⟨cq7, rfl, rq7, hbq7⟩
  rw [Hp6.out] at rq7
  have Rq7 := Lib.hid rq7
  clear rq7
  have HRq7 := Lib.hid (HRq4.out.below hbq7)
  have HBq7 := Lib.hid (below_next HBq4.out hbq7)
  clear hbq7
  have h0q8 : (vq7.alloc (.cells Z 28)).heap[vq7.heap.size]? = some (.cells Z 28 (0, 0)) := heap_alloc_new _ _
  have HRq8 := Lib.hid (HRq7.out.new Z cq7 28)
  have HBq8 := Lib.hid (below_new HBq7.out Z cq7 28)
  have HNq8 := Lib.hid HRq7.out.ne
  have HGq8 := Lib.hid HBq7.out.size
  go_upto_region 4 with (refine wpList_store_row rfl 28 (.tmp 9) (.tmp 14) rfl vq7.heap.size cq7 rfl rfl 28 Z h0q8 (D.base.info Rq7.out) (sZ Rq7.out) (D.base.one Rq7.out) ?_)
  obtain ⟨Wq8, hWq8⟩ : ∃ W, (vq7.alloc (.cells Z 28)).setRow vq7.heap.size cq7 = W := ⟨_, rfl⟩
  obtain ⟨gq8, hgq8⟩ : ∃ g, vq7.heap.size = g := ⟨_, rfl⟩
  rw [hWq8, hgq8] at HRq8
  rw [hWq8] at HBq8
  rw [hgq8] at HNq8 HGq8
  rw [hWq8, hgq8]
  clear hWq8 hgq8 h0q8
  have NEq8_0 : Hid (g0 ≠ gq8) := Lib.hid (HNq8.out (g0, (arrB n), 22) (by simp))
  have NEq8_1 : Hid ((g0 + 1) ≠ gq8) := Lib.hid (HNq8.out ((g0 + 1), (arrB a), 22) (by simp))
  have NEq8_2 : Hid ((g0 + 1 + 1) ≠ gq8) := Lib.hid (HNq8.out ((g0 + 1 + 1), (arrB b), 22) (by simp))
  have NEq8_3 : Hid (gq4 ≠ gq8) := Lib.hid (HNq8.out (gq4, cq3, 28) (by simp))
  refine wp_region_noPanic ?_
  refine wp_region_held_drew (S := fun W => Below Wq8.heap.size Wq8 W) (by kernel_rfl) (by exact (Below.refl _ _).drew) (fun hS => ?_)
  refine' take_at 0 rfl (by kernel_rfl) (by kernel_rfl) (by kernel_rfl) (fun _ _ _ h => h) (by rfl) hS ?_ ?_ ?_
  rotate_left 2
  · intro W hSW; go_simp; try with_reducible rfl
  · simp only [List.set_cons_succ, List.set_cons_zero]; rfl
  refine' take_at 1 rfl (by kernel_rfl) (by kernel_rfl) (by kernel_rfl) (fun _ _ _ h => h) (by rfl) hS ?_ ?_ ?_
  rotate_left 2
  · intro W hSW; go_simp; try with_reducible rfl
  · simp only [List.set_cons_succ, List.set_cons_zero]; rfl
  refine' take_at 2 rfl (by kernel_rfl) (by kernel_rfl) (by kernel_rfl) (fun _ _ _ h => h) (by rfl) hS ?_ ?_ ?_
  rotate_left 2
  · intro W hSW; exact run_loadR rfl rfl (HRq8.out.below hSW).tail.tail.tail.tail.head Try.underlying22 rfl (arr32_info Hn.out)
  · simp only [List.set_cons_succ, List.set_cons_zero]; rfl
  refine' take_at 3 rfl (by kernel_rfl) (by kernel_rfl) (by kernel_rfl) (fun _ _ _ h => h) (by rfl) hS ?_ ?_ ?_
  rotate_left 2
  · intro W hSW; exact run_loadR rfl rfl (HRq8.out.below hSW).tail.head Try.underlying28 rfl (D.base.info Rq3.out)
  · simp only [List.set_cons_succ, List.set_cons_zero]; rfl
  refine' take_at 4 rfl (by kernel_rfl) (by kernel_rfl) (by kernel_rfl) (fun _ _ _ h => h) (by rfl) hS ?_ ?_ ?_
  rotate_left 2
  · intro W hSW; exact run_loadR rfl rfl (HRq8.out.below hSW).head Try.underlying28 rfl (D.base.info Rq7.out)
  · simp only [List.set_cons_succ, List.set_cons_zero]; rfl
  refine' take_at 7 rfl (by kernel_rfl) (by kernel_rfl) (by kernel_rfl) (fun _ _ _ h => h) (by rfl) hS ?_ ?_ ?_
  rotate_left 2
  · intro W hSW; exact run_loadR rfl rfl (HRq8.out.below hSW).tail.tail.tail.tail.head Try.underlying22 rfl (arr32_info Hn.out)
  · simp only [List.set_cons_succ, List.set_cons_zero]; rfl
  refine' take_at 8 rfl (by kernel_rfl) (by kernel_rfl) (by kernel_rfl) (fun _ _ _ h => h) (by rfl) hS ?_ ?_ ?_
  rotate_left 2
  · intro W hSW; exact run_loadR rfl rfl (HRq8.out.below hSW).tail.head Try.underlying28 rfl (D.base.info Rq3.out)
  · simp only [List.set_cons_succ, List.set_cons_zero]; rfl
  refine' take_at 10 rfl (by kernel_rfl) (by kernel_rfl) (by kernel_rfl) (fun _ _ _ h => h) (by rfl) hS ?_ ?_ ?_
  rotate_left 2
  · intro W hSW; exact run_loadR rfl rfl (HRq8.out.below hSW).tail.tail.tail.tail.head Try.underlying22 rfl (arr32_info Hn.out)
  · simp only [List.set_cons_succ, List.set_cons_zero]; rfl
  refine' take_at 11 rfl (by kernel_rfl) (by kernel_rfl) (by kernel_rfl) (fun _ _ _ h => h) (by rfl) hS ?_ ?_ ?_
  rotate_left 2
  · intro W hSW; exact run_loadR rfl rfl (HRq8.out.below hSW).head Try.underlying28 rfl (D.base.info Rq7.out)
  · simp only [List.set_cons_succ, List.set_cons_zero]; rfl
  refine call_at 5 rfl (by kernel_rfl) (by rfl) (fun K hK => ?_)
  go_simp
  obtain ⟨p9, hp9⟩ : ∃ y_ : PtD, padd p2 p6 = y_ := ⟨_, rfl⟩
  have Hp9 := Lib.hid hp9
  clear hp9
  with_reducible refine ((D.add Rq3.out Rq7.out) _).mono ?_
  rintro e vq10 ⟨cq10, rfl, rq10, hbq10⟩
  rw [Hp9.out] at rq10
  have Rq10 := Lib.hid rq10
  clear rq10
  have kbq10 := below_next hS hbq10
  clear hS hbq10
  refine hK.out _ _ (by exact kbq10) (fun hS => ?_)
  clear hK K
  refine call_at 6 rfl (by kernel_rfl) (by rfl) (fun K hK => ?_)
  go_simp
  obtain ⟨p11, hp11⟩ : ∃ y_ : PtD, pmul (leN n) p9 = y_ := ⟨_, rfl⟩
  have Hp11 := Lib.hid hp11
  clear hp11
  with_reducible refine ((M.mult n Hn.out Rq10.out) _).mono ?_
  rintro e vq12 ⟨cq12, rfl, rq12, hbq12⟩
  rw [Hp11.out] at rq12
  have Rq12 := Lib.hid rq12
  clear rq12
  have kbq12 := below_next kbq10 hbq12
  clear hS hbq12
  refine hK.out _ _ (by exact kbq12) (fun hS => ?_)
  clear hK K
  refine call_at 9 rfl (by kernel_rfl) (by rfl) (fun K hK => ?_)
  go_simp
  obtain ⟨p13, hp13⟩ : ∃ y_ : PtD, pmul (leN n) p2 = y_ := ⟨_, rfl⟩
  have Hp13 := Lib.hid hp13
  clear hp13
  with_reducible refine ((M.mult n Hn.out Rq3.out) _).mono ?_
  rintro e vq14 ⟨cq14, rfl, rq14, hbq14⟩
  rw [Hp13.out] at rq14
  have Rq14 := Lib.hid rq14
  clear rq14
  have kbq14 := below_next kbq12 hbq14
  clear hS hbq14
  refine hK.out _ _ (by exact kbq14) (fun hS => ?_)
  clear hK K
  refine call_at 12 rfl (by kernel_rfl) (by rfl) (fun K hK => ?_)
  go_simp
  obtain ⟨p15, hp15⟩ : ∃ y_ : PtD, pmul (leN n) p6 = y_ := ⟨_, rfl⟩
  have Hp15 := Lib.hid hp15
  clear hp15
  with_reducible refine ((M.mult n Hn.out Rq7.out) _).mono ?_
  rintro e vq16 ⟨cq16, rfl, rq16, hbq16⟩
  rw [Hp15.out] at rq16
  have Rq16 := Lib.hid rq16
  clear rq16
  have kbq16 := below_next kbq14 hbq16
  clear hS hbq16
  refine hK.out _ _ (by exact kbq16) (fun hS => ?_)
  clear hK K
  refine call_at 13 rfl (by kernel_rfl) (by rfl) (fun K hK => ?_)
  go_simp
  obtain ⟨p17, hp17⟩ : ∃ y_ : PtD, padd p13 p15 = y_ := ⟨_, rfl⟩
  have Hp17 := Lib.hid hp17
  clear hp17
  with_reducible refine ((D.add Rq14.out Rq16.out) _).mono ?_
  rintro e vq18 ⟨cq18, rfl, rq18, hbq18⟩
  rw [Hp17.out] at rq18
  have Rq18 := Lib.hid rq18
  clear rq18
  have kbq18 := below_next kbq16 hbq18
  clear hS hbq18
  refine hK.out _ _ (by exact kbq18) (fun hS => ?_)
  clear hK K
  refine call_at 14 rfl (by kernel_rfl) (by rfl) (fun K hK => ?_)
  go_simp
  have kq19 := fun W : World => (D.equal Rq12.out Rq18.out) W
  rw [show ptEq p11 p17 = true from (ptEq_iff.2 (by rw [← Hp11.out, ← Hp9.out, ← Hp17.out, ← Hp13.out, ← Hp15.out]; exact pmul_padd _ _ _))] at kq19
  have Kq19 := Lib.hid kq19
  clear kq19
  with_reducible refine (Kq19.out _).mono ?_
  rintro e vq19 ⟨rfl, hbq19⟩
  have kbq19 := below_next kbq18 hbq19
  clear hS hbq19
  refine hK.out _ _ (by exact kbq19) (fun hS => ?_)
  clear hK K
  refine' take_at 15 rfl (by kernel_rfl) (by kernel_rfl) (by kernel_rfl) (fun _ _ _ h => h) (by rfl) hS ?_ ?_ ?_
  rotate_left 2
  · intro W hSW; go_simp; try with_reducible rfl
  · simp only [List.set_cons_succ, List.set_cons_zero]; rfl
  refine' take_at 16 rfl (by kernel_rfl) (by kernel_rfl) (by kernel_rfl) (fun _ _ _ h => h) (by rfl) hS ?_ ?_ ?_
  rotate_left 2
  · intro W hSW; go_simp; try with_reducible rfl
  · simp only [List.set_cons_succ, List.set_cons_zero]; rfl
  refine' take_at 17 rfl (by kernel_rfl) (by kernel_rfl) (by kernel_rfl) (fun _ _ _ h => h) (by rfl) hS ?_ ?_ ?_
  rotate_left 2
  · intro W hSW; exact run_loadR rfl rfl (HRq8.out.below hSW).tail.tail.tail.tail.head Try.underlying22 rfl (arr32_info Hn.out)
  · simp only [List.set_cons_succ, List.set_cons_zero]; rfl
  refine' take_at 18 rfl (by kernel_rfl) (by kernel_rfl) (by kernel_rfl) (fun _ _ _ h => h) (by rfl) hS ?_ ?_ ?_
  rotate_left 2
  · intro W hSW; exact run_loadR rfl rfl (HRq8.out.below hSW).tail.head Try.underlying28 rfl (D.base.info Rq3.out)
  · simp only [List.set_cons_succ, List.set_cons_zero]; rfl
  refine' take_at 21 rfl (by kernel_rfl) (by kernel_rfl) (by kernel_rfl) (fun _ _ _ h => h) (by rfl) hS ?_ ?_ ?_
  rotate_left 2
  · intro W hSW; exact run_loadR rfl rfl (HRq8.out.below hSW).tail.tail.tail.tail.head Try.underlying22 rfl (arr32_info Hn.out)
  · simp only [List.set_cons_succ, List.set_cons_zero]; rfl
  refine' take_at 22 rfl (by kernel_rfl) (by kernel_rfl) (by kernel_rfl) (fun _ _ _ h => h) (by rfl) hS ?_ ?_ ?_
  rotate_left 2
  · intro W hSW; exact run_loadR rfl rfl (HRq8.out.below hSW).tail.head Try.underlying28 rfl (D.base.info Rq3.out)
  · simp only [List.set_cons_succ, List.set_cons_zero]; rfl
  refine call_at 19 rfl (by kernel_rfl) (by rfl) (fun K hK => ?_)
  go_simp
  obtain ⟨p20, hp20⟩ : ∃ y_ : PtD, Ed.Pt.neg p2 = y_ := ⟨_, rfl⟩
  have Hp20 := Lib.hid hp20
  clear hp20
  with_reducible refine ((D.neg Rq3.out) _).mono ?_
  rintro e vq21 ⟨cq21, rfl, rq21, hbq21⟩
  rw [Hp20.out] at rq21
  have Rq21 := Lib.hid rq21
  clear rq21
  have kbq21 := below_next kbq19 hbq21
  clear hS hbq21
  refine hK.out _ _ (by exact kbq21) (fun hS => ?_)
  clear hK K
  refine call_at 20 rfl (by kernel_rfl) (by rfl) (fun K hK => ?_)
  go_simp
  obtain ⟨p22, hp22⟩ : ∃ y_ : PtD, pmul (leN n) p20 = y_ := ⟨_, rfl⟩
  have Hp22 := Lib.hid hp22
  clear hp22
  with_reducible refine ((M.mult n Hn.out Rq21.out) _).mono ?_
  rintro e vq23 ⟨cq23, rfl, rq23, hbq23⟩
  rw [Hp22.out] at rq23
  have Rq23 := Lib.hid rq23
  clear rq23
  have kbq23 := below_next kbq21 hbq23
  clear hS hbq23
  refine hK.out _ _ (by exact kbq23) (fun hS => ?_)
  clear hK K
  refine call_at 23 rfl (by kernel_rfl) (by rfl) (fun K hK => ?_)
  go_simp
  with_reducible refine ((M.mult n Hn.out Rq3.out) _).mono ?_
  rintro e vq24 ⟨cq24, rfl, rq24, hbq24⟩
  rw [Hp13.out] at rq24
  have Rq24 := Lib.hid rq24
  clear rq24
  have kbq24 := below_next kbq23 hbq24
  clear hS hbq24
  refine hK.out _ _ (by exact kbq24) (fun hS => ?_)
  clear hK K
  refine call_at 24 rfl (by kernel_rfl) (by rfl) (fun K hK => ?_)
  go_simp
  obtain ⟨p25, hp25⟩ : ∃ y_ : PtD, Ed.Pt.neg p13 = y_ := ⟨_, rfl⟩
  have Hp25 := Lib.hid hp25
  clear hp25
  with_reducible refine ((D.neg Rq24.out) _).mono ?_
  rintro e vq26 ⟨cq26, rfl, rq26, hbq26⟩
  rw [Hp25.out] at rq26
  have Rq26 := Lib.hid rq26
  clear rq26
  have kbq26 := below_next kbq24 hbq26
  clear hS hbq26
  refine hK.out _ _ (by exact kbq26) (fun hS => ?_)
  clear hK K
  refine call_at 25 rfl (by kernel_rfl) (by rfl) (fun K hK => ?_)
  go_simp
  have kq27 := fun W : World => (D.equal Rq23.out Rq26.out) W
  rw [show ptEq p22 p25 = true from (ptEq_iff.2 (by rw [← Hp22.out, ← Hp20.out, ← Hp25.out, ← Hp13.out]; exact pmul_neg _ _))] at kq27
  have Kq27 := Lib.hid kq27
  clear kq27
  with_reducible refine (Kq27.out _).mono ?_
  rintro e vq27 ⟨rfl, hbq27⟩
  have kbq27 := below_next kbq26 hbq27
  clear hS hbq27
  refine hK.out _ _ (by exact kbq27) (fun hS => ?_)
  clear hK K
  refine' take_at 26 rfl (by kernel_rfl) (by kernel_rfl) (by kernel_rfl) (fun _ _ _ h => h) (by rfl) hS ?_ ?_ ?_
  rotate_left 2
  · intro W hSW; go_simp; try with_reducible rfl
  · simp only [List.set_cons_succ, List.set_cons_zero]; rfl
  refine' take_at 27 rfl (by kernel_rfl) (by kernel_rfl) (by kernel_rfl) (fun _ _ _ h => h) (by rfl) hS ?_ ?_ ?_
  rotate_left 2
  · intro W hSW; go_simp; try with_reducible rfl
  · simp only [List.set_cons_succ, List.set_cons_zero]; rfl
  refine' take_at 28 rfl (by kernel_rfl) (by kernel_rfl) (by kernel_rfl) (fun _ _ _ h => h) (by rfl) hS ?_ ?_ ?_
  rotate_left 2
  · intro W hSW; exact run_emp rfl W
  · simp only [List.set_cons_succ, List.set_cons_zero]; rfl
  refine' take_at 29 rfl (by kernel_rfl) (by kernel_rfl) (by kernel_rfl) (fun _ _ _ h => h) (by rfl) hS ?_ ?_ ?_
  rotate_left 2
  · intro W hSW; exact run_loadR rfl rfl (HRq8.out.below hSW).tail.head Try.underlying28 rfl (D.base.info Rq3.out)
  · simp only [List.set_cons_succ, List.set_cons_zero]; rfl
  refine call_at 30 rfl (by kernel_rfl) (by rfl) (fun K hK => ?_)
  go_simp
  obtain ⟨p28, hp28⟩ : ∃ y_ : PtD, pmul (0) p2 = y_ := ⟨_, rfl⟩
  have Hp28 := Lib.hid hp28
  clear hp28
  have o45 : ∀ W : World, Calls Try.prog 12 #[.agg (bytT 0), .agg cq3] W (RetPt R W (pmul (0) p2)) := fun W => by have h := (M.mult (leB 32 0) (leB_len 32 0) Rq3.out) W; rw [leN_leB 32 0 (by decide)] at h; exact h
  with_reducible refine ((fun W => o45 W) _).mono ?_
  rintro e vq29 ⟨cq29, rfl, rq29, hbq29⟩
  rw [Hp28.out] at rq29
  have Rq29 := Lib.hid rq29
  clear rq29
  have kbq29 := below_next kbq27 hbq29
  clear hS hbq29
  refine hK.out _ _ (by exact kbq29) (fun hS => ?_)
  clear hK K
  refine call_at 31 rfl (by kernel_rfl) (by rfl) (fun K hK => ?_)
  go_simp
  with_reducible refine ((fun W => D.zero W) _).mono ?_
  rintro e vq30 ⟨cq30, rfl, rq30, hbq30⟩
  have Rq30 := Lib.hid rq30
  clear rq30
  have kbq30 := below_next kbq29 hbq30
  clear hS hbq30
  refine hK.out _ _ (by exact kbq30) (fun hS => ?_)
  clear hK K
  refine call_at 32 rfl (by kernel_rfl) (by rfl) (fun K hK => ?_)
  go_simp
  have kq31 := fun W : World => (D.equal Rq29.out Rq30.out) W
  rw [show ptEq p28 pzero = true from (ptEq_iff.2 (by rw [← Hp28.out]; exact pmul_zero _))] at kq31
  have Kq31 := Lib.hid kq31
  clear kq31
  with_reducible refine (Kq31.out _).mono ?_
  rintro e vq31 ⟨rfl, hbq31⟩
  have kbq31 := below_next kbq30 hbq31
  clear hS hbq31
  refine hK.out _ _ (by exact kbq31) (fun hS => ?_)
  clear hK K
  refine' take_at 33 rfl (by kernel_rfl) (by kernel_rfl) (by kernel_rfl) (fun _ _ _ h => h) (by rfl) hS ?_ ?_ ?_
  rotate_left 2
  · intro W hSW; go_simp; try with_reducible rfl
  · simp only [List.set_cons_succ, List.set_cons_zero]; rfl
  refine' take_at 34 rfl (by kernel_rfl) (by kernel_rfl) (by kernel_rfl) (fun _ _ _ h => h) (by rfl) hS ?_ ?_ ?_
  rotate_left 2
  · intro W hSW; go_simp; try with_reducible rfl
  · simp only [List.set_cons_succ, List.set_cons_zero]; rfl
  refine wpAnyH_done (by kernel_rfl) ?_ _
  refine NoPanic.normal ?_
  clear hS
  (try simp only [Act.put])
  have HRq32 := Lib.hid (HRq8.out.below kbq31)
  have HBq32 := Lib.hid (below_next HBq8.out kbq31)
  go_wp2_with fail
  go_ret
  exact ⟨rfl, HBq32.out⟩
end Go.Proofs.Ytfejabfmhddepaa

