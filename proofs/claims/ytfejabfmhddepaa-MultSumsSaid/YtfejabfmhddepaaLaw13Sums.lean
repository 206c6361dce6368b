/- The walk of MultSums. Written by wip/tools. -/
import Derived.Test.YtfejabfmhddepaaLaw13Help
import Derived.Test.YtfejabfmhddepaaGheld
import Derived.Test.YtfejabfmhddepaaGbyt
namespace Go.Proofs.Ytfejabfmhddepaa
open Go.RowKit
set_option linter.unusedVariables false
set_option maxRecDepth 100000

set_option maxHeartbeats 6400000 in
theorem law13Sums {R : Array Value → PtD → Prop} (D : PtC R) (M : MuC R) (m : List UInt8) (hm : m.length = 32) (n : List UInt8) (hn : n.length = 32) (b : List UInt8) (hb : b.length = 32) (w : World) : Calls Try.prog 4 #[.agg (arrB m), .agg (arrB n), .agg (arrB b)] w fun e w' => e = .returned (.bool true) ∧ Below w.heap.size w w' := by
  have HAL : Hid (∀ W : World, Calls Try.prog 8 #[] W fun e w' => e = .returned (.bool true) ∧ Below W.heap.size W w') := Lib.hid (fun W => alive13_any D M W)
  obtain ⟨Z, hZ, sZ⟩ := D.base.zero
  have hz32 := zero32_zero
  have hzP := refP_zero
  have Hm := Lib.hid hm
  have Hn := Lib.hid hn
  have Hb := Lib.hid hb
  clear hm hn hb
  go_enter Try.func4, Try.ntmps4
  go_wp2_with fail
  have HR0 := Lib.hid ((((RowsW.nil w).box (arrB m) 22).box (arrB n) 22).box (arrB b) 22)
  have HB0 := Lib.hid (below_box (below_box (below_box (Below.refl w.heap.size w) (arrB m) 22) (arrB n) 22) (arrB b) 22)
  rw [World.size_alloc] at HR0
  rw [World.size_alloc] at HR0
  obtain ⟨W0, hW0⟩ : ∃ W, (((w.alloc (.cells (arrB m) 22)).alloc (.cells (arrB n) 22)).alloc (.cells (arrB b) 22)) = W := ⟨_, rfl⟩
  obtain ⟨g0, hg0⟩ : ∃ g, w.heap.size = g := ⟨_, rfl⟩
  rw [hW0] at HR0 HB0
  rw [hg0] at HR0
  rw [hW0, hg0]
  have HG0 := Lib.hid hg0
  clear hW0 hg0
  with_reducible refine (HAL.out _).mono ?_
  rintro e v1 ⟨rfl, hb1⟩
  have HR1 := Lib.hid (HR0.out.below hb1)
  have HB1 := Lib.hid (below_next HB0.out hb1)
  clear hb1
  go_upto_region 2 with fail
  have l1 := HR1.out.head
  go_wp2_with (refine wpList_load_row rfl 22 (.tmp 5) rfl (g0 + 1 + 1) rfl 22 (arrB b) (0, 0) _ l1 Try.underlying22 rfl (arr32_info Hb.out) ?_)
  obtain ⟨p2, hp2⟩ : ∃ y_ : PtD, atP b = y_ := ⟨_, rfl⟩
  have Hp2 := Lib.hid hp2
  clear hp2
  with_reducible refine ((at13_any D b Hb.out) _).mono ?_
  rintro e vq3 ⟨cq3, rfl, rq3, hbq3⟩
  rw [Hp2.out] at rq3
  have Rq3 := Lib.hid rq3
  clear rq3
  have HRq3 := Lib.hid (HR1.out.below hbq3)
  have HBq3 := Lib.hid (below_next HB1.out hbq3)
  clear hbq3
  have h0q4 : (vq3.alloc (.cells Z 28)).heap[vq3.heap.size]? = some (.cells Z 28 (0, 0)) := heap_alloc_new _ _
  have HRq4 := Lib.hid (HRq3.out.new Z cq3 28)
  have HBq4 := Lib.hid (below_new HBq3.out Z cq3 28)
  have HNq4 := Lib.hid HRq3.out.ne
  have HGq4 := Lib.hid HBq3.out.size
  go_upto_region 3 with (refine wpList_store_row rfl 28 (.tmp 8) (.tmp 11) rfl vq3.heap.size cq3 rfl rfl 28 Z h0q4 (D.base.info Rq3.out) (sZ Rq3.out) (D.base.one Rq3.out) ?_)
  obtain ⟨Wq4, hWq4⟩ : ∃ W, (vq3.alloc (.cells Z 28)).setRow vq3.heap.size cq3 = W := ⟨_, rfl⟩
  obtain ⟨gq4, hgq4⟩ : ∃ g, vq3.heap.size = g := ⟨_, rfl⟩
  rw [hWq4, hgq4] at HRq4
  rw [hWq4] at HBq4
  rw [hgq4] at HNq4 HGq4
  rw [hWq4, hgq4]
  clear hWq4 hgq4 h0q4
  have NEq4_0 : Hid (g0 ≠ gq4) := Lib.hid (HNq4.out (g0, (arrB m), 22) (by simp))
  have NEq4_1 : Hid ((g0 + 1) ≠ gq4) := Lib.hid (HNq4.out ((g0 + 1), (arrB n), 22) (by simp))
  have NEq4_2 : Hid ((g0 + 1 + 1) ≠ gq4) := Lib.hid (HNq4.out ((g0 + 1 + 1), (arrB b), 22) (by simp))
  have l5 := HRq4.out.tail.tail.tail.head
  go_wp2_with (refine wpList_load_row rfl 22 (.tmp 3) rfl g0 rfl 22 (arrB m) (0, 0) _ l5 Try.underlying22 rfl (arr32_info Hm.out) ?_)
  with_reducible refine ((half13_any Hm.out) _).mono ?_
  rintro e vq6 ⟨rfl, hbq6⟩
  have HRq6 := Lib.hid (HRq4.out.below hbq6)
  have HBq6 := Lib.hid (below_next HBq4.out hbq6)
  clear hbq6
  have lsq7 := HRq6.out.tail.tail.tail.head
  have HRq7 : Hid (RowsW (vq6.setRow g0 (arrB (topC m))) [(gq4, cq3, 28), ((g0 + 1 + 1), (arrB b), 22), ((g0 + 1), (arrB n), 22), (g0, (arrB (topC m)), 22)]) := Lib.hid ⟨(by rw [setRow_other _ _ _ _ (Ne.symm NEq4_0.out)]; exact HRq6.out.head), (by rw [setRow_other _ _ _ _ (Ne.symm (by omega))]; exact HRq6.out.tail.head), (by rw [setRow_other _ _ _ _ (Ne.symm (by omega))]; exact HRq6.out.tail.tail.head), setRow_heap _ _ _ _ _ _ lsq7, trivial⟩
  have HBq7 := Lib.hid (below_row (g := g0) (cs := (arrB (topC m))) HBq6.out (by have := HG0.out; omega))
  go_upto_region 4 with (refine wpList_store_row rfl 22 (.tmp 3) (.tmp 13) rfl g0 (arrB (topC m)) rfl rfl 22 (arrB m) lsq7 (arr32_info (by rw [topC_len, Hm.out])) (by rw [arrB_size, arrB_size, topC_len]) (arrB_one _) ?_)
  obtain ⟨Wq7, hWq7⟩ : ∃ W, vq6.setRow g0 (arrB (topC m)) = W := ⟨_, rfl⟩
  rw [hWq7] at HRq7 HBq7
  (try rw [hWq7])
  clear hWq7 lsq7
  have l8 := HRq7.out.tail.tail.head
  go_wp2_with (refine wpList_load_row rfl 22 (.tmp 4) rfl (g0 + 1) rfl 22 (arrB n) (0, 0) _ l8 Try.underlying22 rfl (arr32_info Hn.out) ?_)
  with_reducible refine ((half13_any Hn.out) _).mono ?_
  rintro e vq9 ⟨rfl, hbq9⟩
  have HRq9 := Lib.hid (HRq7.out.below hbq9)
  have HBq9 := Lib.hid (below_next HBq7.out hbq9)
  clear hbq9
  have lsq10 := HRq9.out.tail.tail.head
  have HRq10 : Hid (RowsW (vq9.setRow (g0 + 1) (arrB (topC n))) [(gq4, cq3, 28), ((g0 + 1 + 1), (arrB b), 22), ((g0 + 1), (arrB (topC n)), 22), (g0, (arrB (topC m)), 22)]) := Lib.hid ⟨(by rw [setRow_other _ _ _ _ (Ne.symm NEq4_1.out)]; exact HRq9.out.head), (by rw [setRow_other _ _ _ _ (Ne.symm (by omega))]; exact HRq9.out.tail.head), setRow_heap _ _ _ _ _ _ lsq10, (by rw [setRow_other _ _ _ _ (by omega)]; exact HRq9.out.tail.tail.tail.head), trivial⟩
  have HBq10 := Lib.hid (below_row (g := (g0 + 1)) (cs := (arrB (topC n))) HBq9.out (by have := HG0.out; omega))
  go_upto_region 5 with (refine wpList_store_row rfl 22 (.tmp 4) (.tmp 15) rfl (g0 + 1) (arrB (topC n)) rfl rfl 22 (arrB n) lsq10 (arr32_info (by rw [topC_len, Hn.out])) (by rw [arrB_size, arrB_size, topC_len]) (arrB_one _) ?_)
  obtain ⟨Wq10, hWq10⟩ : ∃ W, vq9.setRow (g0 + 1) (arrB (topC n)) = W := ⟨_, rfl⟩
  rw [hWq10] at HRq10 HBq10
  (try rw [hWq10])
  clear hWq10 lsq10
  refine wp_region_noPanic ?_
  refine wp_region_held_drew (S := fun W => Below Wq10.heap.size Wq10 W) (by kernel_rfl) (by exact (Below.refl _ _).drew) (fun hS => ?_)
  refine' take_at 0 rfl (by kernel_rfl) (by kernel_rfl) (by kernel_rfl) (fun _ _ _ h => h) (by rfl) hS ?_ ?_ ?_
  rotate_left 2
  · intro W hSW; go_simp; try with_reducible rfl
  · simp only [List.set_cons_succ, List.set_cons_zero]; rfl
  refine' take_at 1 rfl (by kernel_rfl) (by kernel_rfl) (by kernel_rfl) (fun _ _ _ h => h) (by rfl) hS ?_ ?_ ?_
  rotate_left 2
  · intro W hSW; go_simp; try with_reducible rfl
  · simp only [List.set_cons_succ, List.set_cons_zero]; rfl
  refine' take_at 2 rfl (by kernel_rfl) (by kernel_rfl) (by kernel_rfl) (fun _ _ _ h => h) (by rfl) hS ?_ ?_ ?_
  rotate_left 2
  · intro W hSW; exact run_loadR rfl rfl (HRq10.out.below hSW).tail.tail.tail.head Try.underlying22 rfl (arr32_info (by rw [topC_len, Hm.out]))
  · simp only [List.set_cons_succ, List.set_cons_zero]; rfl
  refine' take_at 3 rfl (by kernel_rfl) (by kernel_rfl) (by kernel_rfl) (fun _ _ _ h => h) (by rfl) hS ?_ ?_ ?_
  rotate_left 2
  · intro W hSW; exact run_loadR rfl rfl (HRq10.out.below hSW).head Try.underlying28 rfl (D.base.info Rq3.out)
  · simp only [List.set_cons_succ, List.set_cons_zero]; rfl
  refine' take_at 5 rfl (by kernel_rfl) (by kernel_rfl) (by kernel_rfl) (fun _ _ _ h => h) (by rfl) hS ?_ ?_ ?_
  rotate_left 2
  · intro W hSW; exact run_loadR rfl rfl (HRq10.out.below hSW).tail.tail.head Try.underlying22 rfl (arr32_info (by rw [topC_len, Hn.out]))
  · simp only [List.set_cons_succ, List.set_cons_zero]; rfl
  refine' take_at 6 rfl (by kernel_rfl) (by kernel_rfl) (by kernel_rfl) (fun _ _ _ h => h) (by rfl) hS ?_ ?_ ?_
  rotate_left 2
  · intro W hSW; exact run_loadR rfl rfl (HRq10.out.below hSW).head Try.underlying28 rfl (D.base.info Rq3.out)
  · simp only [List.set_cons_succ, List.set_cons_zero]; rfl
  refine' take_at 9 rfl (by kernel_rfl) (by kernel_rfl) (by kernel_rfl) (fun _ _ _ h => h) (by rfl) hS ?_ ?_ ?_
  rotate_left 2
  · intro W hSW; exact run_loadR rfl rfl (HRq10.out.below hSW).tail.tail.tail.head Try.underlying22 rfl (arr32_info (by rw [topC_len, Hm.out]))
  · simp only [List.set_cons_succ, List.set_cons_zero]; rfl
  refine' take_at 10 rfl (by kernel_rfl) (by kernel_rfl) (by kernel_rfl) (fun _ _ _ h => h) (by rfl) hS ?_ ?_ ?_
  rotate_left 2
  · intro W hSW; exact run_loadR rfl rfl (HRq10.out.below hSW).tail.tail.head Try.underlying22 rfl (arr32_info (by rw [topC_len, Hn.out]))
  · simp only [List.set_cons_succ, List.set_cons_zero]; rfl
  refine' take_at 12 rfl (by kernel_rfl) (by kernel_rfl) (by kernel_rfl) (fun _ _ _ h => h) (by rfl) hS ?_ ?_ ?_
  rotate_left 2
  · intro W hSW; exact run_loadR rfl rfl (HRq10.out.below hSW).head Try.underlying28 rfl (D.base.info Rq3.out)
  · simp only [List.set_cons_succ, List.set_cons_zero]; rfl
  refine call_at 4 rfl (by kernel_rfl) (by rfl) (fun K hK => ?_)
  go_simp
  obtain ⟨p11, hp11⟩ : ∃ y_ : PtD, pmul (leN (topC m)) p2 = y_ := ⟨_, rfl⟩
  have Hp11 := Lib.hid hp11
  clear hp11
  with_reducible refine ((M.mult (topC m) (by rw [topC_len, Hm.out]) Rq3.out) _).mono ?_
  rintro e vq12 ⟨cq12, rfl, rq12, hbq12⟩
  rw [Hp11.out] at rq12
  have Rq12 := Lib.hid rq12
  clear rq12
  have kbq12 := below_next hS hbq12
  clear hS hbq12
  refine hK.out _ _ (by exact kbq12) (fun hS => ?_)
  clear hK K
  refine call_at 7 rfl (by kernel_rfl) (by rfl) (fun K hK => ?_)
  go_simp
  obtain ⟨p13, hp13⟩ : ∃ y_ : PtD, pmul (leN (topC n)) p2 = y_ := ⟨_, rfl⟩
  have Hp13 := Lib.hid hp13
  clear hp13
  with_reducible refine ((M.mult (topC n) (by rw [topC_len, Hn.out]) Rq3.out) _).mono ?_
  rintro e vq14 ⟨cq14, rfl, rq14, hbq14⟩
  rw [Hp13.out] at rq14
  have Rq14 := Lib.hid rq14
  clear rq14
  have kbq14 := below_next kbq12 hbq14
  clear hS hbq14
  refine hK.out _ _ (by exact kbq14) (fun hS => ?_)
  clear hK K
  refine call_at 8 rfl (by kernel_rfl) (by rfl) (fun K hK => ?_)
  go_simp
  obtain ⟨p15, hp15⟩ : ∃ y_ : PtD, padd p11 p13 = y_ := ⟨_, rfl⟩
  have Hp15 := Lib.hid hp15
  clear hp15
  with_reducible refine ((D.add Rq12.out Rq14.out) _).mono ?_
  rintro e vq16 ⟨cq16, rfl, rq16, hbq16⟩
  rw [Hp15.out] at rq16
  have Rq16 := Lib.hid rq16
  clear rq16
  have kbq16 := below_next kbq14 hbq16
  clear hS hbq16
  refine hK.out _ _ (by exact kbq16) (fun hS => ?_)
  clear hK K
  refine call_at 11 rfl (by kernel_rfl) (by rfl) (fun K hK => ?_)
  go_simp
  have o27 : ∀ W : World, Calls Try.prog 20 #[.agg (arrB (topC m)), .agg (arrB (topC n))] W (RetV W (.agg (bytT (leN (topC m) + leN (topC n))))) := fun W => by have h := (plus13_any (by rw [topC_len, Hm.out]) (by rw [topC_len, Hn.out])) W; exact h
  with_reducible refine ((fun W => o27 W) _).mono ?_
  rintro e vq17 ⟨rfl, hbq17⟩
  have kbq17 := below_next kbq16 hbq17
  clear hS hbq17
  refine hK.out _ _ (by exact kbq17) (fun hS => ?_)
  clear hK K
  refine call_at 13 rfl (by kernel_rfl) (by rfl) (fun K hK => ?_)
  go_simp
  obtain ⟨p18, hp18⟩ : ∃ y_ : PtD, pmul ((leN (topC m) + leN (topC n))) p2 = y_ := ⟨_, rfl⟩
  have Hp18 := Lib.hid hp18
  clear hp18
  have o29 : ∀ W : World, Calls Try.prog 12 #[.agg (bytT (leN (topC m) + leN (topC n))), .agg cq3] W (RetPt R W (pmul ((leN (topC m) + leN (topC n))) p2)) := fun W => by have h := (M.mult (leB 32 (leN (topC m) + leN (topC n))) (leB_len 32 (leN (topC m) + leN (topC n))) Rq3.out) W; rw [leN_leB 32 (leN (topC m) + leN (topC n)) (two_tops Hm.out Hn.out)] at h; exact h
  with_reducible refine ((fun W => o29 W) _).mono ?_
  rintro e vq19 ⟨cq19, rfl, rq19, hbq19⟩
  rw [Hp18.out] at rq19
  have Rq19 := Lib.hid rq19
  clear rq19
  have kbq19 := below_next kbq17 hbq19
  clear hS hbq19
  refine hK.out _ _ (by exact kbq19) (fun hS => ?_)
  clear hK K
  refine call_at 14 rfl (by kernel_rfl) (by rfl) (fun K hK => ?_)
  go_simp
  have kq20 := fun W : World => (D.equal Rq16.out Rq19.out) W
  rw [show ptEq p15 p18 = true from (ptEq_iff.2 (by rw [← Hp15.out, ← Hp11.out, ← Hp13.out, ← Hp18.out]; exact pmul_add _ _ _))] at kq20
  have Kq20 := Lib.hid kq20
  clear kq20
  with_reducible refine (Kq20.out _).mono ?_
  rintro e vq20 ⟨rfl, hbq20⟩
  have kbq20 := below_next kbq19 hbq20
  clear hS hbq20
  refine hK.out _ _ (by exact kbq20) (fun hS => ?_)
  clear hK K
  refine' take_at 15 rfl (by kernel_rfl) (by kernel_rfl) (by kernel_rfl) (fun _ _ _ h => h) (by rfl) hS ?_ ?_ ?_
  rotate_left 2
  · intro W hSW; go_simp; try with_reducible rfl
  · simp only [List.set_cons_succ, List.set_cons_zero]; rfl
  refine' take_at 16 rfl (by kernel_rfl) (by kernel_rfl) (by kernel_rfl) (fun _ _ _ h => h) (by rfl) hS ?_ ?_ ?_
  rotate_left 2
  · intro W hSW; go_simp; try with_reducible rfl
  · simp only [List.set_cons_succ, List.set_cons_zero]; rfl
  refine' take_at 17 rfl (by kernel_rfl) (by kernel_rfl) (by kernel_rfl) (fun _ _ _ h => h) (by rfl) hS ?_ ?_ ?_
  rotate_left 2
  · intro W hSW; exact run_loadR rfl rfl (HRq10.out.below hSW).tail.tail.tail.head Try.underlying22 rfl (arr32_info (by rw [topC_len, Hm.out]))
  · simp only [List.set_cons_succ, List.set_cons_zero]; rfl
  refine' take_at 18 rfl (by kernel_rfl) (by kernel_rfl) (by kernel_rfl) (fun _ _ _ h => h) (by rfl) hS ?_ ?_ ?_
  rotate_left 2
  · intro W hSW; exact run_one rfl W
  · simp only [List.set_cons_succ, List.set_cons_zero]; rfl
  refine' take_at 20 rfl (by kernel_rfl) (by kernel_rfl) (by kernel_rfl) (fun _ _ _ h => h) (by rfl) hS ?_ ?_ ?_
  rotate_left 2
  · intro W hSW; exact run_loadR rfl rfl (HRq10.out.below hSW).head Try.underlying28 rfl (D.base.info Rq3.out)
  · simp only [List.set_cons_succ, List.set_cons_zero]; rfl
  refine' take_at 22 rfl (by kernel_rfl) (by kernel_rfl) (by kernel_rfl) (fun _ _ _ h => h) (by rfl) hS ?_ ?_ ?_
  rotate_left 2
  · intro W hSW; exact run_loadR rfl rfl (HRq10.out.below hSW).tail.tail.tail.head Try.underlying22 rfl (arr32_info (by rw [topC_len, Hm.out]))
  · simp only [List.set_cons_succ, List.set_cons_zero]; rfl
  refine' take_at 23 rfl (by kernel_rfl) (by kernel_rfl) (by kernel_rfl) (fun _ _ _ h => h) (by rfl) hS ?_ ?_ ?_
  rotate_left 2
  · intro W hSW; exact run_loadR rfl rfl (HRq10.out.below hSW).head Try.underlying28 rfl (D.base.info Rq3.out)
  · simp only [List.set_cons_succ, List.set_cons_zero]; rfl
  refine' take_at 25 rfl (by kernel_rfl) (by kernel_rfl) (by kernel_rfl) (fun _ _ _ h => h) (by rfl) hS ?_ ?_ ?_
  rotate_left 2
  · intro W hSW; exact run_loadR rfl rfl (HRq10.out.below hSW).head Try.underlying28 rfl (D.base.info Rq3.out)
  · simp only [List.set_cons_succ, List.set_cons_zero]; rfl
  refine call_at 19 rfl (by kernel_rfl) (by rfl) (fun K hK => ?_)
  go_simp
  have o35 : ∀ W : World, Calls Try.prog 20 #[.agg (arrB (topC m)), .agg (bytT 1)] W (RetV W (.agg (bytT (leN (topC m) + 1)))) := fun W => by have h := (plus13_any (by rw [topC_len, Hm.out]) (leB_len 32 1)) W; rw [leN_leB 32 1 (by decide)] at h; exact h
  with_reducible refine ((fun W => o35 W) _).mono ?_
  rintro e vq21 ⟨rfl, hbq21⟩
  have kbq21 := below_next kbq20 hbq21
  clear hS hbq21
  refine hK.out _ _ (by exact kbq21) (fun hS => ?_)
  clear hK K
  refine call_at 21 rfl (by kernel_rfl) (by rfl) (fun K hK => ?_)
  go_simp
  obtain ⟨p22, hp22⟩ : ∃ y_ : PtD, pmul ((leN (topC m) + 1)) p2 = y_ := ⟨_, rfl⟩
  have Hp22 := Lib.hid hp22
  clear hp22
  have o37 : ∀ W : World, Calls Try.prog 12 #[.agg (bytT (leN (topC m) + 1)), .agg cq3] W (RetPt R W (pmul ((leN (topC m) + 1)) p2)) := fun W => by have h := (M.mult (leB 32 (leN (topC m) + 1)) (leB_len 32 (leN (topC m) + 1)) Rq3.out) W; rw [leN_leB 32 (leN (topC m) + 1) (top_one Hm.out)] at h; exact h
  with_reducible refine ((fun W => o37 W) _).mono ?_
  rintro e vq23 ⟨cq23, rfl, rq23, hbq23⟩
  rw [Hp22.out] at rq23
  have Rq23 := Lib.hid rq23
  clear rq23
  have kbq23 := below_next kbq21 hbq23
  clear hS hbq23
  refine hK.out _ _ (by exact kbq23) (fun hS => ?_)
  clear hK K
  refine call_at 24 rfl (by kernel_rfl) (by rfl) (fun K hK => ?_)
  go_simp
  with_reducible refine ((M.mult (topC m) (by rw [topC_len, Hm.out]) Rq3.out) _).mono ?_
  rintro e vq24 ⟨cq24, rfl, rq24, hbq24⟩
  rw [Hp11.out] at rq24
  have Rq24 := Lib.hid rq24
  clear rq24
  have kbq24 := below_next kbq23 hbq24
  clear hS hbq24
  refine hK.out _ _ (by exact kbq24) (fun hS => ?_)
  clear hK K
  refine call_at 26 rfl (by kernel_rfl) (by rfl) (fun K hK => ?_)
  go_simp
  obtain ⟨p25, hp25⟩ : ∃ y_ : PtD, padd p11 p2 = y_ := ⟨_, rfl⟩
  have Hp25 := Lib.hid hp25
  clear hp25
  with_reducible refine ((D.add Rq24.out Rq3.out) _).mono ?_
  rintro e vq26 ⟨cq26, rfl, rq26, hbq26⟩
  rw [Hp25.out] at rq26
  have Rq26 := Lib.hid rq26
  clear rq26
  have kbq26 := below_next kbq24 hbq26
  clear hS hbq26
  refine hK.out _ _ (by exact kbq26) (fun hS => ?_)
  clear hK K
  refine call_at 27 rfl (by kernel_rfl) (by rfl) (fun K hK => ?_)
  go_simp
  have kq27 := fun W : World => (D.equal Rq23.out Rq26.out) W
  rw [show ptEq p22 p25 = true from (ptEq_iff.2 (by rw [← Hp22.out, ← Hp25.out, ← Hp11.out]; exact pmul_succ _ _))] at kq27
  have Kq27 := Lib.hid kq27
  clear kq27
  with_reducible refine (Kq27.out _).mono ?_
  rintro e vq27 ⟨rfl, hbq27⟩
  have kbq27 := below_next kbq26 hbq27
  clear hS hbq27
  refine hK.out _ _ (by exact kbq27) (fun hS => ?_)
  clear hK K
  refine' take_at 28 rfl (by kernel_rfl) (by kernel_rfl) (by kernel_rfl) (fun _ _ _ h => h) (by rfl) hS ?_ ?_ ?_
  rotate_left 2
  · intro W hSW; go_simp; try with_reducible rfl
  · simp only [List.set_cons_succ, List.set_cons_zero]; rfl
  refine' take_at 29 rfl (by kernel_rfl) (by kernel_rfl) (by kernel_rfl) (fun _ _ _ h => h) (by rfl) hS ?_ ?_ ?_
  rotate_left 2
  · intro W hSW; go_simp; try with_reducible rfl
  · simp only [List.set_cons_succ, List.set_cons_zero]; rfl
  refine wpAnyH_done (by kernel_rfl) ?_ _
  refine NoPanic.normal ?_
  clear hS
  (try simp only [Act.put])
  have HRq28 := Lib.hid (HRq10.out.below kbq27)
  have HBq28 := Lib.hid (below_next HBq10.out kbq27)
  go_wp2_with fail
  go_ret
  exact ⟨rfl, HBq28.out⟩
end Go.Proofs.Ytfejabfmhddepaa

