/- The walk of MultTwo. Written by wip/tools. -/
import Derived.Test.YtfejabfmhddepaaLaw13Help
import Derived.Test.YtfejabfmhddepaaGheld
import Derived.Test.YtfejabfmhddepaaGbyt
namespace Go.Proofs.Ytfejabfmhddepaa
open Go.RowKit
set_option linter.unusedVariables false
set_option maxRecDepth 100000

set_option maxHeartbeats 6400000 in
theorem law13Two {R : Array Value → PtD → Prop} (D : PtC R) (M : MuC R) (m : List UInt8) (hm : m.length = 32) (n : List UInt8) (hn : n.length = 32) (b : List UInt8) (hb : b.length = 32) (w : World) : Calls Try.prog 7 #[.agg (arrB m), .agg (arrB n), .agg (arrB b)] w fun e w' => e = .returned (.bool true) ∧ Below w.heap.size w w' := by
  have HAL : Hid (∀ W : World, Calls Try.prog 8 #[] W fun e w' => e = .returned (.bool true) ∧ Below W.heap.size W w') := Lib.hid (fun W => alive13_any D M W)
  obtain ⟨Z, hZ, sZ⟩ := D.base.zero
  have hz32 := zero32_zero
  have hzP := refP_zero
  have Hm := Lib.hid hm
  have Hn := Lib.hid hn
  have Hb := Lib.hid hb
  clear hm hn hb
  go_enter Try.func7, Try.ntmps7
  go_wp2_with fail
  have HR0 := Lib.hid ((((RowsW.nil w).box (arrB m) 22).box (arrB n) 22).box (arrB b) 22)
  have HB0 := Lib.hid (below_box (below_box (below_box (Below.refl w.heap.size w) (arrB m) 22) (arrB n) 22) (arrB b) 22)
  rw [World.size_alloc] at HR0
  rw [World.size_alloc] at HR0
  obtain ⟨W0, hW0⟩ : ∃ W, (((w.alloc (.cells (arrB m) 22)).alloc (.cells (arrB n) 22)).alloc (.cells (arrB b) 22)) = W := ⟨_, rfl⟩
  obtain ⟨g0, hg0⟩ : ∃ g, w.heap.size = g := ⟨_, rfl⟩
  rw [hW0] at HR0 HB0
  rw [hg0] at HR0
  rw [hW0, hg0]
  have HG0 := Lib.hid hg0
  clear hW0 hg0
  with_reducible refine (HAL.out _).mono ?_
  rintro e v1 ⟨rfl, hb1⟩
  have HR1 := Lib.hid (HR0.out.below hb1)
  have HB1 := Lib.hid (below_next HB0.out hb1)
  clear hb1
  go_upto_region 2 with fail
  have l1 := HR1.out.head
  go_wp2_with (refine wpList_load_row rfl 22 (.tmp 5) rfl (g0 + 1 + 1) rfl 22 (arrB b) (0, 0) _ l1 Try.underlying22 rfl (arr32_info Hb.out) ?_)
  obtain ⟨p2, hp2⟩ : ∃ y_ : PtD, atP b = y_ := ⟨_, rfl⟩
  have Hp2 := Lib.hid hp2
  clear hp2
  with_reducible refine ((at13_any D b Hb.out) _).mono ?_
  rintro e vq3 ⟨cq3, rfl, rq3, hbq3⟩
  rw [Hp2.out] at rq3
  have Rq3 := Lib.hid rq3
  clear rq3
  have HRq3 := Lib.hid (HR1.out.below hbq3)
  have HBq3 := Lib.hid (below_next HB1.out hbq3)
  clear hbq3
  have h0q4 : (vq3.alloc (.cells Z 28)).heap[vq3.heap.size]? = some (.cells Z 28 (0, 0)) := heap_alloc_new _ _
  have HRq4 := Lib.hid (HRq3.out.new Z cq3 28)
  have HBq4 := Lib.hid (below_new HBq3.out Z cq3 28)
  have HNq4 := Lib.hid HRq3.out.ne
  have HGq4 := Lib.hid HBq3.out.size
  go_upto_region 3 with (refine wpList_store_row rfl 28 (.tmp 8) (.tmp 11) rfl vq3.heap.size cq3 rfl rfl 28 Z h0q4 (D.base.info Rq3.out) (sZ Rq3.out) (D.base.one Rq3.out) ?_)
  obtain ⟨Wq4, hWq4⟩ : ∃ W, (vq3.alloc (.cells Z 28)).setRow vq3.heap.size cq3 = W := ⟨_, rfl⟩
  obtain ⟨gq4, hgq4⟩ : ∃ g, vq3.heap.size = g := ⟨_, rfl⟩
  rw [hWq4, hgq4] at HRq4
  rw [hWq4] at HBq4
  rw [hgq4] at HNq4 HGq4
  rw [hWq4, hgq4]
  clear hWq4 hgq4 h0q4
  have NEq4_0 : Hid (g0 ≠ gq4) := Lib.hid (HNq4.out (g0, (arrB m), 22) (by simp))
  have NEq4_1 : Hid ((g0 + 1) ≠ gq4) := Lib.hid (HNq4.out ((g0 + 1), (arrB n), 22) (by simp))
  have NEq4_2 : Hid ((g0 + 1 + 1) ≠ gq4) := Lib.hid (HNq4.out ((g0 + 1 + 1), (arrB b), 22) (by simp))
  refine wp_region_noPanic ?_
  refine wp_region_held_drew (S := fun W => Below Wq4.heap.size Wq4 W) (by kernel_rfl) (by exact (Below.refl _ _).drew) (fun hS => ?_)
  refine' take_at 0 rfl (by kernel_rfl) (by kernel_rfl) (by kernel_rfl) (fun _ _ _ h => h) (by rfl) hS ?_ ?_ ?_
  rotate_left 2
  · intro W hSW; go_simp; try with_reducible rfl
  · simp only [List.set_cons_succ, List.set_cons_zero]; rfl
  refine' take_at 1 rfl (by kernel_rfl) (by kernel_rfl) (by kernel_rfl) (fun _ _ _ h => h) (by rfl) hS ?_ ?_ ?_
  rotate_left 2
  · intro W hSW; go_simp; try with_reducible rfl
  · simp only [List.set_cons_succ, List.set_cons_zero]; rfl
  refine' take_at 2 rfl (by kernel_rfl) (by kernel_rfl) (by kernel_rfl) (fun _ _ _ h => h) (by rfl) hS ?_ ?_ ?_
  rotate_left 2
  · intro W hSW; exact run_loadR rfl rfl (HRq4.out.below hSW).tail.tail.tail.head Try.underlying22 rfl (arr32_info Hm.out)
  · simp only [List.set_cons_succ, List.set_cons_zero]; rfl
  refine' take_at 3 rfl (by kernel_rfl) (by kernel_rfl) (by kernel_rfl) (fun _ _ _ h => h) (by rfl) hS ?_ ?_ ?_
  rotate_left 2
  · intro W hSW; exact run_loadR rfl rfl (HRq4.out.below hSW).head Try.underlying28 rfl (D.base.info Rq3.out)
  · simp only [List.set_cons_succ, List.set_cons_zero]; rfl
  refine' take_at 4 rfl (by kernel_rfl) (by kernel_rfl) (by kernel_rfl) (fun _ _ _ h => h) (by rfl) hS ?_ ?_ ?_
  rotate_left 2
  · intro W hSW; exact run_loadR rfl rfl (HRq4.out.below hSW).tail.tail.head Try.underlying22 rfl (arr32_info Hn.out)
  · simp only [List.set_cons_succ, List.set_cons_zero]; rfl
  refine' take_at 6 rfl (by kernel_rfl) (by kernel_rfl) (by kernel_rfl) (fun _ _ _ h => h) (by rfl) hS ?_ ?_ ?_
  rotate_left 2
  · intro W hSW; exact run_loadR rfl rfl (HRq4.out.below hSW).tail.tail.tail.head Try.underlying22 rfl (arr32_info Hm.out)
  · simp only [List.set_cons_succ, List.set_cons_zero]; rfl
  refine' take_at 7 rfl (by kernel_rfl) (by kernel_rfl) (by kernel_rfl) (fun _ _ _ h => h) (by rfl) hS ?_ ?_ ?_
  rotate_left 2
  · intro W hSW; exact run_loadR rfl rfl (HRq4.out.below hSW).head Try.underlying28 rfl (D.base.info Rq3.out)
  · simp only [List.set_cons_succ, List.set_cons_zero]; rfl
  refine' take_at 9 rfl (by kernel_rfl) (by kernel_rfl) (by kernel_rfl) (fun _ _ _ h => h) (by rfl) hS ?_ ?_ ?_
  rotate_left 2
  · intro W hSW; exact run_loadR rfl rfl (HRq4.out.below hSW).tail.tail.head Try.underlying22 rfl (arr32_info Hn.out)
  · simp only [List.set_cons_succ, List.set_cons_zero]; rfl
  refine call_at 5 rfl (by kernel_rfl) (by rfl) (fun K hK => ?_)
  go_simp
  obtain ⟨p5, hp5⟩ : ∃ y_ : PtD, pmul (leN m) p2 = y_ := ⟨_, rfl⟩
  have Hp5 := Lib.hid hp5
  clear hp5
  obtain ⟨p6, hp6⟩ : ∃ y_ : PtD, pmul (leN n) F25519.base = y_ := ⟨_, rfl⟩
  have Hp6 := Lib.hid hp6
  clear hp6
  obtain ⟨p7, hp7⟩ : ∃ y_ : PtD, padd p5 p6 = y_ := ⟨_, rfl⟩
  have Hp7 := Lib.hid hp7
  clear hp7
  with_reducible refine ((M.two m n Hm.out Hn.out Rq3.out) _).mono ?_
  rintro e vq8 ⟨cq8, rfl, rq8, hbq8⟩
  rw [Hp5.out, Hp6.out, Hp7.out] at rq8
  have Rq8 := Lib.hid rq8
  clear rq8
  have kbq8 := below_next hS hbq8
  clear hS hbq8
  refine hK.out _ _ (by exact kbq8) (fun hS => ?_)
  clear hK K
  refine call_at 8 rfl (by kernel_rfl) (by rfl) (fun K hK => ?_)
  go_simp
  with_reducible refine ((M.mult m Hm.out Rq3.out) _).mono ?_
  rintro e vq9 ⟨cq9, rfl, rq9, hbq9⟩
  rw [Hp5.out] at rq9
  have Rq9 := Lib.hid rq9
  clear rq9
  have kbq9 := below_next kbq8 hbq9
  clear hS hbq9
  refine hK.out _ _ (by exact kbq9) (fun hS => ?_)
  clear hK K
  refine call_at 10 rfl (by kernel_rfl) (by rfl) (fun K hK => ?_)
  go_simp
  with_reducible refine ((M.base n Hn.out) _).mono ?_
  rintro e vq10 ⟨cq10, rfl, rq10, hbq10⟩
  rw [Hp6.out] at rq10
  have Rq10 := Lib.hid rq10
  clear rq10
  have kbq10 := below_next kbq9 hbq10
  clear hS hbq10
  refine hK.out _ _ (by exact kbq10) (fun hS => ?_)
  clear hK K
  refine call_at 11 rfl (by kernel_rfl) (by rfl) (fun K hK => ?_)
  go_simp
  with_reducible refine ((D.add Rq9.out Rq10.out) _).mono ?_
  rintro e vq11 ⟨cq11, rfl, rq11, hbq11⟩
  rw [Hp7.out] at rq11
  have Rq11 := Lib.hid rq11
  clear rq11
  have kbq11 := below_next kbq10 hbq11
  clear hS hbq11
  refine hK.out _ _ (by exact kbq11) (fun hS => ?_)
  clear hK K
  refine call_at 12 rfl (by kernel_rfl) (by rfl) (fun K hK => ?_)
  go_simp
  have kq12 := fun W : World => (D.equal Rq8.out Rq11.out) W
  rw [ptEq_self p7] at kq12
  have Kq12 := Lib.hid kq12
  clear kq12
  with_reducible refine (Kq12.out _).mono ?_
  rintro e vq12 ⟨rfl, hbq12⟩
  have kbq12 := below_next kbq11 hbq12
  clear hS hbq12
  refine hK.out _ _ (by exact kbq12) (fun hS => ?_)
  clear hK K
  refine' take_at 13 rfl (by kernel_rfl) (by kernel_rfl) (by kernel_rfl) (fun _ _ _ h => h) (by rfl) hS ?_ ?_ ?_
  rotate_left 2
  · intro W hSW; go_simp; try with_reducible rfl
  · simp only [List.set_cons_succ, List.set_cons_zero]; rfl
  refine' take_at 14 rfl (by kernel_rfl) (by kernel_rfl) (by kernel_rfl) (fun _ _ _ h => h) (by rfl) hS ?_ ?_ ?_
  rotate_left 2
  · intro W hSW; go_simp; try with_reducible rfl
  · simp only [List.set_cons_succ, List.set_cons_zero]; rfl
  refine wpAnyH_done (by kernel_rfl) ?_ _
  refine NoPanic.normal ?_
  clear hS
  (try simp only [Act.put])
  have HRq13 := Lib.hid (HRq4.out.below kbq12)
  have HBq13 := Lib.hid (below_next HBq4.out kbq12)
  go_wp2_with fail
  go_ret
  exact ⟨rfl, HBq13.out⟩
end Go.Proofs.Ytfejabfmhddepaa

