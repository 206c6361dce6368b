/- The walk of MultTells. Written by wip/tools. -/
import Derived.Test.YtfejabfmhddepaaLaw13Help
import Derived.Test.YtfejabfmhddepaaGheld
import Derived.Test.YtfejabfmhddepaaGbyt
namespace Go.Proofs.Ytfejabfmhddepaa
open Go.RowKit
set_option linter.unusedVariables false
set_option maxRecDepth 100000

set_option maxHeartbeats 6400000 in
theorem law13Tells {R : Array Value → PtD → Prop} (D : PtC R) (M : MuC R) (n : List UInt8) (hn : n.length = 32) (b : List UInt8) (hb : b.length = 32) (w : World) : Calls Try.prog 3 #[.agg (arrB n), .agg (arrB b)] w fun e w' => e = .returned (.bool true) ∧ Below w.heap.size w w' := by
  have HAL : Hid (∀ W : World, Calls Try.prog 8 #[] W fun e w' => e = .returned (.bool true) ∧ Below W.heap.size W w') := Lib.hid (fun W => alive13_any D M W)
  obtain ⟨Z, hZ, sZ⟩ := D.base.zero
  have hz32 := zero32_zero
  have hzP := refP_zero
  have Hn := Lib.hid hn
  have Hb := Lib.hid hb
  clear hn hb
  go_enter Try.func3, Try.ntmps3
  go_wp2_with fail
  have HR0 := Lib.hid (((RowsW.nil w).box (arrB n) 22).box (arrB b) 22)
  have HB0 := Lib.hid (below_box (below_box (Below.refl w.heap.size w) (arrB n) 22) (arrB b) 22)
  rw [World.size_alloc] at HR0
  obtain ⟨W0, hW0⟩ : ∃ W, ((w.alloc (.cells (arrB n) 22)).alloc (.cells (arrB b) 22)) = W := ⟨_, rfl⟩
  obtain ⟨g0, hg0⟩ : ∃ g, w.heap.size = g := ⟨_, rfl⟩
  rw [hW0] at HR0 HB0
  rw [hg0] at HR0
  rw [hW0, hg0]
  have HG0 := Lib.hid hg0
  clear hW0 hg0
  with_reducible refine (HAL.out _).mono ?_
  rintro e v1 ⟨rfl, hb1⟩
  have HR1 := Lib.hid (HR0.out.below hb1)
  have HB1 := Lib.hid (below_next HB0.out hb1)
  clear hb1
  go_upto_region 2 with fail
  have l1 := HR1.out.head
  go_wp2_with (refine wpList_load_row rfl 22 (.tmp 3) rfl (g0 + 1) rfl 22 (arrB b) (0, 0) _ l1 Try.underlying22 rfl (arr32_info Hb.out) ?_)
  obtain ⟨p2, hp2⟩ : ∃ y_ : PtD, atP b = y_ := ⟨_, rfl⟩
  have Hp2 := Lib.hid hp2
  clear hp2
  with_reducible refine ((at13_any D b Hb.out) _).mono ?_
  rintro e vq3 ⟨cq3, rfl, rq3, hbq3⟩
  rw [Hp2.out] at rq3
  have Rq3 := Lib.hid rq3
  clear rq3
  have HRq3 := Lib.hid (HR1.out.below hbq3)
  have HBq3 := Lib.hid (below_next HB1.out hbq3)
  clear hbq3
  have h0q4 : (vq3.alloc (.cells Z 28)).heap[vq3.heap.size]? = some (.cells Z 28 (0, 0)) := heap_alloc_new _ _
  have HRq4 := Lib.hid (HRq3.out.new Z cq3 28)
  have HBq4 := Lib.hid (below_new HBq3.out Z cq3 28)
  have HNq4 := Lib.hid HRq3.out.ne
  have HGq4 := Lib.hid HBq3.out.size
  go_upto_region 3 with (refine wpList_store_row rfl 28 (.tmp 6) (.tmp 11) rfl vq3.heap.size cq3 rfl rfl 28 Z h0q4 (D.base.info Rq3.out) (sZ Rq3.out) (D.base.one Rq3.out) ?_)
  obtain ⟨Wq4, hWq4⟩ : ∃ W, (vq3.alloc (.cells Z 28)).setRow vq3.heap.size cq3 = W := ⟨_, rfl⟩
  obtain ⟨gq4, hgq4⟩ : ∃ g, vq3.heap.size = g := ⟨_, rfl⟩
  rw [hWq4, hgq4] at HRq4
  rw [hWq4] at HBq4
  rw [hgq4] at HNq4 HGq4
  rw [hWq4, hgq4]
  clear hWq4 hgq4 h0q4
  have NEq4_0 : Hid (g0 ≠ gq4) := Lib.hid (HNq4.out (g0, (arrB n), 22) (by simp))
  have NEq4_1 : Hid ((g0 + 1) ≠ gq4) := Lib.hid (HNq4.out ((g0 + 1), (arrB b), 22) (by simp))
  have l5 := HRq4.out.head
  go_wp2_with (refine wpList_load_row rfl 28 (.tmp 6) rfl gq4 rfl 28 cq3 (0, 0) _ l5 Try.underlying28 rfl (D.base.info Rq3.out) ?_)
  with_reducible refine ((D.encode Rq3.out) _).mono ?_
  rintro e vq6 ⟨rfl, hbq6⟩
  have HRq6 := Lib.hid (HRq4.out.below hbq6)
  have HBq6 := Lib.hid (below_next HBq4.out hbq6)
  clear hbq6
  go_wp2_with fail
  have z15 : ∀ W : World, Calls Try.prog 10 #[.agg (bytT (F25519.encN p2))] W (RetPtB RQ W p2 true) := fun W => by have h := rdecodeN (leB_len 32 (F25519.encN p2)) W; rw [(dec_enc p2).1, (dec_enc p2).2] at h; exact h
  with_reducible refine ((fun W => z15 W) _).mono ?_
  rintro e vq7 ⟨cq7, rfl, rq7, hbq7⟩
  have Rq7 := Lib.hid rq7
  clear rq7
  have HRq7 := Lib.hid (HRq6.out.below hbq7)
  have HBq7 := Lib.hid (below_next HBq6.out hbq7)
  clear hbq7
  have h0q8 : (vq7.alloc (.cells (refP 0 0 0 0) 33)).heap[vq7.heap.size]? = some (.cells (refP 0 0 0 0) 33 (0, 0)) := heap_alloc_new _ _
  have HRq8 := Lib.hid (HRq7.out.new (refP 0 0 0 0) cq7 33)
  have HBq8 := Lib.hid (below_new HBq7.out (refP 0 0 0 0) cq7 33)
  have HNq8 := Lib.hid HRq7.out.ne
  have HGq8 := Lib.hid HBq7.out.size
  go_upto_region 4 with (refine wpList_store_row rfl 33 (.tmp 7) (.tmp 16) rfl vq7.heap.size cq7 rfl rfl 33 (refP 0 0 0 0) h0q8 (rq_info Rq7.out) (rq_z Rq7.out) (rq_one Rq7.out) ?_)
  obtain ⟨Wq8, hWq8⟩ : ∃ W, (vq7.alloc (.cells (refP 0 0 0 0) 33)).setRow vq7.heap.size cq7 = W := ⟨_, rfl⟩
  obtain ⟨gq8, hgq8⟩ : ∃ g, vq7.heap.size = g := ⟨_, rfl⟩
  rw [hWq8, hgq8] at HRq8
  rw [hWq8] at HBq8
  rw [hgq8] at HNq8 HGq8
  rw [hWq8, hgq8]
  clear hWq8 hgq8 h0q8
  have NEq8_0 : Hid (g0 ≠ gq8) := Lib.hid (HNq8.out (g0, (arrB n), 22) (by simp))
  have NEq8_1 : Hid ((g0 + 1) ≠ gq8) := Lib.hid (HNq8.out ((g0 + 1), (arrB b), 22) (by simp))
  have NEq8_2 : Hid (gq4 ≠ gq8) := Lib.hid (HNq8.out (gq4, cq3, 28) (by simp))
  refine wp_region_noPanic ?_
  refine wp_region_held_drew (S := fun W => Below Wq8.heap.size Wq8 W) (by kernel_rfl) (by exact (Below.refl _ _).drew) (fun hS => ?_)
  refine' take_at 0 rfl (by kernel_rfl) (by kernel_rfl) (by kernel_rfl) (fun _ _ _ h => h) (by rfl) hS ?_ ?_ ?_
  rotate_left 2
  · intro W hSW; go_simp; try with_reducible rfl
  · simp only [List.set_cons_succ, List.set_cons_zero]; rfl
  refine' take_at 1 rfl (by kernel_rfl) (by kernel_rfl) (by kernel_rfl) (fun _ _ _ h => h) (by rfl) hS ?_ ?_ ?_
  rotate_left 2
  · intro W hSW; go_simp; try with_reducible rfl
  · simp only [List.set_cons_succ, List.set_cons_zero]; rfl
  refine' take_at 2 rfl (by kernel_rfl) (by kernel_rfl) (by kernel_rfl) (fun _ _ _ h => h) (by rfl) hS ?_ ?_ ?_
  rotate_left 2
  · intro W hSW; go_simp; try with_reducible rfl
  · simp only [List.set_cons_succ, List.set_cons_zero]; rfl
  refine' take_at 3 rfl (by kernel_rfl) (by kernel_rfl) (by kernel_rfl) (fun _ _ _ h => h) (by rfl) hS ?_ ?_ ?_
  rotate_left 2
  · intro W hSW; go_simp; try with_reducible rfl
  · simp only [List.set_cons_succ, List.set_cons_zero]; rfl
  refine' take_at 4 rfl (by kernel_rfl) (by kernel_rfl) (by kernel_rfl) (fun _ _ _ h => h) (by rfl) hS ?_ ?_ ?_
  rotate_left 2
  · intro W hSW; go_simp; try with_reducible rfl
  · simp only [List.set_cons_succ, List.set_cons_zero]; rfl
  refine' take_at 5 rfl (by kernel_rfl) (by kernel_rfl) (by kernel_rfl) (fun _ _ _ h => h) (by rfl) hS ?_ ?_ ?_
  rotate_left 2
  · intro W hSW; exact run_loadR rfl rfl (HRq8.out.below hSW).tail.tail.tail.head Try.underlying22 rfl (arr32_info Hn.out)
  · simp only [List.set_cons_succ, List.set_cons_zero]; rfl
  refine' take_at 6 rfl (by kernel_rfl) (by kernel_rfl) (by kernel_rfl) (fun _ _ _ h => h) (by rfl) hS ?_ ?_ ?_
  rotate_left 2
  · intro W hSW; exact run_loadR rfl rfl (HRq8.out.below hSW).tail.head Try.underlying28 rfl (D.base.info Rq3.out)
  · simp only [List.set_cons_succ, List.set_cons_zero]; rfl
  refine' take_at 9 rfl (by kernel_rfl) (by kernel_rfl) (by kernel_rfl) (fun _ _ _ h => h) (by rfl) hS ?_ ?_ ?_
  rotate_left 2
  · intro W hSW; exact run_loadR rfl rfl (HRq8.out.below hSW).tail.tail.tail.head Try.underlying22 rfl (arr32_info Hn.out)
  · simp only [List.set_cons_succ, List.set_cons_zero]; rfl
  refine' take_at 10 rfl (by kernel_rfl) (by kernel_rfl) (by kernel_rfl) (fun _ _ _ h => h) (by rfl) hS ?_ ?_ ?_
  rotate_left 2
  · intro W hSW; exact run_loadR rfl rfl (HRq8.out.below hSW).head Try.underlying33 rfl (rq_info Rq7.out)
  · simp only [List.set_cons_succ, List.set_cons_zero]; rfl
  refine call_at 7 rfl (by kernel_rfl) (by rfl) (fun K hK => ?_)
  go_simp
  obtain ⟨p9, hp9⟩ : ∃ y_ : PtD, pmul (leN n) p2 = y_ := ⟨_, rfl⟩
  have Hp9 := Lib.hid hp9
  clear hp9
  with_reducible refine ((M.mult n Hn.out Rq3.out) _).mono ?_
  rintro e vq10 ⟨cq10, rfl, rq10, hbq10⟩
  rw [Hp9.out] at rq10
  have Rq10 := Lib.hid rq10
  clear rq10
  have kbq10 := below_next hS hbq10
  clear hS hbq10
  refine hK.out _ _ (by exact kbq10) (fun hS => ?_)
  clear hK K
  refine call_at 8 rfl (by kernel_rfl) (by rfl) (fun K hK => ?_)
  go_simp
  with_reducible refine ((D.encode Rq10.out) _).mono ?_
  rintro e vq11 ⟨rfl, hbq11⟩
  have kbq11 := below_next kbq10 hbq11
  clear hS hbq11
  refine hK.out _ _ (by exact kbq11) (fun hS => ?_)
  clear hK K
  refine call_at 11 rfl (by kernel_rfl) (by rfl) (fun K hK => ?_)
  go_simp
  with_reducible refine ((rmult_any Hn.out Rq7.out) _).mono ?_
  rintro e vq12 ⟨cq12, rfl, rq12, hbq12⟩
  rw [Hp9.out] at rq12
  have Rq12 := Lib.hid rq12
  clear rq12
  have kbq12 := below_next kbq11 hbq12
  clear hS hbq12
  refine hK.out _ _ (by exact kbq12) (fun hS => ?_)
  clear hK K
  refine call_at 12 rfl (by kernel_rfl) (by rfl) (fun K hK => ?_)
  go_simp
  with_reducible refine ((rencode_any Rq12.out) _).mono ?_
  rintro e vq13 ⟨rfl, hbq13⟩
  have kbq13 := below_next kbq12 hbq13
  clear hS hbq13
  refine hK.out _ _ (by exact kbq13) (fun hS => ?_)
  clear hK K
  refine' take_at 13 rfl (by kernel_rfl) (by kernel_rfl) (by kernel_rfl) (fun _ _ _ h => h) (by rfl) hS ?_ ?_ ?_
  rotate_left 2
  · intro W hSW; exact run_eql2 rfl rfl rfl guardB (eqBytT (F25519.encN p9) W)
  · simp only [List.set_cons_succ, List.set_cons_zero]; rfl
  refine' take_at 14 rfl (by kernel_rfl) (by kernel_rfl) (by kernel_rfl) (fun _ _ _ h => h) (by rfl) hS ?_ ?_ ?_
  rotate_left 2
  · intro W hSW; go_simp; try with_reducible rfl
  · simp only [List.set_cons_succ, List.set_cons_zero]; rfl
  refine' take_at 15 rfl (by kernel_rfl) (by kernel_rfl) (by kernel_rfl) (fun _ _ _ h => h) (by rfl) hS ?_ ?_ ?_
  rotate_left 2
  · intro W hSW; go_simp; try with_reducible rfl
  · simp only [List.set_cons_succ, List.set_cons_zero]; rfl
  refine' take_at 16 rfl (by kernel_rfl) (by kernel_rfl) (by kernel_rfl) (fun _ _ _ h => h) (by rfl) hS ?_ ?_ ?_
  rotate_left 2
  · intro W hSW; exact run_loadR rfl rfl (HRq8.out.below hSW).tail.tail.tail.head Try.underlying22 rfl (arr32_info Hn.out)
  · simp only [List.set_cons_succ, List.set_cons_zero]; rfl
  refine' take_at 19 rfl (by kernel_rfl) (by kernel_rfl) (by kernel_rfl) (fun _ _ _ h => h) (by rfl) hS ?_ ?_ ?_
  rotate_left 2
  · intro W hSW; exact run_loadR rfl rfl (HRq8.out.below hSW).tail.tail.tail.head Try.underlying22 rfl (arr32_info Hn.out)
  · simp only [List.set_cons_succ, List.set_cons_zero]; rfl
  refine call_at 17 rfl (by kernel_rfl) (by rfl) (fun K hK => ?_)
  go_simp
  obtain ⟨p14, hp14⟩ : ∃ y_ : PtD, pmul (leN n) F25519.base = y_ := ⟨_, rfl⟩
  have Hp14 := Lib.hid hp14
  clear hp14
  with_reducible refine ((M.base n Hn.out) _).mono ?_
  rintro e vq15 ⟨cq15, rfl, rq15, hbq15⟩
  rw [Hp14.out] at rq15
  have Rq15 := Lib.hid rq15
  clear rq15
  have kbq15 := below_next kbq13 hbq15
  clear hS hbq15
  refine hK.out _ _ (by exact kbq15) (fun hS => ?_)
  clear hK K
  refine call_at 18 rfl (by kernel_rfl) (by rfl) (fun K hK => ?_)
  go_simp
  with_reducible refine ((D.encode Rq15.out) _).mono ?_
  rintro e vq16 ⟨rfl, hbq16⟩
  have kbq16 := below_next kbq15 hbq16
  clear hS hbq16
  refine hK.out _ _ (by exact kbq16) (fun hS => ?_)
  clear hK K
  refine call_at 20 rfl (by kernel_rfl) (by rfl) (fun K hK => ?_)
  go_simp
  with_reducible refine ((fun W => rbaseN W) _).mono ?_
  rintro e vq17 ⟨cq17, rfl, rq17, hbq17⟩
  have Rq17 := Lib.hid rq17
  clear rq17
  have kbq17 := below_next kbq16 hbq17
  clear hS hbq17
  refine hK.out _ _ (by exact kbq17) (fun hS => ?_)
  clear hK K
  refine call_at 21 rfl (by kernel_rfl) (by rfl) (fun K hK => ?_)
  go_simp
  with_reducible refine ((rmult_any Hn.out Rq17.out) _).mono ?_
  rintro e vq18 ⟨cq18, rfl, rq18, hbq18⟩
  rw [Hp14.out] at rq18
  have Rq18 := Lib.hid rq18
  clear rq18
  have kbq18 := below_next kbq17 hbq18
  clear hS hbq18
  refine hK.out _ _ (by exact kbq18) (fun hS => ?_)
  clear hK K
  refine call_at 22 rfl (by kernel_rfl) (by rfl) (fun K hK => ?_)
  go_simp
  with_reducible refine ((rencode_any Rq18.out) _).mono ?_
  rintro e vq19 ⟨rfl, hbq19⟩
  have kbq19 := below_next kbq18 hbq19
  clear hS hbq19
  refine hK.out _ _ (by exact kbq19) (fun hS => ?_)
  clear hK K
  refine' take_at 23 rfl (by kernel_rfl) (by kernel_rfl) (by kernel_rfl) (fun _ _ _ h => h) (by rfl) hS ?_ ?_ ?_
  rotate_left 2
  · intro W hSW; exact run_eql2 rfl rfl rfl guardB (eqBytT (F25519.encN p14) W)
  · simp only [List.set_cons_succ, List.set_cons_zero]; rfl
  refine' take_at 24 rfl (by kernel_rfl) (by kernel_rfl) (by kernel_rfl) (fun _ _ _ h => h) (by rfl) hS ?_ ?_ ?_
  rotate_left 2
  · intro W hSW; go_simp; try with_reducible rfl
  · simp only [List.set_cons_succ, List.set_cons_zero]; rfl
  refine' take_at 25 rfl (by kernel_rfl) (by kernel_rfl) (by kernel_rfl) (fun _ _ _ h => h) (by rfl) hS ?_ ?_ ?_
  rotate_left 2
  · intro W hSW; go_simp; try with_reducible rfl
  · simp only [List.set_cons_succ, List.set_cons_zero]; rfl
  refine wpAnyH_done (by kernel_rfl) ?_ _
  refine NoPanic.normal ?_
  clear hS
  (try simp only [Act.put])
  have HRq20 := Lib.hid (HRq8.out.below kbq19)
  have HBq20 := Lib.hid (below_next HBq8.out kbq19)
  go_wp2_with fail
  go_ret
  exact ⟨rfl, HBq20.out⟩
end Go.Proofs.Ytfejabfmhddepaa

