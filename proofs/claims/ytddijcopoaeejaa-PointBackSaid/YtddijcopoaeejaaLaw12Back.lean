/- The walk of PointBack. Written by wip/tools. -/
import Derived.Test.YtddijcopoaeejaaLaw12At
import Derived.Test.YtddijcopoaeejaaGheld
import Derived.Test.YtddijcopoaeejaaGbyt
namespace Go.Proofs.Ytddijcopoaeejaa
open Go.RowKit
set_option linter.unusedVariables false
set_option maxRecDepth 100000

set_option maxHeartbeats 6400000 in
theorem law12Back {R : Array Value → PtD → Prop} (D : PtC R) (a : List UInt8) (ha : a.length = 32) (w : World) : Calls Try.prog 4 #[.agg (arrB a)] w fun e w' => e = .returned (.bool true) ∧ Below w.heap.size w w' := by
  have HAL : Hid (∀ W : World, Calls Try.prog 9 #[] W fun e w' => e = .returned (.bool true) ∧ Below W.heap.size W w') := Lib.hid (fun W => alive12_any D W)
  obtain ⟨Z, hZ, sZ⟩ := D.base.zero
  have hz32 := zero32_zero
  have hzP := refP_zero
  have Ha := Lib.hid ha
  clear ha
  go_enter Try.func4, Try.ntmps4
  go_wp2_with fail
  have HR0 := Lib.hid ((RowsW.nil w).box (arrB a) 22)
  have HB0 := Lib.hid (below_box (Below.refl w.heap.size w) (arrB a) 22)
  obtain ⟨W0, hW0⟩ : ∃ W, (w.alloc (.cells (arrB a) 22)) = W := ⟨_, rfl⟩
  obtain ⟨g0, hg0⟩ : ∃ g, w.heap.size = g := ⟨_, rfl⟩
  rw [hW0] at HR0 HB0
  rw [hg0] at HR0
  rw [hW0, hg0]
  have HG0 := Lib.hid hg0
  clear hW0 hg0
  with_reducible refine (HAL.out _).mono ?_
  rintro e v1 ⟨rfl, hb1⟩
  have HR1 := Lib.hid (HR0.out.below hb1)
  have HB1 := Lib.hid (below_next HB0.out hb1)
  clear hb1
  go_upto_region 2 with fail
  cases hf : decF a
  · have HF := Lib.hid hf
    clear hf
    have l1 := HR1.out.head
    go_wp2_with (refine wpList_load_row rfl 22 (.tmp 1) rfl g0 rfl 22 (arrB a) (0, 0) _ l1 Try.underlying22 rfl (arr32_info Ha.out) ?_)
    obtain ⟨p2, hp2⟩ : ∃ y_ : PtD, decP a = y_ := ⟨_, rfl⟩
    have Hp2 := Lib.hid hp2
    clear hp2
    have Ht3 : Hid (decF a = false) := Lib.hid HF.out
    have kq4 := fun W : World => (D.decode a Ha.out) W
    rw [Hp2.out, Ht3.out] at kq4
    have Kq4 := Lib.hid kq4
    clear kq4
    with_reducible refine (Kq4.out _).mono ?_
    rintro e vq4 ⟨cq4, rfl, rq4, hbq4⟩
    have Rq4 := Lib.hid rq4
    clear rq4
    have HRq4 := Lib.hid (HR1.out.below hbq4)
    have HBq4 := Lib.hid (below_next HB1.out hbq4)
    clear hbq4
    have h0q5 : (vq4.alloc (.cells Z 28)).heap[vq4.heap.size]? = some (.cells Z 28 (0, 0)) := heap_alloc_new _ _
    have HRq5 := Lib.hid (HRq4.out.new Z cq4 28)
    have HBq5 := Lib.hid (below_new HBq4.out Z cq4 28)
    have HNq5 := Lib.hid HRq4.out.ne
    have HGq5 := Lib.hid HBq4.out.size
    go_upto_region 3 with (refine wpList_store_row rfl 28 (.tmp 4) (.tmp 12) rfl vq4.heap.size cq4 rfl rfl 28 Z h0q5 (D.base.info Rq4.out) (sZ Rq4.out) (D.base.one Rq4.out) ?_)
    obtain ⟨Wq5, hWq5⟩ : ∃ W, (vq4.alloc (.cells Z 28)).setRow vq4.heap.size cq4 = W := ⟨_, rfl⟩
    obtain ⟨gq5, hgq5⟩ : ∃ g, vq4.heap.size = g := ⟨_, rfl⟩
    rw [hWq5, hgq5] at HRq5
    rw [hWq5] at HBq5
    rw [hgq5] at HNq5 HGq5
    rw [hWq5, hgq5]
    clear hWq5 hgq5 h0q5
    have NEq5_0 : Hid (g0 ≠ gq5) := Lib.hid (HNq5.out (g0, (arrB a), 22) (by simp))
    go_upto_region 4 with fail
    refine wp_region_noPanic ?_
    refine wp_region_held_drew (S := fun W => Below Wq5.heap.size Wq5 W) (by kernel_rfl) (by exact (Below.refl _ _).drew) (fun hS => ?_)
    refine' take_at 0 rfl (by kernel_rfl) (by kernel_rfl) (by kernel_rfl) (fun _ _ _ h => h) (by rfl) hS ?_ ?_ ?_
    rotate_left 2
    · intro W hSW; go_simp; try with_reducible rfl
    · simp only [List.set_cons_succ, List.set_cons_zero]; rfl
    refine' take_at 1 rfl (by kernel_rfl) (by kernel_rfl) (by kernel_rfl) (fun _ _ _ h => h) (by rfl) hS ?_ ?_ ?_
    rotate_left 2
    · intro W hSW; go_simp; try with_reducible rfl
    · simp only [List.set_cons_succ, List.set_cons_zero]; rfl
    refine' take_at 2 rfl (by kernel_rfl) (by kernel_rfl) (by kernel_rfl) (fun _ _ _ h => h) (by rfl) hS ?_ ?_ ?_
    rotate_left 2
    · intro W hSW; exact run_loadR rfl rfl (HRq5.out.below hSW).head Try.underlying28 rfl (D.base.info Rq4.out)
    · simp only [List.set_cons_succ, List.set_cons_zero]; rfl
    refine call_at 3 rfl (by kernel_rfl) (by rfl) (fun K hK => ?_)
    go_simp
    with_reducible refine ((fun W => D.zero W) _).mono ?_
    rintro e vq6 ⟨cq6, rfl, rq6, hbq6⟩
    have Rq6 := Lib.hid rq6
    clear rq6
    have kbq6 := below_next hS hbq6
    clear hS hbq6
    refine hK.out _ _ (by exact kbq6) (fun hS => ?_)
    clear hK K
    refine call_at 4 rfl (by kernel_rfl) (by rfl) (fun K hK => ?_)
    go_simp
    have kq7 := fun W : World => (D.equal Rq4.out Rq6.out) W
    rw [show ptEq p2 pzero = true from (ptEq_iff.2 (by rw [← Hp2.out]; exact decP_no HF.out))] at kq7
    have Kq7 := Lib.hid kq7
    clear kq7
    with_reducible refine (Kq7.out _).mono ?_
    rintro e vq7 ⟨rfl, hbq7⟩
    have kbq7 := below_next kbq6 hbq7
    clear hS hbq7
    refine hK.out _ _ (by exact kbq7) (fun hS => ?_)
    clear hK K
    refine' take_at 5 rfl (by kernel_rfl) (by kernel_rfl) (by kernel_rfl) (fun _ _ _ h => h) (by rfl) hS ?_ ?_ ?_
    rotate_left 2
    · intro W hSW; go_simp; try with_reducible rfl
    · simp only [List.set_cons_succ, List.set_cons_zero]; rfl
    refine' take_at 6 rfl (by kernel_rfl) (by kernel_rfl) (by kernel_rfl) (fun _ _ _ h => h) (by rfl) hS ?_ ?_ ?_
    rotate_left 2
    · intro W hSW; go_simp; try with_reducible rfl
    · simp only [List.set_cons_succ, List.set_cons_zero]; rfl
    refine wpAnyH_done (by kernel_rfl) ?_ _
    refine NoPanic.normal ?_
    clear hS
    (try simp only [Act.put])
    have HRq8 := Lib.hid (HRq5.out.below kbq7)
    have HBq8 := Lib.hid (below_next HBq5.out kbq7)
    go_wp2_with fail
    go_ret
    exact ⟨rfl, HBq8.out⟩
  · have HF := Lib.hid hf
    clear hf
    have l9 := HR1.out.head
    go_wp2_with (refine wpList_load_row rfl 22 (.tmp 1) rfl g0 rfl 22 (arrB a) (0, 0) _ l9 Try.underlying22 rfl (arr32_info Ha.out) ?_)
    obtain ⟨p10, hp10⟩ : ∃ y_ : PtD, decP a = y_ := ⟨_, rfl⟩
    have Hp10 := Lib.hid hp10
    clear hp10
    have Ht11 : Hid (decF a = true) := Lib.hid HF.out
    have kq12 := fun W : World => (D.decode a Ha.out) W
    rw [Hp10.out, Ht11.out] at kq12
    have Kq12 := Lib.hid kq12
    clear kq12
    with_reducible refine (Kq12.out _).mono ?_
    rintro e vq12 ⟨cq12, rfl, rq12, hbq12⟩
    have Rq12 := Lib.hid rq12
    clear rq12
    have HRq12 := Lib.hid (HR1.out.below hbq12)
    have HBq12 := Lib.hid (below_next HB1.out hbq12)
    clear hbq12
    have h0q13 : (vq12.alloc (.cells Z 28)).heap[vq12.heap.size]? = some (.cells Z 28 (0, 0)) := heap_alloc_new _ _
    have HRq13 := Lib.hid (HRq12.out.new Z cq12 28)
    have HBq13 := Lib.hid (below_new HBq12.out Z cq12 28)
    have HNq13 := Lib.hid HRq12.out.ne
    have HGq13 := Lib.hid HBq12.out.size
    go_upto_region 3 with (refine wpList_store_row rfl 28 (.tmp 4) (.tmp 12) rfl vq12.heap.size cq12 rfl rfl 28 Z h0q13 (D.base.info Rq12.out) (sZ Rq12.out) (D.base.one Rq12.out) ?_)
    obtain ⟨Wq13, hWq13⟩ : ∃ W, (vq12.alloc (.cells Z 28)).setRow vq12.heap.size cq12 = W := ⟨_, rfl⟩
    obtain ⟨gq13, hgq13⟩ : ∃ g, vq12.heap.size = g := ⟨_, rfl⟩
    rw [hWq13, hgq13] at HRq13
    rw [hWq13] at HBq13
    rw [hgq13] at HNq13 HGq13
    rw [hWq13, hgq13]
    clear hWq13 hgq13 h0q13
    have NEq13_0 : Hid (g0 ≠ gq13) := Lib.hid (HNq13.out (g0, (arrB a), 22) (by simp))
    go_upto_region 5 with fail
    have l14 := HRq13.out.head
    go_wp2_with (refine wpList_load_row rfl 28 (.tmp 4) rfl gq13 rfl 28 cq12 (0, 0) _ l14 Try.underlying28 rfl (D.base.info Rq12.out) ?_)
    with_reducible refine ((D.encode Rq12.out) _).mono ?_
    rintro e vq15 ⟨rfl, hbq15⟩
    have HRq15 := Lib.hid (HRq13.out.below hbq15)
    have HBq15 := Lib.hid (below_next HBq13.out hbq15)
    clear hbq15
    go_wp2_with fail
    have z29 : ∀ W : World, Calls Try.prog 10 #[.agg (bytT (F25519.encN p10))] W (RetPtB R W p10 true) := fun W => by have h := D.decode _ (leB_len 32 (F25519.encN p10)) W; rw [(dec_enc p10).1, (dec_enc p10).2] at h; exact h
    with_reducible refine ((fun W => z29 W) _).mono ?_
    rintro e vq16 ⟨cq16, rfl, rq16, hbq16⟩
    have Rq16 := Lib.hid rq16
    clear rq16
    have HRq16 := Lib.hid (HRq15.out.below hbq16)
    have HBq16 := Lib.hid (below_next HBq15.out hbq16)
    clear hbq16
    have h0q17 : (vq16.alloc (.cells Z 28)).heap[vq16.heap.size]? = some (.cells Z 28 (0, 0)) := heap_alloc_new _ _
    have HRq17 := Lib.hid (HRq16.out.new Z cq16 28)
    have HBq17 := Lib.hid (below_new HBq16.out Z cq16 28)
    have HNq17 := Lib.hid HRq16.out.ne
    have HGq17 := Lib.hid HBq16.out.size
    go_upto_region 6 with (refine wpList_store_row rfl 28 (.tmp 6) (.tmp 30) rfl vq16.heap.size cq16 rfl rfl 28 Z h0q17 (D.base.info Rq16.out) (sZ Rq16.out) (D.base.one Rq16.out) ?_)
    obtain ⟨Wq17, hWq17⟩ : ∃ W, (vq16.alloc (.cells Z 28)).setRow vq16.heap.size cq16 = W := ⟨_, rfl⟩
    obtain ⟨gq17, hgq17⟩ : ∃ g, vq16.heap.size = g := ⟨_, rfl⟩
    rw [hWq17, hgq17] at HRq17
    rw [hWq17] at HBq17
    rw [hgq17] at HNq17 HGq17
    rw [hWq17, hgq17]
    clear hWq17 hgq17 h0q17
    have NEq17_0 : Hid (g0 ≠ gq17) := Lib.hid (HNq17.out (g0, (arrB a), 22) (by simp))
    have NEq17_1 : Hid (gq13 ≠ gq17) := Lib.hid (HNq17.out (gq13, cq12, 28) (by simp))
    refine wp_region_noPanic ?_
    refine wp_region_held_drew (S := fun W => Below Wq17.heap.size Wq17 W) (by kernel_rfl) (by exact (Below.refl _ _).drew) (fun hS => ?_)
    refine' take_at 0 rfl (by kernel_rfl) (by kernel_rfl) (by kernel_rfl) (fun _ _ _ h => h) (by rfl) hS ?_ ?_ ?_
    rotate_left 2
    · intro W hSW; exact run_loadR rfl rfl (HRq17.out.below hSW).tail.head Try.underlying28 rfl (D.base.info Rq12.out)
    · simp only [List.set_cons_succ, List.set_cons_zero]; rfl
    refine' take_at 2 rfl (by kernel_rfl) (by kernel_rfl) (by kernel_rfl) (fun _ _ _ h => h) (by rfl) hS ?_ ?_ ?_
    rotate_left 2
    · intro W hSW; exact run_loadR rfl rfl (HRq17.out.below hSW).tail.tail.head Try.underlying22 rfl (arr32_info Ha.out)
    · simp only [List.set_cons_succ, List.set_cons_zero]; rfl
    refine call_at 1 rfl (by kernel_rfl) (by rfl) (fun K hK => ?_)
    go_simp
    with_reducible refine ((D.encode Rq12.out) _).mono ?_
    rintro e vq18 ⟨rfl, hbq18⟩
    have kbq18 := below_next hS hbq18
    clear hS hbq18
    refine hK.out _ _ (by exact kbq18) (fun hS => ?_)
    clear hK K
    refine' take_at 3 rfl (by kernel_rfl) (by kernel_rfl) (by kernel_rfl) (fun _ _ _ h => h) (by rfl) hS ?_ ?_ ?_
    rotate_left 2
    · intro W hSW; exact run_eql2 rfl rfl rfl guardB (by rw [show (arrB a) = bytT (F25519.encN p10) from (show arrB a = arrB (leB 32 (F25519.encN p10)) by rw [← Hp10.out, dec_bytes Ha.out HF.out])]; exact eqBytT (F25519.encN p10) W)
    · simp only [List.set_cons_succ, List.set_cons_zero]; rfl
    refine' take_at 4 rfl (by kernel_rfl) (by kernel_rfl) (by kernel_rfl) (fun _ _ _ h => h) (by rfl) hS ?_ ?_ ?_
    rotate_left 2
    · intro W hSW; go_simp; try with_reducible rfl
    · simp only [List.set_cons_succ, List.set_cons_zero]; rfl
    refine' take_at 5 rfl (by kernel_rfl) (by kernel_rfl) (by kernel_rfl) (fun _ _ _ h => h) (by rfl) hS ?_ ?_ ?_
    rotate_left 2
    · intro W hSW; go_simp; try with_reducible rfl
    · simp only [List.set_cons_succ, List.set_cons_zero]; rfl
    refine' take_at 6 rfl (by kernel_rfl) (by kernel_rfl) (by kernel_rfl) (fun _ _ _ h => h) (by rfl) hS ?_ ?_ ?_
    rotate_left 2
    · intro W hSW; go_simp; try with_reducible rfl
    · simp only [List.set_cons_succ, List.set_cons_zero]; rfl
    refine' take_at 7 rfl (by kernel_rfl) (by kernel_rfl) (by kernel_rfl) (fun _ _ _ h => h) (by rfl) hS ?_ ?_ ?_
    rotate_left 2
    · intro W hSW; go_simp; try with_reducible rfl
    · simp only [List.set_cons_succ, List.set_cons_zero]; rfl
    refine' take_at 8 rfl (by kernel_rfl) (by kernel_rfl) (by kernel_rfl) (fun _ _ _ h => h) (by rfl) hS ?_ ?_ ?_
    rotate_left 2
    · intro W hSW; exact run_loadR rfl rfl (HRq17.out.below hSW).tail.head Try.underlying28 rfl (D.base.info Rq12.out)
    · simp only [List.set_cons_succ, List.set_cons_zero]; rfl
    refine' take_at 9 rfl (by kernel_rfl) (by kernel_rfl) (by kernel_rfl) (fun _ _ _ h => h) (by rfl) hS ?_ ?_ ?_
    rotate_left 2
    · intro W hSW; exact run_loadR rfl rfl (HRq17.out.below hSW).head Try.underlying28 rfl (D.base.info Rq16.out)
    · simp only [List.set_cons_succ, List.set_cons_zero]; rfl
    refine call_at 10 rfl (by kernel_rfl) (by rfl) (fun K hK => ?_)
    go_simp
    have kq19 := fun W : World => (D.equal Rq12.out Rq16.out) W
    rw [show ptEq p10 p10 = true from (ptEq_self _)] at kq19
    have Kq19 := Lib.hid kq19
    clear kq19
    with_reducible refine (Kq19.out _).mono ?_
    rintro e vq19 ⟨rfl, hbq19⟩
    have kbq19 := below_next kbq18 hbq19
    clear hS hbq19
    refine hK.out _ _ (by exact kbq19) (fun hS => ?_)
    clear hK K
    refine' take_at 11 rfl (by kernel_rfl) (by kernel_rfl) (by kernel_rfl) (fun _ _ _ h => h) (by rfl) hS ?_ ?_ ?_
    rotate_left 2
    · intro W hSW; go_simp; try with_reducible rfl
    · simp only [List.set_cons_succ, List.set_cons_zero]; rfl
    refine' take_at 12 rfl (by kernel_rfl) (by kernel_rfl) (by kernel_rfl) (fun _ _ _ h => h) (by rfl) hS ?_ ?_ ?_
    rotate_left 2
    · intro W hSW; go_simp; try with_reducible rfl
    · simp only [List.set_cons_succ, List.set_cons_zero]; rfl
    refine wpAnyH_done (by kernel_rfl) ?_ _
    refine NoPanic.normal ?_
    clear hS
    (try simp only [Act.put])
    have HRq20 := Lib.hid (HRq17.out.below kbq19)
    have HBq20 := Lib.hid (below_next HBq17.out kbq19)
    go_wp2_with fail
    go_ret
    exact ⟨rfl, HBq20.out⟩
end Go.Proofs.Ytddijcopoaeejaa

