/- The walk of PowersRatio. Written by wip/tools. -/
import Derived.Test.YtjekeblcppkghaaLaw10Alive
import Derived.Test.YtjekeblcppkghaaGheld
namespace Go.Proofs.Ytjekeblcppkghaa
open Go.RowKit
set_option linter.unusedVariables false
set_option maxRecDepth 100000

set_option maxHeartbeats 6400000 in
theorem law10Ratio {R : Array Value → Nat → Prop} (C : Fe10C R) (D : PowC R) (a : List UInt8) (ha : a.length = 32) (b : List UInt8) (hb : b.length = 32) (w : World) : Calls Try.prog 7 #[.agg (arrB a), .agg (arrB b)] w fun e w' => e = .returned (.bool true) ∧ Below w.heap.size w w' := by
  have HAL : Hid (∀ W : World, Calls Try.prog 8 #[] W fun e w' => e = .returned (.bool true) ∧ Below W.heap.size W w') := Lib.hid (fun W => alive10_any C D W)
  obtain ⟨Z, hZ, RZ⟩ := C.base.zero
  have hzR := refT_zero
  have hz32 := zero32_zero
  have Ha := Lib.hid ha
  have Hb := Lib.hid hb
  clear ha hb
  go_enter Try.func7, Try.ntmps7
  go_wp2_with fail
  have HR0 := Lib.hid (((RowsW.nil w).box (arrB a) 22).box (arrB b) 22)
  have HB0 := Lib.hid (below_box (below_box (Below.refl w.heap.size w) (arrB a) 22) (arrB b) 22)
  rw [World.size_alloc] at HR0
  obtain ⟨W0, hW0⟩ : ∃ W, ((w.alloc (.cells (arrB a) 22)).alloc (.cells (arrB b) 22)) = W := ⟨_, rfl⟩
  obtain ⟨g0, hg0⟩ : ∃ g, w.heap.size = g := ⟨_, rfl⟩
  rw [hW0] at HR0 HB0
  rw [hg0] at HR0
  rw [hW0, hg0]
  have HG0 := Lib.hid hg0
  clear hW0 hg0
  with_reducible refine (HAL.out _).mono ?_
  rintro e v1 ⟨rfl, hb1⟩
  have HR1 := Lib.hid (HR0.out.below hb1)
  have HB1 := Lib.hid (below_next HB0.out hb1)
  clear hb1
  go_upto_region 2 with fail
  have l1 := HR1.out.tail.head
  go_wp2_with (refine wpList_load_row rfl 22 (.tmp 2) rfl g0 rfl 22 (arrB a) (0, 0) _ l1 Try.underlying22 rfl (arr32_info Ha.out) ?_)
  obtain ⟨n2, hn2⟩ : ∃ x : Nat, feN a = x := ⟨_, rfl⟩
  have Hn2 := Lib.hid hn2
  have HLn2 : Hid (n2 < PP) := Lib.hid (by rw [← hn2]; exact Nat.mod_lt _ (by decide))
  clear hn2
  with_reducible refine ((C.from_ a Ha.out) _).mono ?_
  rintro e vq3 ⟨cq3, rfl, rq3, hbq3⟩
  rw [Hn2.out] at rq3
  have Rq3 := Lib.hid rq3
  clear rq3
  have HRq3 := Lib.hid (HR1.out.below hbq3)
  have HBq3 := Lib.hid (below_next HB1.out hbq3)
  clear hbq3
  have h0q4 : (vq3.alloc (.cells Z 26)).heap[vq3.heap.size]? = some (.cells Z 26 (0, 0)) := heap_alloc_new _ _
  have HRq4 := Lib.hid (HRq3.out.new Z cq3 26)
  have HBq4 := Lib.hid (below_new HBq3.out Z cq3 26)
  have HNq4 := Lib.hid HRq3.out.ne
  have HGq4 := Lib.hid HBq3.out.size
  go_upto_region 3 with (refine wpList_store_row rfl 26 (.tmp 6) (.tmp 14) rfl vq3.heap.size cq3 rfl rfl 26 Z h0q4 (C.base.info Rq3.out) (C.base.size RZ Rq3.out) (C.base.one Rq3.out) ?_)
  obtain ⟨Wq4, hWq4⟩ : ∃ W, (vq3.alloc (.cells Z 26)).setRow vq3.heap.size cq3 = W := ⟨_, rfl⟩
  obtain ⟨gq4, hgq4⟩ : ∃ g, vq3.heap.size = g := ⟨_, rfl⟩
  rw [hWq4, hgq4] at HRq4
  rw [hWq4] at HBq4
  rw [hgq4] at HNq4 HGq4
  rw [hWq4, hgq4]
  clear hWq4 hgq4 h0q4
  have NEq4_0 : Hid (g0 ≠ gq4) := Lib.hid (HNq4.out (g0, (arrB a), 22) (by simp))
  have NEq4_1 : Hid ((g0 + 1) ≠ gq4) := Lib.hid (HNq4.out ((g0 + 1), (arrB b), 22) (by simp))
  have l5 := HRq4.out.tail.head
  go_wp2_with (refine wpList_load_row rfl 22 (.tmp 3) rfl (g0 + 1) rfl 22 (arrB b) (0, 0) _ l5 Try.underlying22 rfl (arr32_info Hb.out) ?_)
  obtain ⟨n6, hn6⟩ : ∃ x : Nat, feN b = x := ⟨_, rfl⟩
  have Hn6 := Lib.hid hn6
  have HLn6 : Hid (n6 < PP) := Lib.hid (by rw [← hn6]; exact Nat.mod_lt _ (by decide))
  clear hn6
  with_reducible refine ((C.from_ b Hb.out) _).mono ?_
  rintro e vq7 ⟨cq7, rfl, rq7, hbq7⟩
  rw [Hn6.out] at rq7
  have Rq7 := Lib.hid rq7
  clear rq7
  have HRq7 := Lib.hid (HRq4.out.below hbq7)
  have HBq7 := Lib.hid (below_next HBq4.out hbq7)
  clear hbq7
  have h0q8 : (vq7.alloc (.cells Z 26)).heap[vq7.heap.size]? = some (.cells Z 26 (0, 0)) := heap_alloc_new _ _
  have HRq8 := Lib.hid (HRq7.out.new Z cq7 26)
  have HBq8 := Lib.hid (below_new HBq7.out Z cq7 26)
  have HNq8 := Lib.hid HRq7.out.ne
  have HGq8 := Lib.hid HBq7.out.size
  go_upto_region 4 with (refine wpList_store_row rfl 26 (.tmp 7) (.tmp 16) rfl vq7.heap.size cq7 rfl rfl 26 Z h0q8 (C.base.info Rq7.out) (C.base.size RZ Rq7.out) (C.base.one Rq7.out) ?_)
  obtain ⟨Wq8, hWq8⟩ : ∃ W, (vq7.alloc (.cells Z 26)).setRow vq7.heap.size cq7 = W := ⟨_, rfl⟩
  obtain ⟨gq8, hgq8⟩ : ∃ g, vq7.heap.size = g := ⟨_, rfl⟩
  rw [hWq8, hgq8] at HRq8
  rw [hWq8] at HBq8
  rw [hgq8] at HNq8 HGq8
  rw [hWq8, hgq8]
  clear hWq8 hgq8 h0q8
  have NEq8_0 : Hid (g0 ≠ gq8) := Lib.hid (HNq8.out (g0, (arrB a), 22) (by simp))
  have NEq8_1 : Hid ((g0 + 1) ≠ gq8) := Lib.hid (HNq8.out ((g0 + 1), (arrB b), 22) (by simp))
  have NEq8_2 : Hid (gq4 ≠ gq8) := Lib.hid (HNq8.out (gq4, cq3, 26) (by simp))
  cases hok : fineN n2 n6
  · have HOK := Lib.hid hok
    clear hok
    have l9 := HRq8.out.tail.head
    have l10 := HRq8.out.head
    go_wp2_with (first
        | (refine wpList_load_row rfl 26 (.tmp 6) rfl gq4 rfl 26 cq3 (0, 0) _ l9 Try.underlying26 rfl (C.base.info Rq3.out) ?_)
        | (refine wpList_load_row rfl 26 (.tmp 7) rfl gq8 rfl 26 cq7 (0, 0) _ l10 Try.underlying26 rfl (C.base.info Rq7.out) ?_))
    obtain ⟨n11, hn11⟩ : ∃ y : Nat, ratN n2 n6 = y := ⟨_, rfl⟩
    have Hn11 := Lib.hid hn11
    have HLn11 : Hid (n11 < PP) := Lib.hid (by rw [← hn11]; exact ratN_lt _ _)
    clear hn11
    have Ht12 : Hid (fineN n2 n6 = false) := Lib.hid HOK.out
    have kq13 := fun W : World => (D.ratio Rq3.out Rq7.out) W
    rw [Hn11.out, Ht12.out] at kq13
    have Kq13 := Lib.hid kq13
    clear kq13
    with_reducible refine (Kq13.out _).mono ?_
    rintro e vq13 ⟨cq13, rfl, rq13, hbq13⟩
    have Rq13 := Lib.hid rq13
    clear rq13
    have HRq13 := Lib.hid (HRq8.out.below hbq13)
    have HBq13 := Lib.hid (below_next HBq8.out hbq13)
    clear hbq13
    have h0q14 : (vq13.alloc (.cells Z 26)).heap[vq13.heap.size]? = some (.cells Z 26 (0, 0)) := heap_alloc_new _ _
    have HRq14 := Lib.hid (HRq13.out.new Z cq13 26)
    have HBq14 := Lib.hid (below_new HBq13.out Z cq13 26)
    have HNq14 := Lib.hid HRq13.out.ne
    have HGq14 := Lib.hid HBq13.out.size
    go_upto_region 5 with (refine wpList_store_row rfl 26 (.tmp 8) (.tmp 21) rfl vq13.heap.size cq13 rfl rfl 26 Z h0q14 (C.base.info Rq13.out) (C.base.size RZ Rq13.out) (C.base.one Rq13.out) ?_)
    obtain ⟨Wq14, hWq14⟩ : ∃ W, (vq13.alloc (.cells Z 26)).setRow vq13.heap.size cq13 = W := ⟨_, rfl⟩
    obtain ⟨gq14, hgq14⟩ : ∃ g, vq13.heap.size = g := ⟨_, rfl⟩
    rw [hWq14, hgq14] at HRq14
    rw [hWq14] at HBq14
    rw [hgq14] at HNq14 HGq14
    rw [hWq14, hgq14]
    clear hWq14 hgq14 h0q14
    have NEq14_0 : Hid (g0 ≠ gq14) := Lib.hid (HNq14.out (g0, (arrB a), 22) (by simp))
    have NEq14_1 : Hid ((g0 + 1) ≠ gq14) := Lib.hid (HNq14.out ((g0 + 1), (arrB b), 22) (by simp))
    have NEq14_2 : Hid (gq4 ≠ gq14) := Lib.hid (HNq14.out (gq4, cq3, 26) (by simp))
    have NEq14_3 : Hid (gq8 ≠ gq14) := Lib.hid (HNq14.out (gq8, cq7, 26) (by simp))
    have l15 := HRq14.out.head
    go_wp2_with (refine wpList_runsV (o := ⟨some 26, _, _, _, _, _⟩) rfl (.agg cq13) (run_loadR rfl rfl l15 Try.underlying26 rfl (C.base.info Rq13.out)) ?_)
    have Ht16 : Hid (decide (n11 % 2 = 1) = false) := Lib.hid (decide_eq_false (by rw [← Hn11.out]; have := ratN_even n2 n6; omega))
    have kq17 := fun W : World => (C.odd Rq13.out) W
    rw [Ht16.out] at kq17
    have Kq17 := Lib.hid kq17
    clear kq17
    with_reducible refine (Kq17.out _).mono ?_
    rintro e vq17 ⟨rfl, hbq17⟩
    have HRq17 := Lib.hid (HRq14.out.below hbq17)
    have HBq17 := Lib.hid (below_next HBq14.out hbq17)
    clear hbq17
    have l18 := HRq17.out.head
    go_wp2_with (refine wpList_runsV (o := ⟨some 33, _, _, _, _, _⟩) rfl (.agg cq13) (run_loadR rfl rfl l18 Try.underlying26 rfl (C.base.info Rq13.out)) ?_)
    have kq19 := fun W : World => (C.isZero Rq13.out) W
    rw [decide_eq_true (show n11 = 0 from (by rw [← Hn11.out]; exact ratN_none HOK.out))] at kq19
    have Kq19 := Lib.hid kq19
    clear kq19
    with_reducible refine (Kq19.out _).mono ?_
    rintro e vq19 ⟨rfl, hbq19⟩
    have HRq19 := Lib.hid (HRq17.out.below hbq19)
    have HBq19 := Lib.hid (below_next HBq17.out hbq19)
    clear hbq19
    go_upto_region 7 with fail
    by_cases h0 : n6 = 0
    · have HY0 := Lib.hid h0
      clear h0
      have HX0 : Hid (decide (n2 = 0) = false) := Lib.hid (by have h := HOK.out; rw [HY0.out] at h; unfold fineN at h; rwa [if_pos rfl] at h)
      have l20 := HRq19.out.tail.head
      go_wp2_with (refine wpList_load_row rfl 26 (.tmp 7) rfl gq8 rfl 26 cq7 (0, 0) _ l20 Try.underlying26 rfl (C.base.info Rq7.out) ?_)
      have kq21 := fun W : World => (C.isZero Rq7.out) W
      rw [decide_eq_true (show n6 = 0 from HY0.out)] at kq21
      have Kq21 := Lib.hid kq21
      clear kq21
      with_reducible refine (Kq21.out _).mono ?_
      rintro e vq21 ⟨rfl, hbq21⟩
      have HRq21 := Lib.hid (HRq19.out.below hbq21)
      have HBq21 := Lib.hid (below_next HBq19.out hbq21)
      clear hbq21
      go_upto_region 8 with fail
      have l22 := HRq21.out.tail.tail.head
      go_wp2_with (refine wpList_load_row rfl 26 (.tmp 6) rfl gq4 rfl 26 cq3 (0, 0) _ l22 Try.underlying26 rfl (C.base.info Rq3.out) ?_)
      have kq23 := fun W : World => (C.isZero Rq3.out) W
      rw [decide_eq_false (show ¬ n2 = 0 from (of_decide_eq_false HX0.out))] at kq23
      have Kq23 := Lib.hid kq23
      clear kq23
      with_reducible refine (Kq23.out _).mono ?_
      rintro e vq23 ⟨rfl, hbq23⟩
      have HRq23 := Lib.hid (HRq21.out.below hbq23)
      have HBq23 := Lib.hid (below_next HBq21.out hbq23)
      clear hbq23
      have l24 := HRq23.out.head
      go_wp2_with (refine wpList_runsV (o := ⟨some 45, _, _, _, _, _⟩) rfl (.agg cq13) (run_loadR rfl rfl l24 Try.underlying26 rfl (C.base.info Rq13.out)) ?_)
      have kq25 := fun W : World => (C.isZero Rq13.out) W
      rw [decide_eq_true (show n11 = 0 from (by rw [← Hn11.out, HY0.out]; unfold ratN; rw [if_pos rfl]))] at kq25
      have Kq25 := Lib.hid kq25
      clear kq25
      with_reducible refine (Kq25.out _).mono ?_
      rintro e vq25 ⟨rfl, hbq25⟩
      have HRq25 := Lib.hid (HRq23.out.below hbq25)
      have HBq25 := Lib.hid (below_next HBq23.out hbq25)
      clear hbq25
      go_wp2_with fail
      go_ret
      exact ⟨rfl, HBq25.out⟩
    · have HY0 := Lib.hid h0
      clear h0
      have l26 := HRq19.out.tail.head
      go_wp2_with (refine wpList_load_row rfl 26 (.tmp 7) rfl gq8 rfl 26 cq7 (0, 0) _ l26 Try.underlying26 rfl (C.base.info Rq7.out) ?_)
      have kq27 := fun W : World => (C.isZero Rq7.out) W
      rw [decide_eq_false (show ¬ n6 = 0 from HY0.out)] at kq27
      have Kq27 := Lib.hid kq27
      clear kq27
      with_reducible refine (Kq27.out _).mono ?_
      rintro e vq27 ⟨rfl, hbq27⟩
      have HRq27 := Lib.hid (HRq19.out.below hbq27)
      have HBq27 := Lib.hid (below_next HBq19.out hbq27)
      clear hbq27
      go_upto_region 9 with fail
      obtain ⟨n28, hn28⟩ : ∃ x : Nat, (n2 * n2) % PP = x := ⟨_, rfl⟩
      have Hn28 := Lib.hid hn28
      have HLn28 : Hid (n28 < PP) := Lib.hid (by rw [← hn28]; exact Nat.mod_lt _ (by decide))
      clear hn28
      obtain ⟨n29, hn29⟩ : ∃ x : Nat, (n28 * n6) % PP = x := ⟨_, rfl⟩
      have Hn29 := Lib.hid hn29
      have HLn29 : Hid (n29 < PP) := Lib.hid (by rw [← hn29]; exact Nat.mod_lt _ (by decide))
      clear hn29
      refine wp_region_noPanic ?_
      refine wp_region_heldB 9 10 26 Z (by kernel_rfl) (by kernel_rfl) ⟨by kernel_rfl, by kernel_rfl, hZ, fun _ _ _ h => h⟩ (fun hA hS => ?_)
      refine' take_atB 0 hA rfl (by kernel_rfl) (by kernel_rfl) (by kernel_rfl) (by kernel_rfl) (by kernel_rfl) (by rfl) (by rfl) hS ?_ ?_ ?_
      rotate_left 2
      · intro W hSW; exact run_loadR rfl rfl (HRq27.out.below hSW).tail.tail.head Try.underlying26 rfl (C.base.info Rq3.out)
      · simp only [List.set_cons_succ, List.set_cons_zero]; rfl
      refine' take_atB 2 hA rfl (by kernel_rfl) (by kernel_rfl) (by kernel_rfl) (by kernel_rfl) (by kernel_rfl) (by rfl) (by rfl) hS ?_ ?_ ?_
      rotate_left 2
      · intro W hSW; exact run_loadR rfl rfl (HRq27.out.below hSW).tail.head Try.underlying26 rfl (C.base.info Rq7.out)
      · simp only [List.set_cons_succ, List.set_cons_zero]; rfl
      refine' take_atB 4 hA rfl (by kernel_rfl) (by kernel_rfl) (by kernel_rfl) (by kernel_rfl) (by kernel_rfl) (by rfl) (by rfl) hS ?_ ?_ ?_
      rotate_left 2
      · intro W hSW; exact run_loadR rfl rfl (HRq27.out.below hSW).tail.head Try.underlying26 rfl (C.base.info Rq7.out)
      · simp only [List.set_cons_succ, List.set_cons_zero]; rfl
      refine call_atB 1 hA rfl (by kernel_rfl) (by kernel_rfl) (by kernel_rfl) (by kernel_rfl) (by rfl) (by rfl) hS (fun oq30 Xq30 hS K hK => ?_)
      go_simp
      with_reducible refine ((C.square Rq3.out) _).mono ?_
      rintro e vq30 ⟨cq30, rfl, rq30, hbq30⟩
      rw [Hn28.out] at rq30
      have Rq30 := Lib.hid rq30
      clear rq30
      refine hK.out _ _ hbq30 (fun hS => ?_)
      clear hK K hbq30
      refine call_atB 3 hA rfl (by kernel_rfl) (by kernel_rfl) (by kernel_rfl) (by kernel_rfl) (by rfl) (by rfl) hS (fun oq31 Xq31 hS K hK => ?_)
      go_simp
      with_reducible refine ((C.mul Rq30.out Rq7.out) _).mono ?_
      rintro e vq31 ⟨cq31, rfl, rq31, hbq31⟩
      rw [Hn29.out] at rq31
      have Rq31 := Lib.hid rq31
      clear rq31
      refine hK.out _ _ hbq31 (fun hS => ?_)
      clear hK K hbq31
      refine call_atB 5 hA rfl (by kernel_rfl) (by kernel_rfl) (by kernel_rfl) (by kernel_rfl) (by rfl) (by rfl) hS (fun oq34 Xq34 hS K hK => ?_)
      go_simp
      obtain ⟨n32, hn32⟩ : ∃ y : Nat, ratN n29 n6 = y := ⟨_, rfl⟩
      have Hn32 := Lib.hid hn32
      have HLn32 : Hid (n32 < PP) := Lib.hid (by rw [← hn32]; exact ratN_lt _ _)
      clear hn32
      have Ht33 : Hid (fineN n29 n6 = true) := Lib.hid (show fineN n29 n6 = true ∧ (ratN n29 n6 = n2 ∨ ratN n29 n6 = (PP - n2) % PP) from by rw [← Hn29.out, ← Hn28.out]; exact ratN_of HLn2.out HLn6.out HY0.out).1
      have kq34 := fun W : World => (D.ratio Rq31.out Rq7.out) W
      rw [Hn32.out, Ht33.out] at kq34
      have Kq34 := Lib.hid kq34
      clear kq34
      with_reducible refine (Kq34.out _).mono ?_
      rintro e vq34 ⟨cq34, rfl, rq34, hbq34⟩
      have Rq34 := Lib.hid rq34
      clear rq34
      refine hK.out _ _ hbq34 (fun hS => ?_)
      clear hK K hbq34
      refine' take_atB 6 hA rfl (by kernel_rfl) (by kernel_rfl) (by kernel_rfl) (by kernel_rfl) (by kernel_rfl) (by rfl) (by rfl) hS ?_ ?_ ?_
      rotate_left 2
      · intro W hSW; go_simp; try with_reducible rfl
      · simp only [List.set_cons_succ, List.set_cons_zero]; rfl
      refine' take_atB 7 hA rfl (by kernel_rfl) (by kernel_rfl) (by kernel_rfl) (by kernel_rfl) (by kernel_rfl) (by rfl) (by rfl) hS ?_ ?_ ?_
      rotate_left 2
      · intro W hSW; go_simp; try with_reducible rfl
      · simp only [List.set_cons_succ, List.set_cons_zero]; rfl
      refine' take_atB 8 hA rfl (by kernel_rfl) (by kernel_rfl) (by kernel_rfl) (by kernel_rfl) (by kernel_rfl) (by rfl) (by rfl) hS ?_ ?_ ?_
      rotate_left 2
      · intro W hSW; go_simp; try with_reducible rfl
      · simp only [List.set_cons_succ, List.set_cons_zero]; rfl
      refine' store_atB 10 hA rfl (by kernel_rfl) (by kernel_rfl) (by kernel_rfl) hS (by kernel_rfl) rfl (by intro h; cases h) (C.base.info Rq34.out) (C.base.size RZ Rq34.out) (C.base.one Rq34.out) ?_ ?_
      rotate_left 1
      · intro g; simp only [List.set_cons_succ, List.set_cons_zero]; rfl
      intro gq35 Wq35 hgq35 hbq35 hrowq35
      clear hA hS
      refine' take_at 11 rfl (by kernel_rfl) (by kernel_rfl) (by kernel_rfl) (fun _ _ _ h => h) (by rfl) hbq35 ?_ ?_ ?_
      rotate_left 2
      · intro W hSW; go_simp; try with_reducible rfl
      · simp only [List.set_cons_succ, List.set_cons_zero]; rfl
      refine wpAnyH_done (by kernel_rfl) ?_ _
      refine NoPanic.normal ?_
      (try simp only [Act.put])
      have HRq35 : Hid (RowsW Wq35 [(gq35, cq34, 26), (gq14, cq13, 26), (gq8, cq7, 26), (gq4, cq3, 26), ((g0 + 1), (arrB b), 22), (g0, (arrB a), 22)]) := Lib.hid ⟨hrowq35, HRq27.out.below hbq35⟩
      have HBq35 := Lib.hid (below_next HBq27.out hbq35)
      have NEq35_0 : Hid (g0 ≠ gq35) := Lib.hid (by have h := HRq27.out.lt (g0, (arrB a), 22) (by simp); have := hgq35; simp only at h; omega)
      have NEq35_1 : Hid ((g0 + 1) ≠ gq35) := Lib.hid (by have h := HRq27.out.lt ((g0 + 1), (arrB b), 22) (by simp); have := hgq35; simp only at h; omega)
      have NEq35_2 : Hid (gq4 ≠ gq35) := Lib.hid (by have h := HRq27.out.lt (gq4, cq3, 26) (by simp); have := hgq35; simp only at h; omega)
      have NEq35_3 : Hid (gq8 ≠ gq35) := Lib.hid (by have h := HRq27.out.lt (gq8, cq7, 26) (by simp); have := hgq35; simp only at h; omega)
      have NEq35_4 : Hid (gq14 ≠ gq35) := Lib.hid (by have h := HRq27.out.lt (gq14, cq13, 26) (by simp); have := hgq35; simp only at h; omega)
      have HGq35 := Lib.hid (Nat.le_trans HBq27.out.size hgq35)
      clear hrowq35 hbq35 hgq35
      go_upto_region 10 with fail
      by_cases hrx : n32 = n2
      · have HRX := Lib.hid hrx
        clear hrx
        refine wp_region_noPanic ?_
        refine wp_region_held_drew (S := fun W => Below Wq35.heap.size Wq35 W) (by kernel_rfl) (by exact (Below.refl _ _).drew) (fun hS => ?_)
        refine' take_at 0 rfl (by kernel_rfl) (by kernel_rfl) (by kernel_rfl) (fun _ _ _ h => h) (by rfl) hS ?_ ?_ ?_
        rotate_left 2
        · intro W hSW; go_simp; try with_reducible rfl
        · simp only [List.set_cons_succ, List.set_cons_zero]; rfl
        refine' take_at 1 rfl (by kernel_rfl) (by kernel_rfl) (by kernel_rfl) (fun _ _ _ h => h) (by rfl) hS ?_ ?_ ?_
        rotate_left 2
        · intro W hSW; go_simp; try with_reducible rfl
        · simp only [List.set_cons_succ, List.set_cons_zero]; rfl
        refine' take_at 2 rfl (by kernel_rfl) (by kernel_rfl) (by kernel_rfl) (fun _ _ _ h => h) (by rfl) hS ?_ ?_ ?_
        rotate_left 2
        · intro W hSW; go_simp; try with_reducible rfl
        · simp only [List.set_cons_succ, List.set_cons_zero]; rfl
        refine' skip_at 3 rfl (by kernel_rfl) (by kernel_rfl) (by kernel_rfl) (fun _ _ _ h => h) (by rfl) hS ?_ ?_
        rotate_left 1
        · simp only [List.set_cons_succ, List.set_cons_zero]; rfl
        refine' skip_at 4 rfl (by kernel_rfl) (by kernel_rfl) (by kernel_rfl) (fun _ _ _ h => h) (by rfl) hS ?_ ?_
        rotate_left 1
        · simp only [List.set_cons_succ, List.set_cons_zero]; rfl
        refine' skip_at 5 rfl (by kernel_rfl) (by kernel_rfl) (by kernel_rfl) (fun _ _ _ h => h) (by rfl) hS ?_ ?_
        rotate_left 1
        · simp only [List.set_cons_succ, List.set_cons_zero]; rfl
        refine' skip_at 6 rfl (by kernel_rfl) (by kernel_rfl) (by kernel_rfl) (fun _ _ _ h => h) (by rfl) hS ?_ ?_
        rotate_left 1
        · simp only [List.set_cons_succ, List.set_cons_zero]; rfl
        refine' skip_at 7 rfl (by kernel_rfl) (by kernel_rfl) (by kernel_rfl) (fun _ _ _ h => h) (by rfl) hS ?_ ?_
        rotate_left 1
        · simp only [List.set_cons_succ, List.set_cons_zero]; rfl
        refine' skip_at 8 rfl (by kernel_rfl) (by kernel_rfl) (by kernel_rfl) (fun _ _ _ h => h) (by rfl) hS ?_ ?_
        rotate_left 1
        · simp only [List.set_cons_succ, List.set_cons_zero]; rfl
        refine' take_at 9 rfl (by kernel_rfl) (by kernel_rfl) (by kernel_rfl) (fun _ _ _ h => h) (by rfl) hS ?_ ?_ ?_
        rotate_left 2
        · intro W hSW; go_simp; try with_reducible rfl
        · simp only [List.set_cons_succ, List.set_cons_zero]; rfl
        refine' take_at 10 rfl (by kernel_rfl) (by kernel_rfl) (by kernel_rfl) (fun _ _ _ h => h) (by rfl) hS ?_ ?_ ?_
        rotate_left 2
        · intro W hSW; go_simp; try with_reducible rfl
        · simp only [List.set_cons_succ, List.set_cons_zero]; rfl
        refine' take_at 11 rfl (by kernel_rfl) (by kernel_rfl) (by kernel_rfl) (fun _ _ _ h => h) (by rfl) hS ?_ ?_ ?_
        rotate_left 2
        · intro W hSW; go_simp; try with_reducible rfl
        · simp only [List.set_cons_succ, List.set_cons_zero]; rfl
        refine' take_at 12 rfl (by kernel_rfl) (by kernel_rfl) (by kernel_rfl) (fun _ _ _ h => h) (by rfl) hS ?_ ?_ ?_
        rotate_left 2
        · intro W hSW; go_simp; try with_reducible rfl
        · simp only [List.set_cons_succ, List.set_cons_zero]; rfl
        refine' take_at 13 rfl (by kernel_rfl) (by kernel_rfl) (by kernel_rfl) (fun _ _ _ h => h) (by rfl) hS ?_ ?_ ?_
        rotate_left 2
        · intro W hSW; go_simp; try with_reducible rfl
        · simp only [List.set_cons_succ, List.set_cons_zero]; rfl
        refine' take_at 14 rfl (by kernel_rfl) (by kernel_rfl) (by kernel_rfl) (fun _ _ _ h => h) (by rfl) hS ?_ ?_ ?_
        rotate_left 2
        · intro W hSW; exact run_loadR rfl rfl (HRq35.out.below hSW).head Try.underlying26 rfl (C.base.info Rq34.out)
        · simp only [List.set_cons_succ, List.set_cons_zero]; rfl
        refine' take_at 15 rfl (by kernel_rfl) (by kernel_rfl) (by kernel_rfl) (fun _ _ _ h => h) (by rfl) hS ?_ ?_ ?_
        rotate_left 2
        · intro W hSW; exact run_loadR rfl rfl (HRq35.out.below hSW).tail.tail.tail.head Try.underlying26 rfl (C.base.info Rq3.out)
        · simp only [List.set_cons_succ, List.set_cons_zero]; rfl
        refine call_at 16 rfl (by kernel_rfl) (by rfl) (fun K hK => ?_)
        go_simp
        have kq36 := fun W : World => (C.equal Rq34.out Rq3.out) W
        rw [decide_eq_true (show n32 = n2 from HRX.out)] at kq36
        have Kq36 := Lib.hid kq36
        clear kq36
        with_reducible refine (Kq36.out _).mono ?_
        rintro e vq36 ⟨rfl, hbq36⟩
        have kbq36 := below_next hS hbq36
        clear hS hbq36
        refine hK.out _ _ (by exact kbq36) (fun hS => ?_)
        clear hK K
        refine' take_at 17 rfl (by kernel_rfl) (by kernel_rfl) (by kernel_rfl) (fun _ _ _ h => h) (by rfl) hS ?_ ?_ ?_
        rotate_left 2
        · intro W hSW; go_simp; try with_reducible rfl
        · simp only [List.set_cons_succ, List.set_cons_zero]; rfl
        refine' skip_at 18 rfl (by kernel_rfl) (by kernel_rfl) (by kernel_rfl) (fun _ _ _ h => h) (by rfl) hS ?_ ?_
        rotate_left 1
        · simp only [List.set_cons_succ, List.set_cons_zero]; rfl
        refine' skip_at 19 rfl (by kernel_rfl) (by kernel_rfl) (by kernel_rfl) (fun _ _ _ h => h) (by rfl) hS ?_ ?_
        rotate_left 1
        · simp only [List.set_cons_succ, List.set_cons_zero]; rfl
        refine' skip_at 20 rfl (by kernel_rfl) (by kernel_rfl) (by kernel_rfl) (fun _ _ _ h => h) (by rfl) hS ?_ ?_
        rotate_left 1
        · simp only [List.set_cons_succ, List.set_cons_zero]; rfl
        refine' skip_at 21 rfl (by kernel_rfl) (by kernel_rfl) (by kernel_rfl) (fun _ _ _ h => h) (by rfl) hS ?_ ?_
        rotate_left 1
        · simp only [List.set_cons_succ, List.set_cons_zero]; rfl
        refine' take_at 22 rfl (by kernel_rfl) (by kernel_rfl) (by kernel_rfl) (fun _ _ _ h => h) (by rfl) hS ?_ ?_ ?_
        rotate_left 2
        · intro W hSW; go_simp; try with_reducible rfl
        · simp only [List.set_cons_succ, List.set_cons_zero]; rfl
        refine' take_at 23 rfl (by kernel_rfl) (by kernel_rfl) (by kernel_rfl) (fun _ _ _ h => h) (by rfl) hS ?_ ?_ ?_
        rotate_left 2
        · intro W hSW; go_simp; try with_reducible rfl
        · simp only [List.set_cons_succ, List.set_cons_zero]; rfl
        refine' take_at 24 rfl (by kernel_rfl) (by kernel_rfl) (by kernel_rfl) (fun _ _ _ h => h) (by rfl) hS ?_ ?_ ?_
        rotate_left 2
        · intro W hSW; go_simp; try with_reducible rfl
        · simp only [List.set_cons_succ, List.set_cons_zero]; rfl
        refine wpAnyH_done (by kernel_rfl) ?_ _
        refine NoPanic.normal ?_
        clear hS
        (try simp only [Act.put])
        have HRq37 := Lib.hid (HRq35.out.below kbq36)
        have HBq37 := Lib.hid (below_next HBq35.out kbq36)
        go_wp2_with fail
        go_ret
        exact ⟨rfl, HBq37.out⟩
      · have HRX := Lib.hid hrx
        clear hrx
        have HRN : Hid (n32 = (PP - n2) % PP) := Lib.hid ((show n32 = n2 ∨ n32 = (PP - n2) % PP from by rw [← Hn32.out]; exact (show fineN n29 n6 = true ∧ (ratN n29 n6 = n2 ∨ ratN n29 n6 = (PP - n2) % PP) from by rw [← Hn29.out, ← Hn28.out]; exact ratN_of HLn2.out HLn6.out HY0.out).2).resolve_left HRX.out)
        refine wp_region_noPanic ?_
        refine wp_region_held_drew (S := fun W => Below Wq35.heap.size Wq35 W) (by kernel_rfl) (by exact (Below.refl _ _).drew) (fun hS => ?_)
        refine' take_at 0 rfl (by kernel_rfl) (by kernel_rfl) (by kernel_rfl) (fun _ _ _ h => h) (by rfl) hS ?_ ?_ ?_
        rotate_left 2
        · intro W hSW; go_simp; try with_reducible rfl
        · simp only [List.set_cons_succ, List.set_cons_zero]; rfl
        refine' take_at 1 rfl (by kernel_rfl) (by kernel_rfl) (by kernel_rfl) (fun _ _ _ h => h) (by rfl) hS ?_ ?_ ?_
        rotate_left 2
        · intro W hSW; go_simp; try with_reducible rfl
        · simp only [List.set_cons_succ, List.set_cons_zero]; rfl
        refine' take_at 2 rfl (by kernel_rfl) (by kernel_rfl) (by kernel_rfl) (fun _ _ _ h => h) (by rfl) hS ?_ ?_ ?_
        rotate_left 2
        · intro W hSW; go_simp; try with_reducible rfl
        · simp only [List.set_cons_succ, List.set_cons_zero]; rfl
        refine' skip_at 3 rfl (by kernel_rfl) (by kernel_rfl) (by kernel_rfl) (fun _ _ _ h => h) (by rfl) hS ?_ ?_
        rotate_left 1
        · simp only [List.set_cons_succ, List.set_cons_zero]; rfl
        refine' skip_at 4 rfl (by kernel_rfl) (by kernel_rfl) (by kernel_rfl) (fun _ _ _ h => h) (by rfl) hS ?_ ?_
        rotate_left 1
        · simp only [List.set_cons_succ, List.set_cons_zero]; rfl
        refine' skip_at 5 rfl (by kernel_rfl) (by kernel_rfl) (by kernel_rfl) (fun _ _ _ h => h) (by rfl) hS ?_ ?_
        rotate_left 1
        · simp only [List.set_cons_succ, List.set_cons_zero]; rfl
        refine' skip_at 6 rfl (by kernel_rfl) (by kernel_rfl) (by kernel_rfl) (fun _ _ _ h => h) (by rfl) hS ?_ ?_
        rotate_left 1
        · simp only [List.set_cons_succ, List.set_cons_zero]; rfl
        refine' skip_at 7 rfl (by kernel_rfl) (by kernel_rfl) (by kernel_rfl) (fun _ _ _ h => h) (by rfl) hS ?_ ?_
        rotate_left 1
        · simp only [List.set_cons_succ, List.set_cons_zero]; rfl
        refine' skip_at 8 rfl (by kernel_rfl) (by kernel_rfl) (by kernel_rfl) (fun _ _ _ h => h) (by rfl) hS ?_ ?_
        rotate_left 1
        · simp only [List.set_cons_succ, List.set_cons_zero]; rfl
        refine' take_at 9 rfl (by kernel_rfl) (by kernel_rfl) (by kernel_rfl) (fun _ _ _ h => h) (by rfl) hS ?_ ?_ ?_
        rotate_left 2
        · intro W hSW; go_simp; try with_reducible rfl
        · simp only [List.set_cons_succ, List.set_cons_zero]; rfl
        refine' take_at 10 rfl (by kernel_rfl) (by kernel_rfl) (by kernel_rfl) (fun _ _ _ h => h) (by rfl) hS ?_ ?_ ?_
        rotate_left 2
        · intro W hSW; go_simp; try with_reducible rfl
        · simp only [List.set_cons_succ, List.set_cons_zero]; rfl
        refine' take_at 11 rfl (by kernel_rfl) (by kernel_rfl) (by kernel_rfl) (fun _ _ _ h => h) (by rfl) hS ?_ ?_ ?_
        rotate_left 2
        · intro W hSW; go_simp; try with_reducible rfl
        · simp only [List.set_cons_succ, List.set_cons_zero]; rfl
        refine' take_at 12 rfl (by kernel_rfl) (by kernel_rfl) (by kernel_rfl) (fun _ _ _ h => h) (by rfl) hS ?_ ?_ ?_
        rotate_left 2
        · intro W hSW; go_simp; try with_reducible rfl
        · simp only [List.set_cons_succ, List.set_cons_zero]; rfl
        refine' take_at 13 rfl (by kernel_rfl) (by kernel_rfl) (by kernel_rfl) (fun _ _ _ h => h) (by rfl) hS ?_ ?_ ?_
        rotate_left 2
        · intro W hSW; go_simp; try with_reducible rfl
        · simp only [List.set_cons_succ, List.set_cons_zero]; rfl
        refine' take_at 14 rfl (by kernel_rfl) (by kernel_rfl) (by kernel_rfl) (fun _ _ _ h => h) (by rfl) hS ?_ ?_ ?_
        rotate_left 2
        · intro W hSW; exact run_loadR rfl rfl (HRq35.out.below hSW).head Try.underlying26 rfl (C.base.info Rq34.out)
        · simp only [List.set_cons_succ, List.set_cons_zero]; rfl
        refine' take_at 15 rfl (by kernel_rfl) (by kernel_rfl) (by kernel_rfl) (fun _ _ _ h => h) (by rfl) hS ?_ ?_ ?_
        rotate_left 2
        · intro W hSW; exact run_loadR rfl rfl (HRq35.out.below hSW).tail.tail.tail.head Try.underlying26 rfl (C.base.info Rq3.out)
        · simp only [List.set_cons_succ, List.set_cons_zero]; rfl
        refine call_at 16 rfl (by kernel_rfl) (by rfl) (fun K hK => ?_)
        go_simp
        have kq38 := fun W : World => (C.equal Rq34.out Rq3.out) W
        rw [decide_eq_false (show ¬ n32 = n2 from HRX.out)] at kq38
        have Kq38 := Lib.hid kq38
        clear kq38
        with_reducible refine (Kq38.out _).mono ?_
        rintro e vq38 ⟨rfl, hbq38⟩
        have kbq38 := below_next hS hbq38
        clear hS hbq38
        refine hK.out _ _ (by exact kbq38) (fun hS => ?_)
        clear hK K
        refine' take_at 17 rfl (by kernel_rfl) (by kernel_rfl) (by kernel_rfl) (fun _ _ _ h => h) (by rfl) hS ?_ ?_ ?_
        rotate_left 2
        · intro W hSW; go_simp; try with_reducible rfl
        · simp only [List.set_cons_succ, List.set_cons_zero]; rfl
        refine' take_at 18 rfl (by kernel_rfl) (by kernel_rfl) (by kernel_rfl) (fun _ _ _ h => h) (by rfl) hS ?_ ?_ ?_
        rotate_left 2
        · intro W hSW; exact run_loadR rfl rfl (HRq35.out.below hSW).head Try.underlying26 rfl (C.base.info Rq34.out)
        · simp only [List.set_cons_succ, List.set_cons_zero]; rfl
        refine' take_at 19 rfl (by kernel_rfl) (by kernel_rfl) (by kernel_rfl) (fun _ _ _ h => h) (by rfl) hS ?_ ?_ ?_
        rotate_left 2
        · intro W hSW; exact run_loadR rfl rfl (HRq35.out.below hSW).tail.tail.tail.head Try.underlying26 rfl (C.base.info Rq3.out)
        · simp only [List.set_cons_succ, List.set_cons_zero]; rfl
        refine call_at 20 rfl (by kernel_rfl) (by rfl) (fun K hK => ?_)
        go_simp
        obtain ⟨n39, hn39⟩ : ∃ x : Nat, (PP - n2) % PP = x := ⟨_, rfl⟩
        have Hn39 := Lib.hid hn39
        have HLn39 : Hid (n39 < PP) := Lib.hid (by rw [← hn39]; exact Nat.mod_lt _ (by decide))
        clear hn39
        with_reducible refine ((C.neg Rq3.out) _).mono ?_
        rintro e vq40 ⟨cq40, rfl, rq40, hbq40⟩
        rw [Hn39.out] at rq40
        have Rq40 := Lib.hid rq40
        clear rq40
        have kbq40 := below_next kbq38 hbq40
        clear hS hbq40
        refine hK.out _ _ (by exact kbq40) (fun hS => ?_)
        clear hK K
        refine call_at 21 rfl (by kernel_rfl) (by rfl) (fun K hK => ?_)
        go_simp
        have kq41 := fun W : World => (C.equal Rq34.out Rq40.out) W
        rw [decide_eq_true (show n32 = n39 from (by rw [← Hn39.out]; exact HRN.out))] at kq41
        have Kq41 := Lib.hid kq41
        clear kq41
        with_reducible refine (Kq41.out _).mono ?_
        rintro e vq41 ⟨rfl, hbq41⟩
        have kbq41 := below_next kbq40 hbq41
        clear hS hbq41
        refine hK.out _ _ (by exact kbq41) (fun hS => ?_)
        clear hK K
        refine' take_at 22 rfl (by kernel_rfl) (by kernel_rfl) (by kernel_rfl) (fun _ _ _ h => h) (by rfl) hS ?_ ?_ ?_
        rotate_left 2
        · intro W hSW; go_simp; try with_reducible rfl
        · simp only [List.set_cons_succ, List.set_cons_zero]; rfl
        refine' take_at 23 rfl (by kernel_rfl) (by kernel_rfl) (by kernel_rfl) (fun _ _ _ h => h) (by rfl) hS ?_ ?_ ?_
        rotate_left 2
        · intro W hSW; go_simp; try with_reducible rfl
        · simp only [List.set_cons_succ, List.set_cons_zero]; rfl
        refine' take_at 24 rfl (by kernel_rfl) (by kernel_rfl) (by kernel_rfl) (fun _ _ _ h => h) (by rfl) hS ?_ ?_ ?_
        rotate_left 2
        · intro W hSW; go_simp; try with_reducible rfl
        · simp only [List.set_cons_succ, List.set_cons_zero]; rfl
        refine wpAnyH_done (by kernel_rfl) ?_ _
        refine NoPanic.normal ?_
        clear hS
        (try simp only [Act.put])
        have HRq42 := Lib.hid (HRq35.out.below kbq41)
        have HBq42 := Lib.hid (below_next HBq35.out kbq41)
        go_wp2_with fail
        go_ret
        exact ⟨rfl, HBq42.out⟩
  · have HOK := Lib.hid hok
    clear hok
    have l43 := HRq8.out.tail.head
    have l44 := HRq8.out.head
    go_wp2_with (first
        | (refine wpList_load_row rfl 26 (.tmp 6) rfl gq4 rfl 26 cq3 (0, 0) _ l43 Try.underlying26 rfl (C.base.info Rq3.out) ?_)
        | (refine wpList_load_row rfl 26 (.tmp 7) rfl gq8 rfl 26 cq7 (0, 0) _ l44 Try.underlying26 rfl (C.base.info Rq7.out) ?_))
    obtain ⟨n45, hn45⟩ : ∃ y : Nat, ratN n2 n6 = y := ⟨_, rfl⟩
    have Hn45 := Lib.hid hn45
    have HLn45 : Hid (n45 < PP) := Lib.hid (by rw [← hn45]; exact ratN_lt _ _)
    clear hn45
    have Ht46 : Hid (fineN n2 n6 = true) := Lib.hid HOK.out
    have kq47 := fun W : World => (D.ratio Rq3.out Rq7.out) W
    rw [Hn45.out, Ht46.out] at kq47
    have Kq47 := Lib.hid kq47
    clear kq47
    with_reducible refine (Kq47.out _).mono ?_
    rintro e vq47 ⟨cq47, rfl, rq47, hbq47⟩
    have Rq47 := Lib.hid rq47
    clear rq47
    have HRq47 := Lib.hid (HRq8.out.below hbq47)
    have HBq47 := Lib.hid (below_next HBq8.out hbq47)
    clear hbq47
    have h0q48 : (vq47.alloc (.cells Z 26)).heap[vq47.heap.size]? = some (.cells Z 26 (0, 0)) := heap_alloc_new _ _
    have HRq48 := Lib.hid (HRq47.out.new Z cq47 26)
    have HBq48 := Lib.hid (below_new HBq47.out Z cq47 26)
    have HNq48 := Lib.hid HRq47.out.ne
    have HGq48 := Lib.hid HBq47.out.size
    go_upto_region 5 with (refine wpList_store_row rfl 26 (.tmp 8) (.tmp 21) rfl vq47.heap.size cq47 rfl rfl 26 Z h0q48 (C.base.info Rq47.out) (C.base.size RZ Rq47.out) (C.base.one Rq47.out) ?_)
    obtain ⟨Wq48, hWq48⟩ : ∃ W, (vq47.alloc (.cells Z 26)).setRow vq47.heap.size cq47 = W := ⟨_, rfl⟩
    obtain ⟨gq48, hgq48⟩ : ∃ g, vq47.heap.size = g := ⟨_, rfl⟩
    rw [hWq48, hgq48] at HRq48
    rw [hWq48] at HBq48
    rw [hgq48] at HNq48 HGq48
    rw [hWq48, hgq48]
    clear hWq48 hgq48 h0q48
    have NEq48_0 : Hid (g0 ≠ gq48) := Lib.hid (HNq48.out (g0, (arrB a), 22) (by simp))
    have NEq48_1 : Hid ((g0 + 1) ≠ gq48) := Lib.hid (HNq48.out ((g0 + 1), (arrB b), 22) (by simp))
    have NEq48_2 : Hid (gq4 ≠ gq48) := Lib.hid (HNq48.out (gq4, cq3, 26) (by simp))
    have NEq48_3 : Hid (gq8 ≠ gq48) := Lib.hid (HNq48.out (gq8, cq7, 26) (by simp))
    have l49 := HRq48.out.head
    go_wp2_with (refine wpList_runsV (o := ⟨some 26, _, _, _, _, _⟩) rfl (.agg cq47) (run_loadR rfl rfl l49 Try.underlying26 rfl (C.base.info Rq47.out)) ?_)
    have Ht50 : Hid (decide (n45 % 2 = 1) = false) := Lib.hid (decide_eq_false (by rw [← Hn45.out]; have := ratN_even n2 n6; omega))
    have kq51 := fun W : World => (C.odd Rq47.out) W
    rw [Ht50.out] at kq51
    have Kq51 := Lib.hid kq51
    clear kq51
    with_reducible refine (Kq51.out _).mono ?_
    rintro e vq51 ⟨rfl, hbq51⟩
    have HRq51 := Lib.hid (HRq48.out.below hbq51)
    have HBq51 := Lib.hid (below_next HBq48.out hbq51)
    clear hbq51
    go_upto_region 7 with fail
    by_cases h0 : n6 = 0
    · have HY0 := Lib.hid h0
      clear h0
      have HX0 : Hid (decide (n2 = 0) = true) := Lib.hid (by have h := HOK.out; rw [HY0.out] at h; unfold fineN at h; rwa [if_pos rfl] at h)
      have l52 := HRq51.out.tail.head
      go_wp2_with (refine wpList_load_row rfl 26 (.tmp 7) rfl gq8 rfl 26 cq7 (0, 0) _ l52 Try.underlying26 rfl (C.base.info Rq7.out) ?_)
      have kq53 := fun W : World => (C.isZero Rq7.out) W
      rw [decide_eq_true (show n6 = 0 from HY0.out)] at kq53
      have Kq53 := Lib.hid kq53
      clear kq53
      with_reducible refine (Kq53.out _).mono ?_
      rintro e vq53 ⟨rfl, hbq53⟩
      have HRq53 := Lib.hid (HRq51.out.below hbq53)
      have HBq53 := Lib.hid (below_next HBq51.out hbq53)
      clear hbq53
      go_upto_region 8 with fail
      have l54 := HRq53.out.tail.tail.head
      go_wp2_with (refine wpList_load_row rfl 26 (.tmp 6) rfl gq4 rfl 26 cq3 (0, 0) _ l54 Try.underlying26 rfl (C.base.info Rq3.out) ?_)
      have kq55 := fun W : World => (C.isZero Rq3.out) W
      rw [decide_eq_true (show n2 = 0 from (of_decide_eq_true HX0.out))] at kq55
      have Kq55 := Lib.hid kq55
      clear kq55
      with_reducible refine (Kq55.out _).mono ?_
      rintro e vq55 ⟨rfl, hbq55⟩
      have HRq55 := Lib.hid (HRq53.out.below hbq55)
      have HBq55 := Lib.hid (below_next HBq53.out hbq55)
      clear hbq55
      have l56 := HRq55.out.head
      go_wp2_with (refine wpList_runsV (o := ⟨some 45, _, _, _, _, _⟩) rfl (.agg cq47) (run_loadR rfl rfl l56 Try.underlying26 rfl (C.base.info Rq47.out)) ?_)
      have kq57 := fun W : World => (C.isZero Rq47.out) W
      rw [decide_eq_true (show n45 = 0 from (by rw [← Hn45.out, HY0.out]; unfold ratN; rw [if_pos rfl]))] at kq57
      have Kq57 := Lib.hid kq57
      clear kq57
      with_reducible refine (Kq57.out _).mono ?_
      rintro e vq57 ⟨rfl, hbq57⟩
      have HRq57 := Lib.hid (HRq55.out.below hbq57)
      have HBq57 := Lib.hid (below_next HBq55.out hbq57)
      clear hbq57
      go_wp2_with fail
      go_ret
      exact ⟨rfl, HBq57.out⟩
    · have HY0 := Lib.hid h0
      clear h0
      have l58 := HRq51.out.tail.head
      go_wp2_with (refine wpList_load_row rfl 26 (.tmp 7) rfl gq8 rfl 26 cq7 (0, 0) _ l58 Try.underlying26 rfl (C.base.info Rq7.out) ?_)
      have kq59 := fun W : World => (C.isZero Rq7.out) W
      rw [decide_eq_false (show ¬ n6 = 0 from HY0.out)] at kq59
      have Kq59 := Lib.hid kq59
      clear kq59
      with_reducible refine (Kq59.out _).mono ?_
      rintro e vq59 ⟨rfl, hbq59⟩
      have HRq59 := Lib.hid (HRq51.out.below hbq59)
      have HBq59 := Lib.hid (below_next HBq51.out hbq59)
      clear hbq59
      go_upto_region 9 with fail
      obtain ⟨n60, hn60⟩ : ∃ x : Nat, (n2 * n2) % PP = x := ⟨_, rfl⟩
      have Hn60 := Lib.hid hn60
      have HLn60 : Hid (n60 < PP) := Lib.hid (by rw [← hn60]; exact Nat.mod_lt _ (by decide))
      clear hn60
      obtain ⟨n61, hn61⟩ : ∃ x : Nat, (n60 * n6) % PP = x := ⟨_, rfl⟩
      have Hn61 := Lib.hid hn61
      have HLn61 : Hid (n61 < PP) := Lib.hid (by rw [← hn61]; exact Nat.mod_lt _ (by decide))
      clear hn61
      refine wp_region_noPanic ?_
      refine wp_region_heldB 9 10 26 Z (by kernel_rfl) (by kernel_rfl) ⟨by kernel_rfl, by kernel_rfl, hZ, fun _ _ _ h => h⟩ (fun hA hS => ?_)
      refine' take_atB 0 hA rfl (by kernel_rfl) (by kernel_rfl) (by kernel_rfl) (by kernel_rfl) (by kernel_rfl) (by rfl) (by rfl) hS ?_ ?_ ?_
      rotate_left 2
      · intro W hSW; exact run_loadR rfl rfl (HRq59.out.below hSW).tail.tail.head Try.underlying26 rfl (C.base.info Rq3.out)
      · simp only [List.set_cons_succ, List.set_cons_zero]; rfl
      refine' take_atB 2 hA rfl (by kernel_rfl) (by kernel_rfl) (by kernel_rfl) (by kernel_rfl) (by kernel_rfl) (by rfl) (by rfl) hS ?_ ?_ ?_
      rotate_left 2
      · intro W hSW; exact run_loadR rfl rfl (HRq59.out.below hSW).tail.head Try.underlying26 rfl (C.base.info Rq7.out)
      · simp only [List.set_cons_succ, List.set_cons_zero]; rfl
      refine' take_atB 4 hA rfl (by kernel_rfl) (by kernel_rfl) (by kernel_rfl) (by kernel_rfl) (by kernel_rfl) (by rfl) (by rfl) hS ?_ ?_ ?_
      rotate_left 2
      · intro W hSW; exact run_loadR rfl rfl (HRq59.out.below hSW).tail.head Try.underlying26 rfl (C.base.info Rq7.out)
      · simp only [List.set_cons_succ, List.set_cons_zero]; rfl
      refine call_atB 1 hA rfl (by kernel_rfl) (by kernel_rfl) (by kernel_rfl) (by kernel_rfl) (by rfl) (by rfl) hS (fun oq62 Xq62 hS K hK => ?_)
      go_simp
      with_reducible refine ((C.square Rq3.out) _).mono ?_
      rintro e vq62 ⟨cq62, rfl, rq62, hbq62⟩
      rw [Hn60.out] at rq62
      have Rq62 := Lib.hid rq62
      clear rq62
      refine hK.out _ _ hbq62 (fun hS => ?_)
      clear hK K hbq62
      refine call_atB 3 hA rfl (by kernel_rfl) (by kernel_rfl) (by kernel_rfl) (by kernel_rfl) (by rfl) (by rfl) hS (fun oq63 Xq63 hS K hK => ?_)
      go_simp
      with_reducible refine ((C.mul Rq62.out Rq7.out) _).mono ?_
      rintro e vq63 ⟨cq63, rfl, rq63, hbq63⟩
      rw [Hn61.out] at rq63
      have Rq63 := Lib.hid rq63
      clear rq63
      refine hK.out _ _ hbq63 (fun hS => ?_)
      clear hK K hbq63
      refine call_atB 5 hA rfl (by kernel_rfl) (by kernel_rfl) (by kernel_rfl) (by kernel_rfl) (by rfl) (by rfl) hS (fun oq66 Xq66 hS K hK => ?_)
      go_simp
      obtain ⟨n64, hn64⟩ : ∃ y : Nat, ratN n61 n6 = y := ⟨_, rfl⟩
      have Hn64 := Lib.hid hn64
      have HLn64 : Hid (n64 < PP) := Lib.hid (by rw [← hn64]; exact ratN_lt _ _)
      clear hn64
      have Ht65 : Hid (fineN n61 n6 = true) := Lib.hid (show fineN n61 n6 = true ∧ (ratN n61 n6 = n2 ∨ ratN n61 n6 = (PP - n2) % PP) from by rw [← Hn61.out, ← Hn60.out]; exact ratN_of HLn2.out HLn6.out HY0.out).1
      have kq66 := fun W : World => (D.ratio Rq63.out Rq7.out) W
      rw [Hn64.out, Ht65.out] at kq66
      have Kq66 := Lib.hid kq66
      clear kq66
      with_reducible refine (Kq66.out _).mono ?_
      rintro e vq66 ⟨cq66, rfl, rq66, hbq66⟩
      have Rq66 := Lib.hid rq66
      clear rq66
      refine hK.out _ _ hbq66 (fun hS => ?_)
      clear hK K hbq66
      refine' take_atB 6 hA rfl (by kernel_rfl) (by kernel_rfl) (by kernel_rfl) (by kernel_rfl) (by kernel_rfl) (by rfl) (by rfl) hS ?_ ?_ ?_
      rotate_left 2
      · intro W hSW; go_simp; try with_reducible rfl
      · simp only [List.set_cons_succ, List.set_cons_zero]; rfl
      refine' take_atB 7 hA rfl (by kernel_rfl) (by kernel_rfl) (by kernel_rfl) (by kernel_rfl) (by kernel_rfl) (by rfl) (by rfl) hS ?_ ?_ ?_
      rotate_left 2
      · intro W hSW; go_simp; try with_reducible rfl
      · simp only [List.set_cons_succ, List.set_cons_zero]; rfl
      refine' take_atB 8 hA rfl (by kernel_rfl) (by kernel_rfl) (by kernel_rfl) (by kernel_rfl) (by kernel_rfl) (by rfl) (by rfl) hS ?_ ?_ ?_
      rotate_left 2
      · intro W hSW; go_simp; try with_reducible rfl
      · simp only [List.set_cons_succ, List.set_cons_zero]; rfl
      refine' store_atB 10 hA rfl (by kernel_rfl) (by kernel_rfl) (by kernel_rfl) hS (by kernel_rfl) rfl (by intro h; cases h) (C.base.info Rq66.out) (C.base.size RZ Rq66.out) (C.base.one Rq66.out) ?_ ?_
      rotate_left 1
      · intro g; simp only [List.set_cons_succ, List.set_cons_zero]; rfl
      intro gq67 Wq67 hgq67 hbq67 hrowq67
      clear hA hS
      refine' take_at 11 rfl (by kernel_rfl) (by kernel_rfl) (by kernel_rfl) (fun _ _ _ h => h) (by rfl) hbq67 ?_ ?_ ?_
      rotate_left 2
      · intro W hSW; go_simp; try with_reducible rfl
      · simp only [List.set_cons_succ, List.set_cons_zero]; rfl
      refine wpAnyH_done (by kernel_rfl) ?_ _
      refine NoPanic.normal ?_
      (try simp only [Act.put])
      have HRq67 : Hid (RowsW Wq67 [(gq67, cq66, 26), (gq48, cq47, 26), (gq8, cq7, 26), (gq4, cq3, 26), ((g0 + 1), (arrB b), 22), (g0, (arrB a), 22)]) := Lib.hid ⟨hrowq67, HRq59.out.below hbq67⟩
      have HBq67 := Lib.hid (below_next HBq59.out hbq67)
      have NEq67_0 : Hid (g0 ≠ gq67) := Lib.hid (by have h := HRq59.out.lt (g0, (arrB a), 22) (by simp); have := hgq67; simp only at h; omega)
      have NEq67_1 : Hid ((g0 + 1) ≠ gq67) := Lib.hid (by have h := HRq59.out.lt ((g0 + 1), (arrB b), 22) (by simp); have := hgq67; simp only at h; omega)
      have NEq67_2 : Hid (gq4 ≠ gq67) := Lib.hid (by have h := HRq59.out.lt (gq4, cq3, 26) (by simp); have := hgq67; simp only at h; omega)
      have NEq67_3 : Hid (gq8 ≠ gq67) := Lib.hid (by have h := HRq59.out.lt (gq8, cq7, 26) (by simp); have := hgq67; simp only at h; omega)
      have NEq67_4 : Hid (gq48 ≠ gq67) := Lib.hid (by have h := HRq59.out.lt (gq48, cq47, 26) (by simp); have := hgq67; simp only at h; omega)
      have HGq67 := Lib.hid (Nat.le_trans HBq59.out.size hgq67)
      clear hrowq67 hbq67 hgq67
      go_upto_region 10 with fail
      by_cases hrx : n64 = n2
      · have HRX := Lib.hid hrx
        clear hrx
        refine wp_region_noPanic ?_
        refine wp_region_held_drew (S := fun W => Below Wq67.heap.size Wq67 W) (by kernel_rfl) (by exact (Below.refl _ _).drew) (fun hS => ?_)
        refine' take_at 0 rfl (by kernel_rfl) (by kernel_rfl) (by kernel_rfl) (fun _ _ _ h => h) (by rfl) hS ?_ ?_ ?_
        rotate_left 2
        · intro W hSW; go_simp; try with_reducible rfl
        · simp only [List.set_cons_succ, List.set_cons_zero]; rfl
        refine' take_at 1 rfl (by kernel_rfl) (by kernel_rfl) (by kernel_rfl) (fun _ _ _ h => h) (by rfl) hS ?_ ?_ ?_
        rotate_left 2
        · intro W hSW; go_simp; try with_reducible rfl
        · simp only [List.set_cons_succ, List.set_cons_zero]; rfl
        refine' take_at 2 rfl (by kernel_rfl) (by kernel_rfl) (by kernel_rfl) (fun _ _ _ h => h) (by rfl) hS ?_ ?_ ?_
        rotate_left 2
        · intro W hSW; go_simp; try with_reducible rfl
        · simp only [List.set_cons_succ, List.set_cons_zero]; rfl
        refine' take_at 3 rfl (by kernel_rfl) (by kernel_rfl) (by kernel_rfl) (fun _ _ _ h => h) (by rfl) hS ?_ ?_ ?_
        rotate_left 2
        · intro W hSW; exact run_loadR rfl rfl (HRq67.out.below hSW).tail.head Try.underlying26 rfl (C.base.info Rq47.out)
        · simp only [List.set_cons_succ, List.set_cons_zero]; rfl
        refine' take_at 5 rfl (by kernel_rfl) (by kernel_rfl) (by kernel_rfl) (fun _ _ _ h => h) (by rfl) hS ?_ ?_ ?_
        rotate_left 2
        · intro W hSW; exact run_loadR rfl rfl (HRq67.out.below hSW).tail.tail.head Try.underlying26 rfl (C.base.info Rq7.out)
        · simp only [List.set_cons_succ, List.set_cons_zero]; rfl
        refine' take_at 7 rfl (by kernel_rfl) (by kernel_rfl) (by kernel_rfl) (fun _ _ _ h => h) (by rfl) hS ?_ ?_ ?_
        rotate_left 2
        · intro W hSW; exact run_loadR rfl rfl (HRq67.out.below hSW).tail.tail.tail.head Try.underlying26 rfl (C.base.info Rq3.out)
        · simp only [List.set_cons_succ, List.set_cons_zero]; rfl
        refine call_at 4 rfl (by kernel_rfl) (by rfl) (fun K hK => ?_)
        go_simp
        obtain ⟨n68, hn68⟩ : ∃ x : Nat, (n45 * n45) % PP = x := ⟨_, rfl⟩
        have Hn68 := Lib.hid hn68
        have HLn68 : Hid (n68 < PP) := Lib.hid (by rw [← hn68]; exact Nat.mod_lt _ (by decide))
        clear hn68
        with_reducible refine ((C.square Rq47.out) _).mono ?_
        rintro e vq69 ⟨cq69, rfl, rq69, hbq69⟩
        rw [Hn68.out] at rq69
        have Rq69 := Lib.hid rq69
        clear rq69
        have kbq69 := below_next hS hbq69
        clear hS hbq69
        refine hK.out _ _ (by exact kbq69) (fun hS => ?_)
        clear hK K
        refine call_at 6 rfl (by kernel_rfl) (by rfl) (fun K hK => ?_)
        go_simp
        obtain ⟨n70, hn70⟩ : ∃ x : Nat, (n68 * n6) % PP = x := ⟨_, rfl⟩
        have Hn70 := Lib.hid hn70
        have HLn70 : Hid (n70 < PP) := Lib.hid (by rw [← hn70]; exact Nat.mod_lt _ (by decide))
        clear hn70
        with_reducible refine ((C.mul Rq69.out Rq7.out) _).mono ?_
        rintro e vq71 ⟨cq71, rfl, rq71, hbq71⟩
        rw [Hn70.out] at rq71
        have Rq71 := Lib.hid rq71
        clear rq71
        have kbq71 := below_next kbq69 hbq71
        clear hS hbq71
        refine hK.out _ _ (by exact kbq71) (fun hS => ?_)
        clear hK K
        refine call_at 8 rfl (by kernel_rfl) (by rfl) (fun K hK => ?_)
        go_simp
        have kq72 := fun W : World => (C.equal Rq71.out Rq3.out) W
        rw [decide_eq_true (show n70 = n2 from (by rw [← Hn70.out, ← Hn68.out, ← Hn45.out]; exact ratN_sq HLn2.out HLn6.out HY0.out HOK.out))] at kq72
        have Kq72 := Lib.hid kq72
        clear kq72
        with_reducible refine (Kq72.out _).mono ?_
        rintro e vq72 ⟨rfl, hbq72⟩
        have kbq72 := below_next kbq71 hbq72
        clear hS hbq72
        refine hK.out _ _ (by exact kbq72) (fun hS => ?_)
        clear hK K
        refine' take_at 9 rfl (by kernel_rfl) (by kernel_rfl) (by kernel_rfl) (fun _ _ _ h => h) (by rfl) hS ?_ ?_ ?_
        rotate_left 2
        · intro W hSW; go_simp; try with_reducible rfl
        · simp only [List.set_cons_succ, List.set_cons_zero]; rfl
        refine' take_at 10 rfl (by kernel_rfl) (by kernel_rfl) (by kernel_rfl) (fun _ _ _ h => h) (by rfl) hS ?_ ?_ ?_
        rotate_left 2
        · intro W hSW; go_simp; try with_reducible rfl
        · simp only [List.set_cons_succ, List.set_cons_zero]; rfl
        refine' take_at 11 rfl (by kernel_rfl) (by kernel_rfl) (by kernel_rfl) (fun _ _ _ h => h) (by rfl) hS ?_ ?_ ?_
        rotate_left 2
        · intro W hSW; go_simp; try with_reducible rfl
        · simp only [List.set_cons_succ, List.set_cons_zero]; rfl
        refine' take_at 12 rfl (by kernel_rfl) (by kernel_rfl) (by kernel_rfl) (fun _ _ _ h => h) (by rfl) hS ?_ ?_ ?_
        rotate_left 2
        · intro W hSW; go_simp; try with_reducible rfl
        · simp only [List.set_cons_succ, List.set_cons_zero]; rfl
        refine' take_at 13 rfl (by kernel_rfl) (by kernel_rfl) (by kernel_rfl) (fun _ _ _ h => h) (by rfl) hS ?_ ?_ ?_
        rotate_left 2
        · intro W hSW; go_simp; try with_reducible rfl
        · simp only [List.set_cons_succ, List.set_cons_zero]; rfl
        refine' take_at 14 rfl (by kernel_rfl) (by kernel_rfl) (by kernel_rfl) (fun _ _ _ h => h) (by rfl) hS ?_ ?_ ?_
        rotate_left 2
        · intro W hSW; exact run_loadR rfl rfl (HRq67.out.below hSW).head Try.underlying26 rfl (C.base.info Rq66.out)
        · simp only [List.set_cons_succ, List.set_cons_zero]; rfl
        refine' take_at 15 rfl (by kernel_rfl) (by kernel_rfl) (by kernel_rfl) (fun _ _ _ h => h) (by rfl) hS ?_ ?_ ?_
        rotate_left 2
        · intro W hSW; exact run_loadR rfl rfl (HRq67.out.below hSW).tail.tail.tail.head Try.underlying26 rfl (C.base.info Rq3.out)
        · simp only [List.set_cons_succ, List.set_cons_zero]; rfl
        refine call_at 16 rfl (by kernel_rfl) (by rfl) (fun K hK => ?_)
        go_simp
        have kq73 := fun W : World => (C.equal Rq66.out Rq3.out) W
        rw [decide_eq_true (show n64 = n2 from HRX.out)] at kq73
        have Kq73 := Lib.hid kq73
        clear kq73
        with_reducible refine (Kq73.out _).mono ?_
        rintro e vq73 ⟨rfl, hbq73⟩
        have kbq73 := below_next kbq72 hbq73
        clear hS hbq73
        refine hK.out _ _ (by exact kbq73) (fun hS => ?_)
        clear hK K
        refine' take_at 17 rfl (by kernel_rfl) (by kernel_rfl) (by kernel_rfl) (fun _ _ _ h => h) (by rfl) hS ?_ ?_ ?_
        rotate_left 2
        · intro W hSW; go_simp; try with_reducible rfl
        · simp only [List.set_cons_succ, List.set_cons_zero]; rfl
        refine' skip_at 18 rfl (by kernel_rfl) (by kernel_rfl) (by kernel_rfl) (fun _ _ _ h => h) (by rfl) hS ?_ ?_
        rotate_left 1
        · simp only [List.set_cons_succ, List.set_cons_zero]; rfl
        refine' skip_at 19 rfl (by kernel_rfl) (by kernel_rfl) (by kernel_rfl) (fun _ _ _ h => h) (by rfl) hS ?_ ?_
        rotate_left 1
        · simp only [List.set_cons_succ, List.set_cons_zero]; rfl
        refine' skip_at 20 rfl (by kernel_rfl) (by kernel_rfl) (by kernel_rfl) (fun _ _ _ h => h) (by rfl) hS ?_ ?_
        rotate_left 1
        · simp only [List.set_cons_succ, List.set_cons_zero]; rfl
        refine' skip_at 21 rfl (by kernel_rfl) (by kernel_rfl) (by kernel_rfl) (fun _ _ _ h => h) (by rfl) hS ?_ ?_
        rotate_left 1
        · simp only [List.set_cons_succ, List.set_cons_zero]; rfl
        refine' take_at 22 rfl (by kernel_rfl) (by kernel_rfl) (by kernel_rfl) (fun _ _ _ h => h) (by rfl) hS ?_ ?_ ?_
        rotate_left 2
        · intro W hSW; go_simp; try with_reducible rfl
        · simp only [List.set_cons_succ, List.set_cons_zero]; rfl
        refine' take_at 23 rfl (by kernel_rfl) (by kernel_rfl) (by kernel_rfl) (fun _ _ _ h => h) (by rfl) hS ?_ ?_ ?_
        rotate_left 2
        · intro W hSW; go_simp; try with_reducible rfl
        · simp only [List.set_cons_succ, List.set_cons_zero]; rfl
        refine' take_at 24 rfl (by kernel_rfl) (by kernel_rfl) (by kernel_rfl) (fun _ _ _ h => h) (by rfl) hS ?_ ?_ ?_
        rotate_left 2
        · intro W hSW; go_simp; try with_reducible rfl
        · simp only [List.set_cons_succ, List.set_cons_zero]; rfl
        refine wpAnyH_done (by kernel_rfl) ?_ _
        refine NoPanic.normal ?_
        clear hS
        (try simp only [Act.put])
        have HRq74 := Lib.hid (HRq67.out.below kbq73)
        have HBq74 := Lib.hid (below_next HBq67.out kbq73)
        go_wp2_with fail
        go_ret
        exact ⟨rfl, HBq74.out⟩
      · have HRX := Lib.hid hrx
        clear hrx
        have HRN : Hid (n64 = (PP - n2) % PP) := Lib.hid ((show n64 = n2 ∨ n64 = (PP - n2) % PP from by rw [← Hn64.out]; exact (show fineN n61 n6 = true ∧ (ratN n61 n6 = n2 ∨ ratN n61 n6 = (PP - n2) % PP) from by rw [← Hn61.out, ← Hn60.out]; exact ratN_of HLn2.out HLn6.out HY0.out).2).resolve_left HRX.out)
        refine wp_region_noPanic ?_
        refine wp_region_held_drew (S := fun W => Below Wq67.heap.size Wq67 W) (by kernel_rfl) (by exact (Below.refl _ _).drew) (fun hS => ?_)
        refine' take_at 0 rfl (by kernel_rfl) (by kernel_rfl) (by kernel_rfl) (fun _ _ _ h => h) (by rfl) hS ?_ ?_ ?_
        rotate_left 2
        · intro W hSW; go_simp; try with_reducible rfl
        · simp only [List.set_cons_succ, List.set_cons_zero]; rfl
        refine' take_at 1 rfl (by kernel_rfl) (by kernel_rfl) (by kernel_rfl) (fun _ _ _ h => h) (by rfl) hS ?_ ?_ ?_
        rotate_left 2
        · intro W hSW; go_simp; try with_reducible rfl
        · simp only [List.set_cons_succ, List.set_cons_zero]; rfl
        refine' take_at 2 rfl (by kernel_rfl) (by kernel_rfl) (by kernel_rfl) (fun _ _ _ h => h) (by rfl) hS ?_ ?_ ?_
        rotate_left 2
        · intro W hSW; go_simp; try with_reducible rfl
        · simp only [List.set_cons_succ, List.set_cons_zero]; rfl
        refine' take_at 3 rfl (by kernel_rfl) (by kernel_rfl) (by kernel_rfl) (fun _ _ _ h => h) (by rfl) hS ?_ ?_ ?_
        rotate_left 2
        · intro W hSW; exact run_loadR rfl rfl (HRq67.out.below hSW).tail.head Try.underlying26 rfl (C.base.info Rq47.out)
        · simp only [List.set_cons_succ, List.set_cons_zero]; rfl
        refine' take_at 5 rfl (by kernel_rfl) (by kernel_rfl) (by kernel_rfl) (fun _ _ _ h => h) (by rfl) hS ?_ ?_ ?_
        rotate_left 2
        · intro W hSW; exact run_loadR rfl rfl (HRq67.out.below hSW).tail.tail.head Try.underlying26 rfl (C.base.info Rq7.out)
        · simp only [List.set_cons_succ, List.set_cons_zero]; rfl
        refine' take_at 7 rfl (by kernel_rfl) (by kernel_rfl) (by kernel_rfl) (fun _ _ _ h => h) (by rfl) hS ?_ ?_ ?_
        rotate_left 2
        · intro W hSW; exact run_loadR rfl rfl (HRq67.out.below hSW).tail.tail.tail.head Try.underlying26 rfl (C.base.info Rq3.out)
        · simp only [List.set_cons_succ, List.set_cons_zero]; rfl
        refine call_at 4 rfl (by kernel_rfl) (by rfl) (fun K hK => ?_)
        go_simp
        obtain ⟨n75, hn75⟩ : ∃ x : Nat, (n45 * n45) % PP = x := ⟨_, rfl⟩
        have Hn75 := Lib.hid hn75
        have HLn75 : Hid (n75 < PP) := Lib.hid (by rw [← hn75]; exact Nat.mod_lt _ (by decide))
        clear hn75
        with_reducible refine ((C.square Rq47.out) _).mono ?_
        rintro e vq76 ⟨cq76, rfl, rq76, hbq76⟩
        rw [Hn75.out] at rq76
        have Rq76 := Lib.hid rq76
        clear rq76
        have kbq76 := below_next hS hbq76
        clear hS hbq76
        refine hK.out _ _ (by exact kbq76) (fun hS => ?_)
        clear hK K
        refine call_at 6 rfl (by kernel_rfl) (by rfl) (fun K hK => ?_)
        go_simp
        obtain ⟨n77, hn77⟩ : ∃ x : Nat, (n75 * n6) % PP = x := ⟨_, rfl⟩
        have Hn77 := Lib.hid hn77
        have HLn77 : Hid (n77 < PP) := Lib.hid (by rw [← hn77]; exact Nat.mod_lt _ (by decide))
        clear hn77
        with_reducible refine ((C.mul Rq76.out Rq7.out) _).mono ?_
        rintro e vq78 ⟨cq78, rfl, rq78, hbq78⟩
        rw [Hn77.out] at rq78
        have Rq78 := Lib.hid rq78
        clear rq78
        have kbq78 := below_next kbq76 hbq78
        clear hS hbq78
        refine hK.out _ _ (by exact kbq78) (fun hS => ?_)
        clear hK K
        refine call_at 8 rfl (by kernel_rfl) (by rfl) (fun K hK => ?_)
        go_simp
        have kq79 := fun W : World => (C.equal Rq78.out Rq3.out) W
        rw [decide_eq_true (show n77 = n2 from (by rw [← Hn77.out, ← Hn75.out, ← Hn45.out]; exact ratN_sq HLn2.out HLn6.out HY0.out HOK.out))] at kq79
        have Kq79 := Lib.hid kq79
        clear kq79
        with_reducible refine (Kq79.out _).mono ?_
        rintro e vq79 ⟨rfl, hbq79⟩
        have kbq79 := below_next kbq78 hbq79
        clear hS hbq79
        refine hK.out _ _ (by exact kbq79) (fun hS => ?_)
        clear hK K
        refine' take_at 9 rfl (by kernel_rfl) (by kernel_rfl) (by kernel_rfl) (fun _ _ _ h => h) (by rfl) hS ?_ ?_ ?_
        rotate_left 2
        · intro W hSW; go_simp; try with_reducible rfl
        · simp only [List.set_cons_succ, List.set_cons_zero]; rfl
        refine' take_at 10 rfl (by kernel_rfl) (by kernel_rfl) (by kernel_rfl) (fun _ _ _ h => h) (by rfl) hS ?_ ?_ ?_
        rotate_left 2
        · intro W hSW; go_simp; try with_reducible rfl
        · simp only [List.set_cons_succ, List.set_cons_zero]; rfl
        refine' take_at 11 rfl (by kernel_rfl) (by kernel_rfl) (by kernel_rfl) (fun _ _ _ h => h) (by rfl) hS ?_ ?_ ?_
        rotate_left 2
        · intro W hSW; go_simp; try with_reducible rfl
        · simp only [List.set_cons_succ, List.set_cons_zero]; rfl
        refine' take_at 12 rfl (by kernel_rfl) (by kernel_rfl) (by kernel_rfl) (fun _ _ _ h => h) (by rfl) hS ?_ ?_ ?_
        rotate_left 2
        · intro W hSW; go_simp; try with_reducible rfl
        · simp only [List.set_cons_succ, List.set_cons_zero]; rfl
        refine' take_at 13 rfl (by kernel_rfl) (by kernel_rfl) (by kernel_rfl) (fun _ _ _ h => h) (by rfl) hS ?_ ?_ ?_
        rotate_left 2
        · intro W hSW; go_simp; try with_reducible rfl
        · simp only [List.set_cons_succ, List.set_cons_zero]; rfl
        refine' take_at 14 rfl (by kernel_rfl) (by kernel_rfl) (by kernel_rfl) (fun _ _ _ h => h) (by rfl) hS ?_ ?_ ?_
        rotate_left 2
        · intro W hSW; exact run_loadR rfl rfl (HRq67.out.below hSW).head Try.underlying26 rfl (C.base.info Rq66.out)
        · simp only [List.set_cons_succ, List.set_cons_zero]; rfl
        refine' take_at 15 rfl (by kernel_rfl) (by kernel_rfl) (by kernel_rfl) (fun _ _ _ h => h) (by rfl) hS ?_ ?_ ?_
        rotate_left 2
        · intro W hSW; exact run_loadR rfl rfl (HRq67.out.below hSW).tail.tail.tail.head Try.underlying26 rfl (C.base.info Rq3.out)
        · simp only [List.set_cons_succ, List.set_cons_zero]; rfl
        refine call_at 16 rfl (by kernel_rfl) (by rfl) (fun K hK => ?_)
        go_simp
        have kq80 := fun W : World => (C.equal Rq66.out Rq3.out) W
        rw [decide_eq_false (show ¬ n64 = n2 from HRX.out)] at kq80
        have Kq80 := Lib.hid kq80
        clear kq80
        with_reducible refine (Kq80.out _).mono ?_
        rintro e vq80 ⟨rfl, hbq80⟩
        have kbq80 := below_next kbq79 hbq80
        clear hS hbq80
        refine hK.out _ _ (by exact kbq80) (fun hS => ?_)
        clear hK K
        refine' take_at 17 rfl (by kernel_rfl) (by kernel_rfl) (by kernel_rfl) (fun _ _ _ h => h) (by rfl) hS ?_ ?_ ?_
        rotate_left 2
        · intro W hSW; go_simp; try with_reducible rfl
        · simp only [List.set_cons_succ, List.set_cons_zero]; rfl
        refine' take_at 18 rfl (by kernel_rfl) (by kernel_rfl) (by kernel_rfl) (fun _ _ _ h => h) (by rfl) hS ?_ ?_ ?_
        rotate_left 2
        · intro W hSW; exact run_loadR rfl rfl (HRq67.out.below hSW).head Try.underlying26 rfl (C.base.info Rq66.out)
        · simp only [List.set_cons_succ, List.set_cons_zero]; rfl
        refine' take_at 19 rfl (by kernel_rfl) (by kernel_rfl) (by kernel_rfl) (fun _ _ _ h => h) (by rfl) hS ?_ ?_ ?_
        rotate_left 2
        · intro W hSW; exact run_loadR rfl rfl (HRq67.out.below hSW).tail.tail.tail.head Try.underlying26 rfl (C.base.info Rq3.out)
        · simp only [List.set_cons_succ, List.set_cons_zero]; rfl
        refine call_at 20 rfl (by kernel_rfl) (by rfl) (fun K hK => ?_)
        go_simp
        obtain ⟨n81, hn81⟩ : ∃ x : Nat, (PP - n2) % PP = x := ⟨_, rfl⟩
        have Hn81 := Lib.hid hn81
        have HLn81 : Hid (n81 < PP) := Lib.hid (by rw [← hn81]; exact Nat.mod_lt _ (by decide))
        clear hn81
        with_reducible refine ((C.neg Rq3.out) _).mono ?_
        rintro e vq82 ⟨cq82, rfl, rq82, hbq82⟩
        rw [Hn81.out] at rq82
        have Rq82 := Lib.hid rq82
        clear rq82
        have kbq82 := below_next kbq80 hbq82
        clear hS hbq82
        refine hK.out _ _ (by exact kbq82) (fun hS => ?_)
        clear hK K
        refine call_at 21 rfl (by kernel_rfl) (by rfl) (fun K hK => ?_)
        go_simp
        have kq83 := fun W : World => (C.equal Rq66.out Rq82.out) W
        rw [decide_eq_true (show n64 = n81 from (by rw [← Hn81.out]; exact HRN.out))] at kq83
        have Kq83 := Lib.hid kq83
        clear kq83
        with_reducible refine (Kq83.out _).mono ?_
        rintro e vq83 ⟨rfl, hbq83⟩
        have kbq83 := below_next kbq82 hbq83
        clear hS hbq83
        refine hK.out _ _ (by exact kbq83) (fun hS => ?_)
        clear hK K
        refine' take_at 22 rfl (by kernel_rfl) (by kernel_rfl) (by kernel_rfl) (fun _ _ _ h => h) (by rfl) hS ?_ ?_ ?_
        rotate_left 2
        · intro W hSW; go_simp; try with_reducible rfl
        · simp only [List.set_cons_succ, List.set_cons_zero]; rfl
        refine' take_at 23 rfl (by kernel_rfl) (by kernel_rfl) (by kernel_rfl) (fun _ _ _ h => h) (by rfl) hS ?_ ?_ ?_
        rotate_left 2
        · intro W hSW; go_simp; try with_reducible rfl
        · simp only [List.set_cons_succ, List.set_cons_zero]; rfl
        refine' take_at 24 rfl (by kernel_rfl) (by kernel_rfl) (by kernel_rfl) (fun _ _ _ h => h) (by rfl) hS ?_ ?_ ?_
        rotate_left 2
        · intro W hSW; go_simp; try with_reducible rfl
        · simp only [List.set_cons_succ, List.set_cons_zero]; rfl
        refine wpAnyH_done (by kernel_rfl) ?_ _
        refine NoPanic.normal ?_
        clear hS
        (try simp only [Act.put])
        have HRq84 := Lib.hid (HRq67.out.below kbq83)
        have HBq84 := Lib.hid (below_next HBq67.out kbq83)
        go_wp2_with fail
        go_ret
        exact ⟨rfl, HBq84.out⟩
end Go.Proofs.Ytjekeblcppkghaa

