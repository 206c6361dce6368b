/- The walk of PowersInvert. Written by wip/tools. -/
import Derived.Test.YtjekeblcppkghaaLaw10Alive
namespace Go.Proofs.Ytjekeblcppkghaa
open Go.RowKit
set_option linter.unusedVariables false
set_option maxRecDepth 100000

set_option maxHeartbeats 6400000 in
theorem law10Invert {R : Array Value → Nat → Prop} (C : Fe10C R) (D : PowC R) (a : List UInt8) (ha : a.length = 32) (b : List UInt8) (hb : b.length = 32) (w : World) : Calls Try.prog 4 #[.agg (arrB a), .agg (arrB b)] w fun e w' => e = .returned (.bool true) ∧ Below w.heap.size w w' := by
  have HAL : Hid (∀ W : World, Calls Try.prog 8 #[] W fun e w' => e = .returned (.bool true) ∧ Below W.heap.size W w') := Lib.hid (fun W => alive10_any C D W)
  obtain ⟨Z, hZ, RZ⟩ := C.base.zero
  have hzR := refT_zero
  have hz32 := zero32_zero
  have Ha := Lib.hid ha
  have Hb := Lib.hid hb
  clear ha hb
  go_enter Try.func4, Try.ntmps4
  go_wp2_with fail
  have HR0 := Lib.hid (((RowsW.nil w).box (arrB a) 22).box (arrB b) 22)
  have HB0 := Lib.hid (below_box (below_box (Below.refl w.heap.size w) (arrB a) 22) (arrB b) 22)
  rw [World.size_alloc] at HR0
  obtain ⟨W0, hW0⟩ : ∃ W, ((w.alloc (.cells (arrB a) 22)).alloc (.cells (arrB b) 22)) = W := ⟨_, rfl⟩
  obtain ⟨g0, hg0⟩ : ∃ g, w.heap.size = g := ⟨_, rfl⟩
  rw [hW0] at HR0 HB0
  rw [hg0] at HR0
  rw [hW0, hg0]
  have HG0 := Lib.hid hg0
  clear hW0 hg0
  with_reducible refine (HAL.out _).mono ?_
  rintro e v1 ⟨rfl, hb1⟩
  have HR1 := Lib.hid (HR0.out.below hb1)
  have HB1 := Lib.hid (below_next HB0.out hb1)
  clear hb1
  go_upto_region 2 with fail
  have l1 := HR1.out.tail.head
  go_wp2_with (refine wpList_load_row rfl 22 (.tmp 2) rfl g0 rfl 22 (arrB a) (0, 0) _ l1 Try.underlying22 rfl (arr32_info Ha.out) ?_)
  obtain ⟨n2, hn2⟩ : ∃ x : Nat, feN a = x := ⟨_, rfl⟩
  have Hn2 := Lib.hid hn2
  have HLn2 : Hid (n2 < PP) := Lib.hid (by rw [← hn2]; exact Nat.mod_lt _ (by decide))
  clear hn2
  with_reducible refine ((C.from_ a Ha.out) _).mono ?_
  rintro e vq3 ⟨cq3, rfl, rq3, hbq3⟩
  rw [Hn2.out] at rq3
  have Rq3 := Lib.hid rq3
  clear rq3
  have HRq3 := Lib.hid (HR1.out.below hbq3)
  have HBq3 := Lib.hid (below_next HB1.out hbq3)
  clear hbq3
  have h0q4 : (vq3.alloc (.cells Z 26)).heap[vq3.heap.size]? = some (.cells Z 26 (0, 0)) := heap_alloc_new _ _
  have HRq4 := Lib.hid (HRq3.out.new Z cq3 26)
  have HBq4 := Lib.hid (below_new HBq3.out Z cq3 26)
  have HNq4 := Lib.hid HRq3.out.ne
  have HGq4 := Lib.hid HBq3.out.size
  go_upto_region 3 with (refine wpList_store_row rfl 26 (.tmp 6) (.tmp 11) rfl vq3.heap.size cq3 rfl rfl 26 Z h0q4 (C.base.info Rq3.out) (C.base.size RZ Rq3.out) (C.base.one Rq3.out) ?_)
  obtain ⟨Wq4, hWq4⟩ : ∃ W, (vq3.alloc (.cells Z 26)).setRow vq3.heap.size cq3 = W := ⟨_, rfl⟩
  obtain ⟨gq4, hgq4⟩ : ∃ g, vq3.heap.size = g := ⟨_, rfl⟩
  rw [hWq4, hgq4] at HRq4
  rw [hWq4] at HBq4
  rw [hgq4] at HNq4 HGq4
  rw [hWq4, hgq4]
  clear hWq4 hgq4 h0q4
  have NEq4_0 : Hid (g0 ≠ gq4) := Lib.hid (HNq4.out (g0, (arrB a), 22) (by simp))
  have NEq4_1 : Hid ((g0 + 1) ≠ gq4) := Lib.hid (HNq4.out ((g0 + 1), (arrB b), 22) (by simp))
  have l5 := HRq4.out.tail.head
  go_wp2_with (refine wpList_load_row rfl 22 (.tmp 3) rfl (g0 + 1) rfl 22 (arrB b) (0, 0) _ l5 Try.underlying22 rfl (arr32_info Hb.out) ?_)
  obtain ⟨n6, hn6⟩ : ∃ x : Nat, feN b = x := ⟨_, rfl⟩
  have Hn6 := Lib.hid hn6
  have HLn6 : Hid (n6 < PP) := Lib.hid (by rw [← hn6]; exact Nat.mod_lt _ (by decide))
  clear hn6
  with_reducible refine ((C.from_ b Hb.out) _).mono ?_
  rintro e vq7 ⟨cq7, rfl, rq7, hbq7⟩
  rw [Hn6.out] at rq7
  have Rq7 := Lib.hid rq7
  clear rq7
  have HRq7 := Lib.hid (HRq4.out.below hbq7)
  have HBq7 := Lib.hid (below_next HBq4.out hbq7)
  clear hbq7
  have h0q8 : (vq7.alloc (.cells Z 26)).heap[vq7.heap.size]? = some (.cells Z 26 (0, 0)) := heap_alloc_new _ _
  have HRq8 := Lib.hid (HRq7.out.new Z cq7 26)
  have HBq8 := Lib.hid (below_new HBq7.out Z cq7 26)
  have HNq8 := Lib.hid HRq7.out.ne
  have HGq8 := Lib.hid HBq7.out.size
  go_upto_region 4 with (refine wpList_store_row rfl 26 (.tmp 7) (.tmp 13) rfl vq7.heap.size cq7 rfl rfl 26 Z h0q8 (C.base.info Rq7.out) (C.base.size RZ Rq7.out) (C.base.one Rq7.out) ?_)
  obtain ⟨Wq8, hWq8⟩ : ∃ W, (vq7.alloc (.cells Z 26)).setRow vq7.heap.size cq7 = W := ⟨_, rfl⟩
  obtain ⟨gq8, hgq8⟩ : ∃ g, vq7.heap.size = g := ⟨_, rfl⟩
  rw [hWq8, hgq8] at HRq8
  rw [hWq8] at HBq8
  rw [hgq8] at HNq8 HGq8
  rw [hWq8, hgq8]
  clear hWq8 hgq8 h0q8
  have NEq8_0 : Hid (g0 ≠ gq8) := Lib.hid (HNq8.out (g0, (arrB a), 22) (by simp))
  have NEq8_1 : Hid ((g0 + 1) ≠ gq8) := Lib.hid (HNq8.out ((g0 + 1), (arrB b), 22) (by simp))
  have NEq8_2 : Hid (gq4 ≠ gq8) := Lib.hid (HNq8.out (gq4, cq3, 26) (by simp))
  have l9 := HRq8.out.tail.head
  go_wp2_with (refine wpList_load_row rfl 26 (.tmp 6) rfl gq4 rfl 26 cq3 (0, 0) _ l9 Try.underlying26 rfl (C.base.info Rq3.out) ?_)
  obtain ⟨n10, hn10⟩ : ∃ y : Nat, invN n2 = y := ⟨_, rfl⟩
  have Hn10 := Lib.hid hn10
  have HLn10 : Hid (n10 < PP) := Lib.hid (by rw [← hn10]; exact invN_lt _)
  clear hn10
  with_reducible refine ((D.invert Rq3.out) _).mono ?_
  rintro e vq11 ⟨cq11, rfl, rq11, hbq11⟩
  rw [Hn10.out] at rq11
  have Rq11 := Lib.hid rq11
  clear rq11
  have HRq11 := Lib.hid (HRq8.out.below hbq11)
  have HBq11 := Lib.hid (below_next HBq8.out hbq11)
  clear hbq11
  have h0q12 : (vq11.alloc (.cells Z 26)).heap[vq11.heap.size]? = some (.cells Z 26 (0, 0)) := heap_alloc_new _ _
  have HRq12 := Lib.hid (HRq11.out.new Z cq11 26)
  have HBq12 := Lib.hid (below_new HBq11.out Z cq11 26)
  have HNq12 := Lib.hid HRq11.out.ne
  have HGq12 := Lib.hid HBq11.out.size
  go_upto_region 5 with (refine wpList_store_row rfl 26 (.tmp 8) (.tmp 15) rfl vq11.heap.size cq11 rfl rfl 26 Z h0q12 (C.base.info Rq11.out) (C.base.size RZ Rq11.out) (C.base.one Rq11.out) ?_)
  obtain ⟨Wq12, hWq12⟩ : ∃ W, (vq11.alloc (.cells Z 26)).setRow vq11.heap.size cq11 = W := ⟨_, rfl⟩
  obtain ⟨gq12, hgq12⟩ : ∃ g, vq11.heap.size = g := ⟨_, rfl⟩
  rw [hWq12, hgq12] at HRq12
  rw [hWq12] at HBq12
  rw [hgq12] at HNq12 HGq12
  rw [hWq12, hgq12]
  clear hWq12 hgq12 h0q12
  have NEq12_0 : Hid (g0 ≠ gq12) := Lib.hid (HNq12.out (g0, (arrB a), 22) (by simp))
  have NEq12_1 : Hid ((g0 + 1) ≠ gq12) := Lib.hid (HNq12.out ((g0 + 1), (arrB b), 22) (by simp))
  have NEq12_2 : Hid (gq4 ≠ gq12) := Lib.hid (HNq12.out (gq4, cq3, 26) (by simp))
  have NEq12_3 : Hid (gq8 ≠ gq12) := Lib.hid (HNq12.out (gq8, cq7, 26) (by simp))
  by_cases h0 : n2 = 0
  · have HX0 := Lib.hid h0
    clear h0
    have l13 := HRq12.out.tail.tail.head
    go_wp2_with (refine wpList_runsV (o := ⟨some 19, _, _, _, _, _⟩) rfl (.agg cq3) (run_loadR rfl rfl l13 Try.underlying26 rfl (C.base.info Rq3.out)) ?_)
    have kq14 := fun W : World => (C.isZero Rq3.out) W
    rw [decide_eq_true (show n2 = 0 from HX0.out)] at kq14
    have Kq14 := Lib.hid kq14
    clear kq14
    with_reducible refine (Kq14.out _).mono ?_
    rintro e vq14 ⟨rfl, hbq14⟩
    have HRq14 := Lib.hid (HRq12.out.below hbq14)
    have HBq14 := Lib.hid (below_next HBq12.out hbq14)
    clear hbq14
    go_upto_region 6 with fail
    have l15 := HRq14.out.head
    go_wp2_with (refine wpList_runsV (o := ⟨some 24, _, _, _, _, _⟩) rfl (.agg cq11) (run_loadR rfl rfl l15 Try.underlying26 rfl (C.base.info Rq11.out)) ?_)
    have kq16 := fun W : World => (C.isZero Rq11.out) W
    rw [decide_eq_true (show n10 = 0 from (by rw [← Hn10.out, HX0.out]; exact inv_zeroN))] at kq16
    have Kq16 := Lib.hid kq16
    clear kq16
    with_reducible refine (Kq16.out _).mono ?_
    rintro e vq16 ⟨rfl, hbq16⟩
    have HRq16 := Lib.hid (HRq14.out.below hbq16)
    have HBq16 := Lib.hid (below_next HBq14.out hbq16)
    clear hbq16
    go_wp2_with fail
    go_ret
    exact ⟨rfl, HBq16.out⟩
  · have HX0 := Lib.hid h0
    clear h0
    have l17 := HRq12.out.tail.tail.head
    go_wp2_with (refine wpList_runsV (o := ⟨some 19, _, _, _, _, _⟩) rfl (.agg cq3) (run_loadR rfl rfl l17 Try.underlying26 rfl (C.base.info Rq3.out)) ?_)
    have kq18 := fun W : World => (C.isZero Rq3.out) W
    rw [decide_eq_false (show ¬ n2 = 0 from HX0.out)] at kq18
    have Kq18 := Lib.hid kq18
    clear kq18
    with_reducible refine (Kq18.out _).mono ?_
    rintro e vq18 ⟨rfl, hbq18⟩
    have HRq18 := Lib.hid (HRq12.out.below hbq18)
    have HBq18 := Lib.hid (below_next HBq12.out hbq18)
    clear hbq18
    go_upto_region 7 with fail
    refine wp_region_noPanic ?_
    refine wp_region_held_drew (S := fun W => Below vq18.heap.size vq18 W) (by kernel_rfl) (by exact (Below.refl _ _).drew) (fun hS => ?_)
    refine' take_at 0 rfl (by kernel_rfl) (by kernel_rfl) (by kernel_rfl) (fun _ _ _ h => h) (by rfl) hS ?_ ?_ ?_
    rotate_left 2
    · intro W hSW; exact run_loadR rfl rfl (HRq18.out.below hSW).tail.tail.head Try.underlying26 rfl (C.base.info Rq3.out)
    · simp only [List.set_cons_succ, List.set_cons_zero]; rfl
    refine' take_at 1 rfl (by kernel_rfl) (by kernel_rfl) (by kernel_rfl) (fun _ _ _ h => h) (by rfl) hS ?_ ?_ ?_
    rotate_left 2
    · intro W hSW; exact run_loadR rfl rfl (HRq18.out.below hSW).head Try.underlying26 rfl (C.base.info Rq11.out)
    · simp only [List.set_cons_succ, List.set_cons_zero]; rfl
    refine call_at 2 rfl (by kernel_rfl) (by rfl) (fun K hK => ?_)
    go_simp
    obtain ⟨n19, hn19⟩ : ∃ x : Nat, (n2 * n10) % PP = x := ⟨_, rfl⟩
    have Hn19 := Lib.hid hn19
    have HLn19 : Hid (n19 < PP) := Lib.hid (by rw [← hn19]; exact Nat.mod_lt _ (by decide))
    clear hn19
    with_reducible refine ((C.mul Rq3.out Rq11.out) _).mono ?_
    rintro e vq20 ⟨cq20, rfl, rq20, hbq20⟩
    rw [Hn19.out] at rq20
    have Rq20 := Lib.hid rq20
    clear rq20
    have kbq20 := below_next hS hbq20
    clear hS hbq20
    refine hK.out _ _ (by exact kbq20) (fun hS => ?_)
    clear hK K
    refine call_at 3 rfl (by kernel_rfl) (by rfl) (fun K hK => ?_)
    go_simp
    have s30_1 : ∀ W : World, Calls Try.prog 24 #[.int .u64 1] W (RetFe R W 1) := fun W => C.small 1 (by decide) W
    with_reducible refine (s30_1 _).mono ?_
    rintro e vq21 ⟨cq21, rfl, rq21, hbq21⟩
    have Rq21 := Lib.hid rq21
    clear rq21
    have kbq21 := below_next kbq20 hbq21
    clear hS hbq21
    refine hK.out _ _ (by exact kbq21) (fun hS => ?_)
    clear hK K
    refine call_at 4 rfl (by kernel_rfl) (by rfl) (fun K hK => ?_)
    go_simp
    have kq22 := fun W : World => (C.equal Rq20.out Rq21.out) W
    rw [decide_eq_true (show n19 = 1 from (by rw [← Hn19.out, ← Hn10.out]; exact inv_right HLn2.out HX0.out))] at kq22
    have Kq22 := Lib.hid kq22
    clear kq22
    with_reducible refine (Kq22.out _).mono ?_
    rintro e vq22 ⟨rfl, hbq22⟩
    have kbq22 := below_next kbq21 hbq22
    clear hS hbq22
    refine hK.out _ _ (by exact kbq22) (fun hS => ?_)
    clear hK K
    refine' take_at 5 rfl (by kernel_rfl) (by kernel_rfl) (by kernel_rfl) (fun _ _ _ h => h) (by rfl) hS ?_ ?_ ?_
    rotate_left 2
    · intro W hSW; go_simp; try with_reducible rfl
    · simp only [List.set_cons_succ, List.set_cons_zero]; rfl
    refine' take_at 6 rfl (by kernel_rfl) (by kernel_rfl) (by kernel_rfl) (fun _ _ _ h => h) (by rfl) hS ?_ ?_ ?_
    rotate_left 2
    · intro W hSW; exact run_loadR rfl rfl (HRq18.out.below hSW).head Try.underlying26 rfl (C.base.info Rq11.out)
    · simp only [List.set_cons_succ, List.set_cons_zero]; rfl
    refine' take_at 8 rfl (by kernel_rfl) (by kernel_rfl) (by kernel_rfl) (fun _ _ _ h => h) (by rfl) hS ?_ ?_ ?_
    rotate_left 2
    · intro W hSW; exact run_loadR rfl rfl (HRq18.out.below hSW).tail.tail.head Try.underlying26 rfl (C.base.info Rq3.out)
    · simp only [List.set_cons_succ, List.set_cons_zero]; rfl
    refine call_at 7 rfl (by kernel_rfl) (by rfl) (fun K hK => ?_)
    go_simp
    obtain ⟨n23, hn23⟩ : ∃ y : Nat, invN n10 = y := ⟨_, rfl⟩
    have Hn23 := Lib.hid hn23
    have HLn23 : Hid (n23 < PP) := Lib.hid (by rw [← hn23]; exact invN_lt _)
    clear hn23
    with_reducible refine ((D.invert Rq11.out) _).mono ?_
    rintro e vq24 ⟨cq24, rfl, rq24, hbq24⟩
    rw [Hn23.out] at rq24
    have Rq24 := Lib.hid rq24
    clear rq24
    have kbq24 := below_next kbq22 hbq24
    clear hS hbq24
    refine hK.out _ _ (by exact kbq24) (fun hS => ?_)
    clear hK K
    refine call_at 9 rfl (by kernel_rfl) (by rfl) (fun K hK => ?_)
    go_simp
    have kq25 := fun W : World => (C.equal Rq24.out Rq3.out) W
    rw [decide_eq_true (show n23 = n2 from (by rw [← Hn23.out, ← Hn10.out]; exact inv_invN HLn2.out))] at kq25
    have Kq25 := Lib.hid kq25
    clear kq25
    with_reducible refine (Kq25.out _).mono ?_
    rintro e vq25 ⟨rfl, hbq25⟩
    have kbq25 := below_next kbq24 hbq25
    clear hS hbq25
    refine hK.out _ _ (by exact kbq25) (fun hS => ?_)
    clear hK K
    refine' take_at 10 rfl (by kernel_rfl) (by kernel_rfl) (by kernel_rfl) (fun _ _ _ h => h) (by rfl) hS ?_ ?_ ?_
    rotate_left 2
    · intro W hSW; go_simp; try with_reducible rfl
    · simp only [List.set_cons_succ, List.set_cons_zero]; rfl
    refine' take_at 11 rfl (by kernel_rfl) (by kernel_rfl) (by kernel_rfl) (fun _ _ _ h => h) (by rfl) hS ?_ ?_ ?_
    rotate_left 2
    · intro W hSW; go_simp; try with_reducible rfl
    · simp only [List.set_cons_succ, List.set_cons_zero]; rfl
    refine' take_at 12 rfl (by kernel_rfl) (by kernel_rfl) (by kernel_rfl) (fun _ _ _ h => h) (by rfl) hS ?_ ?_ ?_
    rotate_left 2
    · intro W hSW; exact run_loadR rfl rfl (HRq18.out.below hSW).tail.tail.head Try.underlying26 rfl (C.base.info Rq3.out)
    · simp only [List.set_cons_succ, List.set_cons_zero]; rfl
    refine' take_at 13 rfl (by kernel_rfl) (by kernel_rfl) (by kernel_rfl) (fun _ _ _ h => h) (by rfl) hS ?_ ?_ ?_
    rotate_left 2
    · intro W hSW; exact run_loadR rfl rfl (HRq18.out.below hSW).tail.head Try.underlying26 rfl (C.base.info Rq7.out)
    · simp only [List.set_cons_succ, List.set_cons_zero]; rfl
    refine' take_at 16 rfl (by kernel_rfl) (by kernel_rfl) (by kernel_rfl) (fun _ _ _ h => h) (by rfl) hS ?_ ?_ ?_
    rotate_left 2
    · intro W hSW; exact run_loadR rfl rfl (HRq18.out.below hSW).head Try.underlying26 rfl (C.base.info Rq11.out)
    · simp only [List.set_cons_succ, List.set_cons_zero]; rfl
    refine' take_at 17 rfl (by kernel_rfl) (by kernel_rfl) (by kernel_rfl) (fun _ _ _ h => h) (by rfl) hS ?_ ?_ ?_
    rotate_left 2
    · intro W hSW; exact run_loadR rfl rfl (HRq18.out.below hSW).tail.head Try.underlying26 rfl (C.base.info Rq7.out)
    · simp only [List.set_cons_succ, List.set_cons_zero]; rfl
    refine call_at 14 rfl (by kernel_rfl) (by rfl) (fun K hK => ?_)
    go_simp
    obtain ⟨n26, hn26⟩ : ∃ x : Nat, (n2 * n6) % PP = x := ⟨_, rfl⟩
    have Hn26 := Lib.hid hn26
    have HLn26 : Hid (n26 < PP) := Lib.hid (by rw [← hn26]; exact Nat.mod_lt _ (by decide))
    clear hn26
    with_reducible refine ((C.mul Rq3.out Rq7.out) _).mono ?_
    rintro e vq27 ⟨cq27, rfl, rq27, hbq27⟩
    rw [Hn26.out] at rq27
    have Rq27 := Lib.hid rq27
    clear rq27
    have kbq27 := below_next kbq25 hbq27
    clear hS hbq27
    refine hK.out _ _ (by exact kbq27) (fun hS => ?_)
    clear hK K
    refine call_at 15 rfl (by kernel_rfl) (by rfl) (fun K hK => ?_)
    go_simp
    obtain ⟨n28, hn28⟩ : ∃ y : Nat, invN n26 = y := ⟨_, rfl⟩
    have Hn28 := Lib.hid hn28
    have HLn28 : Hid (n28 < PP) := Lib.hid (by rw [← hn28]; exact invN_lt _)
    clear hn28
    with_reducible refine ((D.invert Rq27.out) _).mono ?_
    rintro e vq29 ⟨cq29, rfl, rq29, hbq29⟩
    rw [Hn28.out] at rq29
    have Rq29 := Lib.hid rq29
    clear rq29
    have kbq29 := below_next kbq27 hbq29
    clear hS hbq29
    refine hK.out _ _ (by exact kbq29) (fun hS => ?_)
    clear hK K
    refine call_at 18 rfl (by kernel_rfl) (by rfl) (fun K hK => ?_)
    go_simp
    obtain ⟨n30, hn30⟩ : ∃ y : Nat, invN n6 = y := ⟨_, rfl⟩
    have Hn30 := Lib.hid hn30
    have HLn30 : Hid (n30 < PP) := Lib.hid (by rw [← hn30]; exact invN_lt _)
    clear hn30
    with_reducible refine ((D.invert Rq7.out) _).mono ?_
    rintro e vq31 ⟨cq31, rfl, rq31, hbq31⟩
    rw [Hn30.out] at rq31
    have Rq31 := Lib.hid rq31
    clear rq31
    have kbq31 := below_next kbq29 hbq31
    clear hS hbq31
    refine hK.out _ _ (by exact kbq31) (fun hS => ?_)
    clear hK K
    refine call_at 19 rfl (by kernel_rfl) (by rfl) (fun K hK => ?_)
    go_simp
    obtain ⟨n32, hn32⟩ : ∃ x : Nat, (n10 * n30) % PP = x := ⟨_, rfl⟩
    have Hn32 := Lib.hid hn32
    have HLn32 : Hid (n32 < PP) := Lib.hid (by rw [← hn32]; exact Nat.mod_lt _ (by decide))
    clear hn32
    with_reducible refine ((C.mul Rq11.out Rq31.out) _).mono ?_
    rintro e vq33 ⟨cq33, rfl, rq33, hbq33⟩
    rw [Hn32.out] at rq33
    have Rq33 := Lib.hid rq33
    clear rq33
    have kbq33 := below_next kbq31 hbq33
    clear hS hbq33
    refine hK.out _ _ (by exact kbq33) (fun hS => ?_)
    clear hK K
    refine call_at 20 rfl (by kernel_rfl) (by rfl) (fun K hK => ?_)
    go_simp
    have kq34 := fun W : World => (C.equal Rq29.out Rq33.out) W
    rw [decide_eq_true (show n28 = n32 from (by rw [← Hn28.out, ← Hn26.out, ← Hn32.out, ← Hn10.out, ← Hn30.out]; exact inv_prod _ _))] at kq34
    have Kq34 := Lib.hid kq34
    clear kq34
    with_reducible refine (Kq34.out _).mono ?_
    rintro e vq34 ⟨rfl, hbq34⟩
    have kbq34 := below_next kbq33 hbq34
    clear hS hbq34
    refine hK.out _ _ (by exact kbq34) (fun hS => ?_)
    clear hK K
    refine' take_at 21 rfl (by kernel_rfl) (by kernel_rfl) (by kernel_rfl) (fun _ _ _ h => h) (by rfl) hS ?_ ?_ ?_
    rotate_left 2
    · intro W hSW; go_simp; try with_reducible rfl
    · simp only [List.set_cons_succ, List.set_cons_zero]; rfl
    refine' take_at 22 rfl (by kernel_rfl) (by kernel_rfl) (by kernel_rfl) (fun _ _ _ h => h) (by rfl) hS ?_ ?_ ?_
    rotate_left 2
    · intro W hSW; go_simp; try with_reducible rfl
    · simp only [List.set_cons_succ, List.set_cons_zero]; rfl
    refine wpAnyH_done (by kernel_rfl) ?_ _
    refine NoPanic.normal ?_
    clear hS
    (try simp only [Act.put])
    have HRq35 := Lib.hid (HRq18.out.below kbq34)
    have HBq35 := Lib.hid (below_next HBq18.out kbq34)
    go_wp2_with fail
    go_ret
    exact ⟨rfl, HBq35.out⟩
end Go.Proofs.Ytjekeblcppkghaa

