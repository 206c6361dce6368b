/- The walk of FeNeg. Written by wip/tools/mk_law9.py. -/
import Derived.Test.YtlhnjdnkjgnooaaLaw9Alive
import Derived.Test.YtlhnjdnkjgnooaaFe9L
namespace Go.Proofs.Ytlhnjdnkjgnooaa
open Go.RowKit
set_option linter.unusedVariables false
set_option maxRecDepth 100000

set_option maxHeartbeats 6400000 in
theorem law9Neg {R : Array Value → Nat → Prop} (C : FeC R) (a : List UInt8) (ha : a.length = 32) (b : List UInt8) (hb : b.length = 32) (w : World) : Calls Try.prog 7 #[.agg (arrB a), .agg (arrB b)] w fun e w' => e = .returned (.bool true) ∧ Below w.heap.size w w' := by
  have HAL : Hid (∀ W : World, Calls Try.prog 9 #[] W fun e w' => e = .returned (.bool true) ∧ Below W.heap.size W w') := Lib.hid (fun W => alive9_any C W)
  obtain ⟨Z, hZ, RZ⟩ := C.base.zero
  have hzR := refT_zero
  have hz32 := zero32_zero
  have Ha := Lib.hid ha
  have Hb := Lib.hid hb
  clear ha hb
  go_enter Try.func7, Try.ntmps7
  go_wp2_with fail
  have HR0 := Lib.hid (((RowsW.nil w).box (arrB a) 22).box (arrB b) 22)
  have HB0 := Lib.hid (below_box (below_box (Below.refl w.heap.size w) (arrB a) 22) (arrB b) 22)
  rw [World.size_alloc] at HR0
  obtain ⟨W0, hW0⟩ : ∃ W, ((w.alloc (.cells (arrB a) 22)).alloc (.cells (arrB b) 22)) = W := ⟨_, rfl⟩
  obtain ⟨g0, hg0⟩ : ∃ g, w.heap.size = g := ⟨_, rfl⟩
  rw [hW0] at HR0 HB0
  rw [hg0] at HR0
  rw [hW0, hg0]
  have HG0 := Lib.hid hg0
  clear hW0 hg0
  with_reducible refine (HAL.out _).mono ?_
  rintro e v1 ⟨rfl, hb1⟩
  have HR1 := Lib.hid (HR0.out.below hb1)
  have HB1 := Lib.hid (below_next HB0.out hb1)
  clear hb1
  go_upto_region 2 with fail
  have l1 := HR1.out.tail.head
  go_wp2_with (refine wpList_load_row rfl 22 (.tmp 2) rfl g0 rfl 22 (arrB a) (0, 0) _ l1 Try.underlying22 rfl (arr32_info Ha.out) ?_)
  obtain ⟨n2, hn2⟩ : ∃ x : Nat, feN a = x := ⟨_, rfl⟩
  have Hn2 := Lib.hid hn2
  have HLn2 : Hid (n2 < PP) := Lib.hid (by rw [← hn2]; exact Nat.mod_lt _ (by decide))
  clear hn2
  with_reducible refine ((C.from_ a Ha.out) _).mono ?_
  rintro e vq3 ⟨cq3, rfl, rq3, hbq3⟩
  rw [Hn2.out] at rq3
  have Rq3 := Lib.hid rq3
  clear rq3
  have HRq3 := Lib.hid (HR1.out.below hbq3)
  have HBq3 := Lib.hid (below_next HB1.out hbq3)
  clear hbq3
  have h0q4 : (vq3.alloc (.cells Z 26)).heap[vq3.heap.size]? = some (.cells Z 26 (0, 0)) := heap_alloc_new _ _
  have HRq4 := Lib.hid (HRq3.out.new Z cq3 26)
  have HBq4 := Lib.hid (below_new HBq3.out Z cq3 26)
  have HNq4 := Lib.hid HRq3.out.ne
  have HGq4 := Lib.hid HBq3.out.size
  go_upto_region 3 with (refine wpList_store_row rfl 26 (.tmp 6) (.tmp 11) rfl vq3.heap.size cq3 rfl rfl 26 Z h0q4 (C.base.info Rq3.out) (C.base.size RZ Rq3.out) (C.base.one Rq3.out) ?_)
  obtain ⟨Wq4, hWq4⟩ : ∃ W, (vq3.alloc (.cells Z 26)).setRow vq3.heap.size cq3 = W := ⟨_, rfl⟩
  obtain ⟨gq4, hgq4⟩ : ∃ g, vq3.heap.size = g := ⟨_, rfl⟩
  rw [hWq4, hgq4] at HRq4
  rw [hWq4] at HBq4
  rw [hgq4] at HNq4 HGq4
  rw [hWq4, hgq4]
  clear hWq4 hgq4 h0q4
  have NEq4_0 : Hid (g0 ≠ gq4) := Lib.hid (HNq4.out (g0, (arrB a), 22) (by simp))
  have NEq4_1 : Hid ((g0 + 1) ≠ gq4) := Lib.hid (HNq4.out ((g0 + 1), (arrB b), 22) (by simp))
  have l5 := HRq4.out.tail.head
  go_wp2_with (refine wpList_load_row rfl 22 (.tmp 3) rfl (g0 + 1) rfl 22 (arrB b) (0, 0) _ l5 Try.underlying22 rfl (arr32_info Hb.out) ?_)
  obtain ⟨n6, hn6⟩ : ∃ x : Nat, feN b = x := ⟨_, rfl⟩
  have Hn6 := Lib.hid hn6
  have HLn6 : Hid (n6 < PP) := Lib.hid (by rw [← hn6]; exact Nat.mod_lt _ (by decide))
  clear hn6
  with_reducible refine ((C.from_ b Hb.out) _).mono ?_
  rintro e vq7 ⟨cq7, rfl, rq7, hbq7⟩
  rw [Hn6.out] at rq7
  have Rq7 := Lib.hid rq7
  clear rq7
  have HRq7 := Lib.hid (HRq4.out.below hbq7)
  have HBq7 := Lib.hid (below_next HBq4.out hbq7)
  clear hbq7
  have h0q8 : (vq7.alloc (.cells Z 26)).heap[vq7.heap.size]? = some (.cells Z 26 (0, 0)) := heap_alloc_new _ _
  have HRq8 := Lib.hid (HRq7.out.new Z cq7 26)
  have HBq8 := Lib.hid (below_new HBq7.out Z cq7 26)
  have HNq8 := Lib.hid HRq7.out.ne
  have HGq8 := Lib.hid HBq7.out.size
  go_upto_region 4 with (refine wpList_store_row rfl 26 (.tmp 7) (.tmp 13) rfl vq7.heap.size cq7 rfl rfl 26 Z h0q8 (C.base.info Rq7.out) (C.base.size RZ Rq7.out) (C.base.one Rq7.out) ?_)
  obtain ⟨Wq8, hWq8⟩ : ∃ W, (vq7.alloc (.cells Z 26)).setRow vq7.heap.size cq7 = W := ⟨_, rfl⟩
  obtain ⟨gq8, hgq8⟩ : ∃ g, vq7.heap.size = g := ⟨_, rfl⟩
  rw [hWq8, hgq8] at HRq8
  rw [hWq8] at HBq8
  rw [hgq8] at HNq8 HGq8
  rw [hWq8, hgq8]
  clear hWq8 hgq8 h0q8
  have NEq8_0 : Hid (g0 ≠ gq8) := Lib.hid (HNq8.out (g0, (arrB a), 22) (by simp))
  have NEq8_1 : Hid ((g0 + 1) ≠ gq8) := Lib.hid (HNq8.out ((g0 + 1), (arrB b), 22) (by simp))
  have NEq8_2 : Hid (gq4 ≠ gq8) := Lib.hid (HNq8.out (gq4, cq3, 26) (by simp))
  obtain ⟨n9, hn9⟩ : ∃ x : Nat, (PP - n2) % PP = x := ⟨_, rfl⟩
  have Hn9 := Lib.hid hn9
  have HLn9 : Hid (n9 < PP) := Lib.hid (by rw [← hn9]; exact Nat.mod_lt _ (by decide))
  clear hn9
  obtain ⟨b10, hb10⟩ : ∃ x : Bool, decide (n2 % 2 = 1) = x := ⟨_, rfl⟩
  have Hb10 := Lib.hid hb10
  clear hb10
  obtain ⟨b11, hb11⟩ : ∃ x : Bool, decide (n9 % 2 = 1) = x := ⟨_, rfl⟩
  have Hb11 := Lib.hid hb11
  clear hb11
  obtain ⟨b12, hb12⟩ : ∃ x : Bool, decide (n2 = 0) = x := ⟨_, rfl⟩
  have Hb12 := Lib.hid hb12
  clear hb12
  obtain ⟨bo, hnb⟩ : ∃ bo : Bool, (!b12) = bo := ⟨_, rfl⟩
  have hodd : (!(b10 == b11)) = bo := by rw [← hnb, ← Hb10.out, ← Hb11.out, ← Hn9.out, ← Hb12.out]; exact fr_oddneg HLn2.out
  refine wp_region_noPanic ?_
  refine wp_region_held_drew (S := fun W => Below Wq8.heap.size Wq8 W) (by kernel_rfl) (by exact (Below.refl _ _).drew) (fun hS => ?_)
  refine' take_at 0 rfl (by kernel_rfl) (by kernel_rfl) (by kernel_rfl) (fun _ _ _ h => h) (by rfl) hS ?_ ?_ ?_
  rotate_left 2
  · intro W hSW; exact run_loadR rfl rfl (HRq8.out.below hSW).tail.head Try.underlying26 rfl (C.base.info Rq3.out)
  · simp only [List.set_cons_succ, List.set_cons_zero]; rfl
  refine' take_at 2 rfl (by kernel_rfl) (by kernel_rfl) (by kernel_rfl) (fun _ _ _ h => h) (by rfl) hS ?_ ?_ ?_
  rotate_left 2
  · intro W hSW; exact run_loadR rfl rfl (HRq8.out.below hSW).tail.head Try.underlying26 rfl (C.base.info Rq3.out)
  · simp only [List.set_cons_succ, List.set_cons_zero]; rfl
  refine call_at 1 rfl (by kernel_rfl) (by rfl) (fun K hK => ?_)
  go_simp
  have kq13 := fun W : World => (C.odd Rq3.out) W
  rw [Hb10.out] at kq13
  have Kq13 := Lib.hid kq13
  clear kq13
  with_reducible refine (Kq13.out _).mono ?_
  rintro e vq13 ⟨rfl, hbq13⟩
  have kbq13 := below_next hS hbq13
  clear hS hbq13
  refine hK.out _ _ (by exact kbq13) (fun hS => ?_)
  clear hK K
  refine call_at 3 rfl (by kernel_rfl) (by rfl) (fun K hK => ?_)
  go_simp
  with_reducible refine ((C.neg Rq3.out) _).mono ?_
  rintro e vq14 ⟨cq14, rfl, rq14, hbq14⟩
  rw [Hn9.out] at rq14
  have Rq14 := Lib.hid rq14
  clear rq14
  have kbq14 := below_next kbq13 hbq14
  clear hS hbq14
  refine hK.out _ _ (by exact kbq14) (fun hS => ?_)
  clear hK K
  refine call_at 4 rfl (by kernel_rfl) (by rfl) (fun K hK => ?_)
  go_simp
  have kq15 := fun W : World => (C.odd Rq14.out) W
  rw [Hb11.out] at kq15
  have Kq15 := Lib.hid kq15
  clear kq15
  with_reducible refine (Kq15.out _).mono ?_
  rintro e vq15 ⟨rfl, hbq15⟩
  have kbq15 := below_next kbq14 hbq15
  clear hS hbq15
  refine hK.out _ _ (by exact kbq15) (fun hS => ?_)
  clear hK K
  refine' take_at 5 rfl (by kernel_rfl) (by kernel_rfl) (by kernel_rfl) (fun _ _ _ h => h) (by rfl) hS ?_ ?_ ?_
  rotate_left 2
  · intro W hSW; go_simp; try with_reducible rfl
  · simp only [List.set_cons_succ, List.set_cons_zero]; rfl
  refine' take_at 6 rfl (by kernel_rfl) (by kernel_rfl) (by kernel_rfl) (fun _ _ _ h => h) (by rfl) hS ?_ ?_ ?_
  rotate_left 2
  · intro W hSW; go_simp; try with_reducible rfl
  · simp only [List.set_cons_succ, List.set_cons_zero]; rfl
  refine wpAnyH_done (by kernel_rfl) ?_ _
  refine NoPanic.normal ?_
  clear hS
  (try simp only [Act.put])
  have HRq16 := Lib.hid (HRq8.out.below kbq15)
  have HBq16 := Lib.hid (below_next HBq8.out kbq15)
  go_upto_region 5 with fail
  refine wp_region_noPanic ?_
  refine wp_region_held_drew (S := fun W => Below vq15.heap.size vq15 W) (by kernel_rfl) (by exact (Below.refl _ _).drew) (fun hS => ?_)
  refine' take_at 0 rfl (by kernel_rfl) (by kernel_rfl) (by kernel_rfl) (fun _ _ _ h => h) (by rfl) hS ?_ ?_ ?_
  rotate_left 2
  · intro W hSW; go_simp; try with_reducible rfl
  · simp only [List.set_cons_succ, List.set_cons_zero]; rfl
  refine' take_at 1 rfl (by kernel_rfl) (by kernel_rfl) (by kernel_rfl) (fun _ _ _ h => h) (by rfl) hS ?_ ?_ ?_
  rotate_left 2
  · intro W hSW; go_simp; try with_reducible rfl
  · simp only [List.set_cons_succ, List.set_cons_zero]; rfl
  refine' take_at 2 rfl (by kernel_rfl) (by kernel_rfl) (by kernel_rfl) (fun _ _ _ h => h) (by rfl) hS ?_ ?_ ?_
  rotate_left 2
  · intro W hSW; exact run_loadR rfl rfl (HRq16.out.below hSW).tail.head Try.underlying26 rfl (C.base.info Rq3.out)
  · simp only [List.set_cons_succ, List.set_cons_zero]; rfl
  refine' take_at 3 rfl (by kernel_rfl) (by kernel_rfl) (by kernel_rfl) (fun _ _ _ h => h) (by rfl) hS ?_ ?_ ?_
  rotate_left 2
  · intro W hSW; exact run_loadR rfl rfl (HRq16.out.below hSW).head Try.underlying26 rfl (C.base.info Rq7.out)
  · simp only [List.set_cons_succ, List.set_cons_zero]; rfl
  refine' take_at 5 rfl (by kernel_rfl) (by kernel_rfl) (by kernel_rfl) (fun _ _ _ h => h) (by rfl) hS ?_ ?_ ?_
  rotate_left 2
  · intro W hSW; exact run_loadR rfl rfl (HRq16.out.below hSW).tail.head Try.underlying26 rfl (C.base.info Rq3.out)
  · simp only [List.set_cons_succ, List.set_cons_zero]; rfl
  refine' take_at 6 rfl (by kernel_rfl) (by kernel_rfl) (by kernel_rfl) (fun _ _ _ h => h) (by rfl) hS ?_ ?_ ?_
  rotate_left 2
  · intro W hSW; exact run_loadR rfl rfl (HRq16.out.below hSW).head Try.underlying26 rfl (C.base.info Rq7.out)
  · simp only [List.set_cons_succ, List.set_cons_zero]; rfl
  refine call_at 4 rfl (by kernel_rfl) (by rfl) (fun K hK => ?_)
  go_simp
  obtain ⟨n17, hn17⟩ : ∃ x : Nat, (n2 + (PP - n6)) % PP = x := ⟨_, rfl⟩
  have Hn17 := Lib.hid hn17
  have HLn17 : Hid (n17 < PP) := Lib.hid (by rw [← hn17]; exact Nat.mod_lt _ (by decide))
  clear hn17
  with_reducible refine ((C.sub Rq3.out Rq7.out) _).mono ?_
  rintro e vq18 ⟨cq18, rfl, rq18, hbq18⟩
  rw [Hn17.out] at rq18
  have Rq18 := Lib.hid rq18
  clear rq18
  have kbq18 := below_next hS hbq18
  clear hS hbq18
  refine hK.out _ _ (by exact kbq18) (fun hS => ?_)
  clear hK K
  refine call_at 7 rfl (by kernel_rfl) (by rfl) (fun K hK => ?_)
  go_simp
  obtain ⟨n19, hn19⟩ : ∃ x : Nat, (PP - n6) % PP = x := ⟨_, rfl⟩
  have Hn19 := Lib.hid hn19
  have HLn19 : Hid (n19 < PP) := Lib.hid (by rw [← hn19]; exact Nat.mod_lt _ (by decide))
  clear hn19
  with_reducible refine ((C.neg Rq7.out) _).mono ?_
  rintro e vq20 ⟨cq20, rfl, rq20, hbq20⟩
  rw [Hn19.out] at rq20
  have Rq20 := Lib.hid rq20
  clear rq20
  have kbq20 := below_next kbq18 hbq20
  clear hS hbq20
  refine hK.out _ _ (by exact kbq20) (fun hS => ?_)
  clear hK K
  refine call_at 8 rfl (by kernel_rfl) (by rfl) (fun K hK => ?_)
  go_simp
  obtain ⟨n21, hn21⟩ : ∃ x : Nat, (n2 + n19) % PP = x := ⟨_, rfl⟩
  have Hn21 := Lib.hid hn21
  have HLn21 : Hid (n21 < PP) := Lib.hid (by rw [← hn21]; exact Nat.mod_lt _ (by decide))
  clear hn21
  with_reducible refine ((C.add Rq3.out Rq20.out) _).mono ?_
  rintro e vq22 ⟨cq22, rfl, rq22, hbq22⟩
  rw [Hn21.out] at rq22
  have Rq22 := Lib.hid rq22
  clear rq22
  have kbq22 := below_next kbq20 hbq22
  clear hS hbq22
  refine hK.out _ _ (by exact kbq22) (fun hS => ?_)
  clear hK K
  refine call_at 9 rfl (by kernel_rfl) (by rfl) (fun K hK => ?_)
  go_simp
  have kq23 := fun W : World => (C.equal Rq18.out Rq22.out) W
  rw [decide_eq_true (show n17 = n21 from (by rw [← Hn17.out, ← Hn21.out, ← Hn19.out]; exact fr_subneg _ HLn6.out))] at kq23
  have Kq23 := Lib.hid kq23
  clear kq23
  with_reducible refine (Kq23.out _).mono ?_
  rintro e vq23 ⟨rfl, hbq23⟩
  have kbq23 := below_next kbq22 hbq23
  clear hS hbq23
  refine hK.out _ _ (by exact kbq23) (fun hS => ?_)
  clear hK K
  refine' take_at 10 rfl (by kernel_rfl) (by kernel_rfl) (by kernel_rfl) (fun _ _ _ h => h) (by rfl) hS ?_ ?_ ?_
  rotate_left 2
  · intro W hSW; go_simp; try with_reducible rfl
  · simp only [List.set_cons_succ, List.set_cons_zero]; rfl
  refine' take_at 11 rfl (by kernel_rfl) (by kernel_rfl) (by kernel_rfl) (fun _ _ _ h => h) (by rfl) hS ?_ ?_ ?_
  rotate_left 2
  · intro W hSW; go_simp; try with_reducible rfl
  · simp only [List.set_cons_succ, List.set_cons_zero]; rfl
  refine' take_at 12 rfl (by kernel_rfl) (by kernel_rfl) (by kernel_rfl) (fun _ _ _ h => h) (by rfl) hS ?_ ?_ ?_
  rotate_left 2
  · intro W hSW; exact run_loadR rfl rfl (HRq16.out.below hSW).tail.head Try.underlying26 rfl (C.base.info Rq3.out)
  · simp only [List.set_cons_succ, List.set_cons_zero]; rfl
  refine' take_at 15 rfl (by kernel_rfl) (by kernel_rfl) (by kernel_rfl) (fun _ _ _ h => h) (by rfl) hS ?_ ?_ ?_
  rotate_left 2
  · intro W hSW; exact run_loadR rfl rfl (HRq16.out.below hSW).tail.head Try.underlying26 rfl (C.base.info Rq3.out)
  · simp only [List.set_cons_succ, List.set_cons_zero]; rfl
  refine call_at 13 rfl (by kernel_rfl) (by rfl) (fun K hK => ?_)
  go_simp
  with_reducible refine ((C.neg Rq3.out) _).mono ?_
  rintro e vq24 ⟨cq24, rfl, rq24, hbq24⟩
  rw [Hn9.out] at rq24
  have Rq24 := Lib.hid rq24
  clear rq24
  have kbq24 := below_next kbq23 hbq24
  clear hS hbq24
  refine hK.out _ _ (by exact kbq24) (fun hS => ?_)
  clear hK K
  refine call_at 14 rfl (by kernel_rfl) (by rfl) (fun K hK => ?_)
  go_simp
  obtain ⟨n25, hn25⟩ : ∃ x : Nat, (PP - n9) % PP = x := ⟨_, rfl⟩
  have Hn25 := Lib.hid hn25
  have HLn25 : Hid (n25 < PP) := Lib.hid (by rw [← hn25]; exact Nat.mod_lt _ (by decide))
  clear hn25
  with_reducible refine ((C.neg Rq24.out) _).mono ?_
  rintro e vq26 ⟨cq26, rfl, rq26, hbq26⟩
  rw [Hn25.out] at rq26
  have Rq26 := Lib.hid rq26
  clear rq26
  have kbq26 := below_next kbq24 hbq26
  clear hS hbq26
  refine hK.out _ _ (by exact kbq26) (fun hS => ?_)
  clear hK K
  refine call_at 16 rfl (by kernel_rfl) (by rfl) (fun K hK => ?_)
  go_simp
  have kq27 := fun W : World => (C.equal Rq26.out Rq3.out) W
  rw [decide_eq_true (show n25 = n2 from (by rw [← Hn25.out, ← Hn9.out]; exact fr_negneg HLn2.out))] at kq27
  have Kq27 := Lib.hid kq27
  clear kq27
  with_reducible refine (Kq27.out _).mono ?_
  rintro e vq27 ⟨rfl, hbq27⟩
  have kbq27 := below_next kbq26 hbq27
  clear hS hbq27
  refine hK.out _ _ (by exact kbq27) (fun hS => ?_)
  clear hK K
  refine' take_at 17 rfl (by kernel_rfl) (by kernel_rfl) (by kernel_rfl) (fun _ _ _ h => h) (by rfl) hS ?_ ?_ ?_
  rotate_left 2
  · intro W hSW; go_simp; try with_reducible rfl
  · simp only [List.set_cons_succ, List.set_cons_zero]; rfl
  refine' take_at 18 rfl (by kernel_rfl) (by kernel_rfl) (by kernel_rfl) (fun _ _ _ h => h) (by rfl) hS ?_ ?_ ?_
  rotate_left 2
  · intro W hSW; go_simp; try with_reducible rfl
  · simp only [List.set_cons_succ, List.set_cons_zero]; rfl
  refine' take_at 19 rfl (by kernel_rfl) (by kernel_rfl) (by kernel_rfl) (fun _ _ _ h => h) (by rfl) hS ?_ ?_ ?_
  rotate_left 2
  · intro W hSW; exact run_loadR rfl rfl (HRq16.out.below hSW).tail.head Try.underlying26 rfl (C.base.info Rq3.out)
  · simp only [List.set_cons_succ, List.set_cons_zero]; rfl
  refine' take_at 20 rfl (by kernel_rfl) (by kernel_rfl) (by kernel_rfl) (fun _ _ _ h => h) (by rfl) hS ?_ ?_ ?_
  rotate_left 2
  · intro W hSW; exact run_loadR rfl rfl (HRq16.out.below hSW).tail.head Try.underlying26 rfl (C.base.info Rq3.out)
  · simp only [List.set_cons_succ, List.set_cons_zero]; rfl
  refine call_at 21 rfl (by kernel_rfl) (by rfl) (fun K hK => ?_)
  go_simp
  obtain ⟨n28, hn28⟩ : ∃ x : Nat, (n2 + (PP - n2)) % PP = x := ⟨_, rfl⟩
  have Hn28 := Lib.hid hn28
  have HLn28 : Hid (n28 < PP) := Lib.hid (by rw [← hn28]; exact Nat.mod_lt _ (by decide))
  clear hn28
  with_reducible refine ((C.sub Rq3.out Rq3.out) _).mono ?_
  rintro e vq29 ⟨cq29, rfl, rq29, hbq29⟩
  rw [Hn28.out] at rq29
  have Rq29 := Lib.hid rq29
  clear rq29
  have kbq29 := below_next kbq27 hbq29
  clear hS hbq29
  refine hK.out _ _ (by exact kbq29) (fun hS => ?_)
  clear hK K
  refine call_at 22 rfl (by kernel_rfl) (by rfl) (fun K hK => ?_)
  go_simp
  have kq30 := fun W : World => (C.isZero Rq29.out) W
  rw [decide_eq_true (show n28 = 0 from (by rw [← Hn28.out]; exact fr_subself HLn2.out))] at kq30
  have Kq30 := Lib.hid kq30
  clear kq30
  with_reducible refine (Kq30.out _).mono ?_
  rintro e vq30 ⟨rfl, hbq30⟩
  have kbq30 := below_next kbq29 hbq30
  clear hS hbq30
  refine hK.out _ _ (by exact kbq30) (fun hS => ?_)
  clear hK K
  refine' take_at 23 rfl (by kernel_rfl) (by kernel_rfl) (by kernel_rfl) (fun _ _ _ h => h) (by rfl) hS ?_ ?_ ?_
  rotate_left 2
  · intro W hSW; go_simp; try with_reducible rfl
  · simp only [List.set_cons_succ, List.set_cons_zero]; rfl
  refine' take_at 24 rfl (by kernel_rfl) (by kernel_rfl) (by kernel_rfl) (fun _ _ _ h => h) (by rfl) hS ?_ ?_ ?_
  rotate_left 2
  · intro W hSW; go_simp; try with_reducible rfl
  · simp only [List.set_cons_succ, List.set_cons_zero]; rfl
  refine' take_at 25 rfl (by kernel_rfl) (by kernel_rfl) (by kernel_rfl) (fun _ _ _ h => h) (by rfl) hS ?_ ?_ ?_
  rotate_left 2
  · intro W hSW; go_simp; try with_reducible rfl
  · simp only [List.set_cons_succ, List.set_cons_zero]; rfl
  refine' take_at 26 rfl (by kernel_rfl) (by kernel_rfl) (by kernel_rfl) (fun _ _ _ h => h) (by rfl) hS ?_ ?_ ?_
  rotate_left 2
  · intro W hSW; exact run_loadR rfl rfl (HRq16.out.below hSW).tail.head Try.underlying26 rfl (C.base.info Rq3.out)
  · simp only [List.set_cons_succ, List.set_cons_zero]; rfl
  refine call_at 27 rfl (by kernel_rfl) (by rfl) (fun K hK => ?_)
  go_simp
  have kq31 := fun W : World => (C.isZero Rq3.out) W
  rw [Hb12.out] at kq31
  have Kq31 := Lib.hid kq31
  clear kq31
  with_reducible refine (Kq31.out _).mono ?_
  rintro e vq31 ⟨rfl, hbq31⟩
  have kbq31 := below_next kbq30 hbq31
  clear hS hbq31
  refine hK.out _ _ (by exact kbq31) (fun hS => ?_)
  clear hK K
  refine' take_at 28 rfl (by kernel_rfl) (by kernel_rfl) (by kernel_rfl) (fun _ _ _ h => h) (by rfl) hS ?_ ?_ ?_
  rotate_left 2
  · intro W hSW; go_simp; try with_reducible rfl
  · simp only [List.set_cons_succ, List.set_cons_zero]; rfl
  refine' take_at 29 rfl (by kernel_rfl) (by kernel_rfl) (by kernel_rfl) (fun _ _ _ h => h) (by rfl) hS ?_ ?_ ?_
  rotate_left 2
  · intro W hSW; go_simp; try with_reducible rfl
  · simp only [List.set_cons_succ, List.set_cons_zero]; rfl
  refine' take_at 30 rfl (by kernel_rfl) (by kernel_rfl) (by kernel_rfl) (fun _ _ _ h => h) (by rfl) hS ?_ ?_ ?_
  rotate_left 2
  · intro W hSW; go_simp; try with_reducible rfl
  · simp only [List.set_cons_succ, List.set_cons_zero]; rfl
  refine' take_at 31 rfl (by kernel_rfl) (by kernel_rfl) (by kernel_rfl) (fun _ _ _ h => h) (by rfl) hS ?_ ?_ ?_
  rotate_left 2
  · intro W hSW; go_simp; try with_reducible rfl
  · simp only [List.set_cons_succ, List.set_cons_zero]; rfl
  refine' take_at 32 rfl (by kernel_rfl) (by kernel_rfl) (by kernel_rfl) (fun _ _ _ h => h) (by rfl) hS ?_ ?_ ?_
  rotate_left 2
  · intro W hSW; exact run_loadR rfl rfl (HRq16.out.below hSW).tail.head Try.underlying26 rfl (C.base.info Rq3.out)
  · simp only [List.set_cons_succ, List.set_cons_zero]; rfl
  refine' take_at 34 rfl (by kernel_rfl) (by kernel_rfl) (by kernel_rfl) (fun _ _ _ h => h) (by rfl) hS ?_ ?_ ?_
  rotate_left 2
  · intro W hSW; exact run_loadR rfl rfl (HRq16.out.below hSW).head Try.underlying26 rfl (C.base.info Rq7.out)
  · simp only [List.set_cons_succ, List.set_cons_zero]; rfl
  refine' take_at 37 rfl (by kernel_rfl) (by kernel_rfl) (by kernel_rfl) (fun _ _ _ h => h) (by rfl) hS ?_ ?_ ?_
  rotate_left 2
  · intro W hSW; exact run_loadR rfl rfl (HRq16.out.below hSW).tail.head Try.underlying26 rfl (C.base.info Rq3.out)
  · simp only [List.set_cons_succ, List.set_cons_zero]; rfl
  refine' take_at 38 rfl (by kernel_rfl) (by kernel_rfl) (by kernel_rfl) (fun _ _ _ h => h) (by rfl) hS ?_ ?_ ?_
  rotate_left 2
  · intro W hSW; exact run_loadR rfl rfl (HRq16.out.below hSW).head Try.underlying26 rfl (C.base.info Rq7.out)
  · simp only [List.set_cons_succ, List.set_cons_zero]; rfl
  refine call_at 33 rfl (by kernel_rfl) (by rfl) (fun K hK => ?_)
  go_simp
  with_reducible refine ((C.neg Rq3.out) _).mono ?_
  rintro e vq32 ⟨cq32, rfl, rq32, hbq32⟩
  rw [Hn9.out] at rq32
  have Rq32 := Lib.hid rq32
  clear rq32
  have kbq32 := below_next kbq31 hbq32
  clear hS hbq32
  refine hK.out _ _ (by exact kbq32) (fun hS => ?_)
  clear hK K
  refine call_at 35 rfl (by kernel_rfl) (by rfl) (fun K hK => ?_)
  go_simp
  with_reducible refine ((C.neg Rq7.out) _).mono ?_
  rintro e vq33 ⟨cq33, rfl, rq33, hbq33⟩
  rw [Hn19.out] at rq33
  have Rq33 := Lib.hid rq33
  clear rq33
  have kbq33 := below_next kbq32 hbq33
  clear hS hbq33
  refine hK.out _ _ (by exact kbq33) (fun hS => ?_)
  clear hK K
  refine call_at 36 rfl (by kernel_rfl) (by rfl) (fun K hK => ?_)
  go_simp
  obtain ⟨n34, hn34⟩ : ∃ x : Nat, (n9 * n19) % PP = x := ⟨_, rfl⟩
  have Hn34 := Lib.hid hn34
  have HLn34 : Hid (n34 < PP) := Lib.hid (by rw [← hn34]; exact Nat.mod_lt _ (by decide))
  clear hn34
  with_reducible refine ((C.mul Rq32.out Rq33.out) _).mono ?_
  rintro e vq35 ⟨cq35, rfl, rq35, hbq35⟩
  rw [Hn34.out] at rq35
  have Rq35 := Lib.hid rq35
  clear rq35
  have kbq35 := below_next kbq33 hbq35
  clear hS hbq35
  refine hK.out _ _ (by exact kbq35) (fun hS => ?_)
  clear hK K
  refine call_at 39 rfl (by kernel_rfl) (by rfl) (fun K hK => ?_)
  go_simp
  obtain ⟨n36, hn36⟩ : ∃ x : Nat, (n2 * n6) % PP = x := ⟨_, rfl⟩
  have Hn36 := Lib.hid hn36
  have HLn36 : Hid (n36 < PP) := Lib.hid (by rw [← hn36]; exact Nat.mod_lt _ (by decide))
  clear hn36
  with_reducible refine ((C.mul Rq3.out Rq7.out) _).mono ?_
  rintro e vq37 ⟨cq37, rfl, rq37, hbq37⟩
  rw [Hn36.out] at rq37
  have Rq37 := Lib.hid rq37
  clear rq37
  have kbq37 := below_next kbq35 hbq37
  clear hS hbq37
  refine hK.out _ _ (by exact kbq37) (fun hS => ?_)
  clear hK K
  refine call_at 40 rfl (by kernel_rfl) (by rfl) (fun K hK => ?_)
  go_simp
  have kq38 := fun W : World => (C.equal Rq35.out Rq37.out) W
  rw [decide_eq_true (show n34 = n36 from (by rw [← Hn34.out, ← Hn36.out, ← Hn9.out, ← Hn19.out]; exact fr_negmul HLn2.out HLn6.out))] at kq38
  have Kq38 := Lib.hid kq38
  clear kq38
  with_reducible refine (Kq38.out _).mono ?_
  rintro e vq38 ⟨rfl, hbq38⟩
  have kbq38 := below_next kbq37 hbq38
  clear hS hbq38
  refine hK.out _ _ (by exact kbq38) (fun hS => ?_)
  clear hK K
  refine' take_at 41 rfl (by kernel_rfl) (by kernel_rfl) (by kernel_rfl) (fun _ _ _ h => h) (by rfl) hS ?_ ?_ ?_
  rotate_left 2
  · intro W hSW; go_simp; try with_reducible rfl
  · simp only [List.set_cons_succ, List.set_cons_zero]; rfl
  refine' take_at 42 rfl (by kernel_rfl) (by kernel_rfl) (by kernel_rfl) (fun _ _ _ h => h) (by rfl) hS ?_ ?_ ?_
  rotate_left 2
  · intro W hSW; go_simp; try with_reducible rfl
  · simp only [List.set_cons_succ, List.set_cons_zero]; rfl
  refine wpAnyH_done (by kernel_rfl) ?_ _
  refine NoPanic.normal ?_
  clear hS
  (try simp only [Act.put])
  have HRq39 := Lib.hid (HRq16.out.below kbq38)
  have HBq39 := Lib.hid (below_next HBq16.out kbq38)
  go_wp2_with fail
  go_ret
  exact ⟨rfl, HBq39.out⟩
end Go.Proofs.Ytlhnjdnkjgnooaa

