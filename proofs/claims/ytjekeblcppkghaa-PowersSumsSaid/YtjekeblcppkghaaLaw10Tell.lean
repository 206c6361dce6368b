/- The walk of PowersTell. Written by wip/tools. -/
import Derived.Test.YtjekeblcppkghaaLaw10Alive
namespace Go.Proofs.Ytjekeblcppkghaa
open Go.RowKit
set_option linter.unusedVariables false
set_option maxRecDepth 100000

set_option maxHeartbeats 6400000 in
theorem law10Tell {R : Array Value → Nat → Prop} (C : Fe10C R) (D : PowC R) (a : List UInt8) (ha : a.length = 32) (b : List UInt8) (hb : b.length = 32) (e : List UInt8) (he : e.length = 32) (w : World) : Calls Try.prog 3 #[.agg (arrB a), .agg (arrB b), .agg (arrB e)] w fun e w' => e = .returned (.bool true) ∧ Below w.heap.size w w' := by
  have HAL : Hid (∀ W : World, Calls Try.prog 8 #[] W fun e w' => e = .returned (.bool true) ∧ Below W.heap.size W w') := Lib.hid (fun W => alive10_any C D W)
  obtain ⟨Z, hZ, RZ⟩ := C.base.zero
  have hzR := refT_zero
  have hz32 := zero32_zero
  have Ha := Lib.hid ha
  have Hb := Lib.hid hb
  have He := Lib.hid he
  clear ha hb he
  go_enter Try.func3, Try.ntmps3
  go_wp2_with fail
  have HR0 := Lib.hid ((((RowsW.nil w).box (arrB a) 22).box (arrB b) 22).box (arrB e) 22)
  have HB0 := Lib.hid (below_box (below_box (below_box (Below.refl w.heap.size w) (arrB a) 22) (arrB b) 22) (arrB e) 22)
  rw [World.size_alloc] at HR0
  rw [World.size_alloc] at HR0
  obtain ⟨W0, hW0⟩ : ∃ W, (((w.alloc (.cells (arrB a) 22)).alloc (.cells (arrB b) 22)).alloc (.cells (arrB e) 22)) = W := ⟨_, rfl⟩
  obtain ⟨g0, hg0⟩ : ∃ g, w.heap.size = g := ⟨_, rfl⟩
  rw [hW0] at HR0 HB0
  rw [hg0] at HR0
  rw [hW0, hg0]
  have HG0 := Lib.hid hg0
  clear hW0 hg0
  with_reducible refine (HAL.out _).mono ?_
  rintro e v1 ⟨rfl, hb1⟩
  have HR1 := Lib.hid (HR0.out.below hb1)
  have HB1 := Lib.hid (below_next HB0.out hb1)
  clear hb1
  go_upto_region 2 with fail
  have l1 := HR1.out.tail.tail.head
  go_wp2_with (refine wpList_load_row rfl 22 (.tmp 3) rfl g0 rfl 22 (arrB a) (0, 0) _ l1 Try.underlying22 rfl (arr32_info Ha.out) ?_)
  obtain ⟨n2, hn2⟩ : ∃ x : Nat, feN a = x := ⟨_, rfl⟩
  have Hn2 := Lib.hid hn2
  have HLn2 : Hid (n2 < PP) := Lib.hid (by rw [← hn2]; exact Nat.mod_lt _ (by decide))
  clear hn2
  with_reducible refine ((C.from_ a Ha.out) _).mono ?_
  rintro e vq3 ⟨cq3, rfl, rq3, hbq3⟩
  rw [Hn2.out] at rq3
  have Rq3 := Lib.hid rq3
  clear rq3
  have HRq3 := Lib.hid (HR1.out.below hbq3)
  have HBq3 := Lib.hid (below_next HB1.out hbq3)
  clear hbq3
  have h0q4 : (vq3.alloc (.cells Z 26)).heap[vq3.heap.size]? = some (.cells Z 26 (0, 0)) := heap_alloc_new _ _
  have HRq4 := Lib.hid (HRq3.out.new Z cq3 26)
  have HBq4 := Lib.hid (below_new HBq3.out Z cq3 26)
  have HNq4 := Lib.hid HRq3.out.ne
  have HGq4 := Lib.hid HBq3.out.size
  go_upto_region 3 with (refine wpList_store_row rfl 26 (.tmp 8) (.tmp 22) rfl vq3.heap.size cq3 rfl rfl 26 Z h0q4 (C.base.info Rq3.out) (C.base.size RZ Rq3.out) (C.base.one Rq3.out) ?_)
  obtain ⟨Wq4, hWq4⟩ : ∃ W, (vq3.alloc (.cells Z 26)).setRow vq3.heap.size cq3 = W := ⟨_, rfl⟩
  obtain ⟨gq4, hgq4⟩ : ∃ g, vq3.heap.size = g := ⟨_, rfl⟩
  rw [hWq4, hgq4] at HRq4
  rw [hWq4] at HBq4
  rw [hgq4] at HNq4 HGq4
  rw [hWq4, hgq4]
  clear hWq4 hgq4 h0q4
  have NEq4_0 : Hid (g0 ≠ gq4) := Lib.hid (HNq4.out (g0, (arrB a), 22) (by simp))
  have NEq4_1 : Hid ((g0 + 1) ≠ gq4) := Lib.hid (HNq4.out ((g0 + 1), (arrB b), 22) (by simp))
  have NEq4_2 : Hid ((g0 + 1 + 1) ≠ gq4) := Lib.hid (HNq4.out ((g0 + 1 + 1), (arrB e), 22) (by simp))
  have l5 := HRq4.out.tail.tail.head
  go_wp2_with (refine wpList_load_row rfl 22 (.tmp 4) rfl (g0 + 1) rfl 22 (arrB b) (0, 0) _ l5 Try.underlying22 rfl (arr32_info Hb.out) ?_)
  obtain ⟨n6, hn6⟩ : ∃ x : Nat, feN b = x := ⟨_, rfl⟩
  have Hn6 := Lib.hid hn6
  have HLn6 : Hid (n6 < PP) := Lib.hid (by rw [← hn6]; exact Nat.mod_lt _ (by decide))
  clear hn6
  with_reducible refine ((C.from_ b Hb.out) _).mono ?_
  rintro e vq7 ⟨cq7, rfl, rq7, hbq7⟩
  rw [Hn6.out] at rq7
  have Rq7 := Lib.hid rq7
  clear rq7
  have HRq7 := Lib.hid (HRq4.out.below hbq7)
  have HBq7 := Lib.hid (below_next HBq4.out hbq7)
  clear hbq7
  have h0q8 : (vq7.alloc (.cells Z 26)).heap[vq7.heap.size]? = some (.cells Z 26 (0, 0)) := heap_alloc_new _ _
  have HRq8 := Lib.hid (HRq7.out.new Z cq7 26)
  have HBq8 := Lib.hid (below_new HBq7.out Z cq7 26)
  have HNq8 := Lib.hid HRq7.out.ne
  have HGq8 := Lib.hid HBq7.out.size
  go_upto_region 4 with (refine wpList_store_row rfl 26 (.tmp 9) (.tmp 24) rfl vq7.heap.size cq7 rfl rfl 26 Z h0q8 (C.base.info Rq7.out) (C.base.size RZ Rq7.out) (C.base.one Rq7.out) ?_)
  obtain ⟨Wq8, hWq8⟩ : ∃ W, (vq7.alloc (.cells Z 26)).setRow vq7.heap.size cq7 = W := ⟨_, rfl⟩
  obtain ⟨gq8, hgq8⟩ : ∃ g, vq7.heap.size = g := ⟨_, rfl⟩
  rw [hWq8, hgq8] at HRq8
  rw [hWq8] at HBq8
  rw [hgq8] at HNq8 HGq8
  rw [hWq8, hgq8]
  clear hWq8 hgq8 h0q8
  have NEq8_0 : Hid (g0 ≠ gq8) := Lib.hid (HNq8.out (g0, (arrB a), 22) (by simp))
  have NEq8_1 : Hid ((g0 + 1) ≠ gq8) := Lib.hid (HNq8.out ((g0 + 1), (arrB b), 22) (by simp))
  have NEq8_2 : Hid ((g0 + 1 + 1) ≠ gq8) := Lib.hid (HNq8.out ((g0 + 1 + 1), (arrB e), 22) (by simp))
  have NEq8_3 : Hid (gq4 ≠ gq8) := Lib.hid (HNq8.out (gq4, cq3, 26) (by simp))
  have l9 := HRq8.out.tail.tail.tail.tail.head
  go_wp2_with (refine wpList_load_row rfl 22 (.tmp 3) rfl g0 rfl 22 (arrB a) (0, 0) _ l9 Try.underlying22 rfl (arr32_info Ha.out) ?_)
  have kq10 := fun W : World => (rfromN a Ha.out) W
  rw [Hn2.out] at kq10
  have Kq10 := Lib.hid kq10
  clear kq10
  with_reducible refine (Kq10.out _).mono ?_
  rintro e vq10 ⟨rfl, hbq10⟩
  have HRq10 := Lib.hid (HRq8.out.below hbq10)
  have HBq10 := Lib.hid (below_next HBq8.out hbq10)
  clear hbq10
  have h0q11 : (vq10.alloc (.cells (refT 0) 29)).heap[vq10.heap.size]? = some (.cells (refT 0) 29 (0, 0)) := heap_alloc_new _ _
  have HRq11 := Lib.hid (HRq10.out.new (refT 0) (refT n2) 29)
  have HBq11 := Lib.hid (below_new HBq10.out (refT 0) (refT n2) 29)
  have HNq11 := Lib.hid HRq10.out.ne
  have HGq11 := Lib.hid HBq10.out.size
  go_upto_region 5 with (refine wpList_store_row rfl 29 (.tmp 10) (.tmp 26) rfl vq10.heap.size (refT n2) rfl rfl 29 (refT 0) h0q11 (refT_info _) (refT_size _ _) (refT_one _) ?_)
  obtain ⟨Wq11, hWq11⟩ : ∃ W, (vq10.alloc (.cells (refT 0) 29)).setRow vq10.heap.size (refT n2) = W := ⟨_, rfl⟩
  obtain ⟨gq11, hgq11⟩ : ∃ g, vq10.heap.size = g := ⟨_, rfl⟩
  rw [hWq11, hgq11] at HRq11
  rw [hWq11] at HBq11
  rw [hgq11] at HNq11 HGq11
  rw [hWq11, hgq11]
  clear hWq11 hgq11 h0q11
  have NEq11_0 : Hid (g0 ≠ gq11) := Lib.hid (HNq11.out (g0, (arrB a), 22) (by simp))
  have NEq11_1 : Hid ((g0 + 1) ≠ gq11) := Lib.hid (HNq11.out ((g0 + 1), (arrB b), 22) (by simp))
  have NEq11_2 : Hid ((g0 + 1 + 1) ≠ gq11) := Lib.hid (HNq11.out ((g0 + 1 + 1), (arrB e), 22) (by simp))
  have NEq11_3 : Hid (gq4 ≠ gq11) := Lib.hid (HNq11.out (gq4, cq3, 26) (by simp))
  have NEq11_4 : Hid (gq8 ≠ gq11) := Lib.hid (HNq11.out (gq8, cq7, 26) (by simp))
  have l12 := HRq11.out.tail.tail.tail.tail.head
  go_wp2_with (refine wpList_load_row rfl 22 (.tmp 4) rfl (g0 + 1) rfl 22 (arrB b) (0, 0) _ l12 Try.underlying22 rfl (arr32_info Hb.out) ?_)
  have kq13 := fun W : World => (rfromN b Hb.out) W
  rw [Hn6.out] at kq13
  have Kq13 := Lib.hid kq13
  clear kq13
  with_reducible refine (Kq13.out _).mono ?_
  rintro e vq13 ⟨rfl, hbq13⟩
  have HRq13 := Lib.hid (HRq11.out.below hbq13)
  have HBq13 := Lib.hid (below_next HBq11.out hbq13)
  clear hbq13
  have h0q14 : (vq13.alloc (.cells (refT 0) 29)).heap[vq13.heap.size]? = some (.cells (refT 0) 29 (0, 0)) := heap_alloc_new _ _
  have HRq14 := Lib.hid (HRq13.out.new (refT 0) (refT n6) 29)
  have HBq14 := Lib.hid (below_new HBq13.out (refT 0) (refT n6) 29)
  have HNq14 := Lib.hid HRq13.out.ne
  have HGq14 := Lib.hid HBq13.out.size
  go_upto_region 6 with (refine wpList_store_row rfl 29 (.tmp 11) (.tmp 28) rfl vq13.heap.size (refT n6) rfl rfl 29 (refT 0) h0q14 (refT_info _) (refT_size _ _) (refT_one _) ?_)
  obtain ⟨Wq14, hWq14⟩ : ∃ W, (vq13.alloc (.cells (refT 0) 29)).setRow vq13.heap.size (refT n6) = W := ⟨_, rfl⟩
  obtain ⟨gq14, hgq14⟩ : ∃ g, vq13.heap.size = g := ⟨_, rfl⟩
  rw [hWq14, hgq14] at HRq14
  rw [hWq14] at HBq14
  rw [hgq14] at HNq14 HGq14
  rw [hWq14, hgq14]
  clear hWq14 hgq14 h0q14
  have NEq14_0 : Hid (g0 ≠ gq14) := Lib.hid (HNq14.out (g0, (arrB a), 22) (by simp))
  have NEq14_1 : Hid ((g0 + 1) ≠ gq14) := Lib.hid (HNq14.out ((g0 + 1), (arrB b), 22) (by simp))
  have NEq14_2 : Hid ((g0 + 1 + 1) ≠ gq14) := Lib.hid (HNq14.out ((g0 + 1 + 1), (arrB e), 22) (by simp))
  have NEq14_3 : Hid (gq4 ≠ gq14) := Lib.hid (HNq14.out (gq4, cq3, 26) (by simp))
  have NEq14_4 : Hid (gq8 ≠ gq14) := Lib.hid (HNq14.out (gq8, cq7, 26) (by simp))
  have NEq14_5 : Hid (gq11 ≠ gq14) := Lib.hid (HNq14.out (gq11, (refT n2), 29) (by simp))
  have l15 := HRq14.out.tail.tail.tail.head
  go_wp2_with (refine wpList_load_row rfl 26 (.tmp 8) rfl gq4 rfl 26 cq3 (0, 0) _ l15 Try.underlying26 rfl (C.base.info Rq3.out) ?_)
  obtain ⟨n16, hn16⟩ : ∃ y : Nat, rootN n2 = y := ⟨_, rfl⟩
  have Hn16 := Lib.hid hn16
  have HLn16 : Hid (n16 < PP) := Lib.hid (by rw [← hn16]; exact rootN_lt _)
  clear hn16
  obtain ⟨b17, hb17⟩ : ∃ x : Bool, isN n2 = x := ⟨_, rfl⟩
  have Hb17 := Lib.hid hb17
  clear hb17
  have kq18 := fun W : World => (D.sqrt Rq3.out) W
  rw [Hn16.out, Hb17.out] at kq18
  have Kq18 := Lib.hid kq18
  clear kq18
  with_reducible refine (Kq18.out _).mono ?_
  rintro e vq18 ⟨cq18, rfl, rq18, hbq18⟩
  have Rq18 := Lib.hid rq18
  clear rq18
  have HRq18 := Lib.hid (HRq14.out.below hbq18)
  have HBq18 := Lib.hid (below_next HBq14.out hbq18)
  clear hbq18
  have h0q19 : (vq18.alloc (.cells Z 26)).heap[vq18.heap.size]? = some (.cells Z 26 (0, 0)) := heap_alloc_new _ _
  have HRq19 := Lib.hid (HRq18.out.new Z cq18 26)
  have HBq19 := Lib.hid (below_new HBq18.out Z cq18 26)
  have HNq19 := Lib.hid HRq18.out.ne
  have HGq19 := Lib.hid HBq18.out.size
  go_upto_region 7 with (refine wpList_store_row rfl 26 (.tmp 12) (.tmp 32) rfl vq18.heap.size cq18 rfl rfl 26 Z h0q19 (C.base.info Rq18.out) (C.base.size RZ Rq18.out) (C.base.one Rq18.out) ?_)
  obtain ⟨Wq19, hWq19⟩ : ∃ W, (vq18.alloc (.cells Z 26)).setRow vq18.heap.size cq18 = W := ⟨_, rfl⟩
  obtain ⟨gq19, hgq19⟩ : ∃ g, vq18.heap.size = g := ⟨_, rfl⟩
  rw [hWq19, hgq19] at HRq19
  rw [hWq19] at HBq19
  rw [hgq19] at HNq19 HGq19
  rw [hWq19, hgq19]
  clear hWq19 hgq19 h0q19
  have NEq19_0 : Hid (g0 ≠ gq19) := Lib.hid (HNq19.out (g0, (arrB a), 22) (by simp))
  have NEq19_1 : Hid ((g0 + 1) ≠ gq19) := Lib.hid (HNq19.out ((g0 + 1), (arrB b), 22) (by simp))
  have NEq19_2 : Hid ((g0 + 1 + 1) ≠ gq19) := Lib.hid (HNq19.out ((g0 + 1 + 1), (arrB e), 22) (by simp))
  have NEq19_3 : Hid (gq4 ≠ gq19) := Lib.hid (HNq19.out (gq4, cq3, 26) (by simp))
  have NEq19_4 : Hid (gq8 ≠ gq19) := Lib.hid (HNq19.out (gq8, cq7, 26) (by simp))
  have NEq19_5 : Hid (gq11 ≠ gq19) := Lib.hid (HNq19.out (gq11, (refT n2), 29) (by simp))
  have NEq19_6 : Hid (gq14 ≠ gq19) := Lib.hid (HNq19.out (gq14, (refT n6), 29) (by simp))
  have l20 := HRq19.out.tail.tail.head
  go_wp2_with (refine wpList_load_row rfl 29 (.tmp 10) rfl gq11 rfl 29 (refT n2) (0, 0) _ l20 Try.underlying29 rfl (refT_info _) ?_)
  have kq21 := fun W : World => (rsqrtN HLn2.out) W
  rw [Hn16.out, Hb17.out] at kq21
  have Kq21 := Lib.hid kq21
  clear kq21
  with_reducible refine (Kq21.out _).mono ?_
  rintro e vq21 ⟨rfl, hbq21⟩
  have HRq21 := Lib.hid (HRq19.out.below hbq21)
  have HBq21 := Lib.hid (below_next HBq19.out hbq21)
  clear hbq21
  have h0q22 : (vq21.alloc (.cells (refT 0) 29)).heap[vq21.heap.size]? = some (.cells (refT 0) 29 (0, 0)) := heap_alloc_new _ _
  have HRq22 := Lib.hid (HRq21.out.new (refT 0) (refT n16) 29)
  have HBq22 := Lib.hid (below_new HBq21.out (refT 0) (refT n16) 29)
  have HNq22 := Lib.hid HRq21.out.ne
  have HGq22 := Lib.hid HBq21.out.size
  go_upto_region 8 with (refine wpList_store_row rfl 29 (.tmp 14) (.tmp 37) rfl vq21.heap.size (refT n16) rfl rfl 29 (refT 0) h0q22 (refT_info _) (refT_size _ _) (refT_one _) ?_)
  obtain ⟨Wq22, hWq22⟩ : ∃ W, (vq21.alloc (.cells (refT 0) 29)).setRow vq21.heap.size (refT n16) = W := ⟨_, rfl⟩
  obtain ⟨gq22, hgq22⟩ : ∃ g, vq21.heap.size = g := ⟨_, rfl⟩
  rw [hWq22, hgq22] at HRq22
  rw [hWq22] at HBq22
  rw [hgq22] at HNq22 HGq22
  rw [hWq22, hgq22]
  clear hWq22 hgq22 h0q22
  have NEq22_0 : Hid (g0 ≠ gq22) := Lib.hid (HNq22.out (g0, (arrB a), 22) (by simp))
  have NEq22_1 : Hid ((g0 + 1) ≠ gq22) := Lib.hid (HNq22.out ((g0 + 1), (arrB b), 22) (by simp))
  have NEq22_2 : Hid ((g0 + 1 + 1) ≠ gq22) := Lib.hid (HNq22.out ((g0 + 1 + 1), (arrB e), 22) (by simp))
  have NEq22_3 : Hid (gq4 ≠ gq22) := Lib.hid (HNq22.out (gq4, cq3, 26) (by simp))
  have NEq22_4 : Hid (gq8 ≠ gq22) := Lib.hid (HNq22.out (gq8, cq7, 26) (by simp))
  have NEq22_5 : Hid (gq11 ≠ gq22) := Lib.hid (HNq22.out (gq11, (refT n2), 29) (by simp))
  have NEq22_6 : Hid (gq14 ≠ gq22) := Lib.hid (HNq22.out (gq14, (refT n6), 29) (by simp))
  have NEq22_7 : Hid (gq19 ≠ gq22) := Lib.hid (HNq22.out (gq19, cq18, 26) (by simp))
  have l23 := HRq22.out.tail.tail.tail.tail.tail.head
  have l24 := HRq22.out.tail.tail.tail.tail.head
  go_wp2_with (first
      | (refine wpList_load_row rfl 26 (.tmp 8) rfl gq4 rfl 26 cq3 (0, 0) _ l23 Try.underlying26 rfl (C.base.info Rq3.out) ?_)
      | (refine wpList_load_row rfl 26 (.tmp 9) rfl gq8 rfl 26 cq7 (0, 0) _ l24 Try.underlying26 rfl (C.base.info Rq7.out) ?_))
  obtain ⟨n25, hn25⟩ : ∃ y : Nat, ratN n2 n6 = y := ⟨_, rfl⟩
  have Hn25 := Lib.hid hn25
  have HLn25 : Hid (n25 < PP) := Lib.hid (by rw [← hn25]; exact ratN_lt _ _)
  clear hn25
  obtain ⟨b26, hb26⟩ : ∃ x : Bool, fineN n2 n6 = x := ⟨_, rfl⟩
  have Hb26 := Lib.hid hb26
  clear hb26
  have kq27 := fun W : World => (D.ratio Rq3.out Rq7.out) W
  rw [Hn25.out, Hb26.out] at kq27
  have Kq27 := Lib.hid kq27
  clear kq27
  with_reducible refine (Kq27.out _).mono ?_
  rintro e vq27 ⟨cq27, rfl, rq27, hbq27⟩
  have Rq27 := Lib.hid rq27
  clear rq27
  have HRq27 := Lib.hid (HRq22.out.below hbq27)
  have HBq27 := Lib.hid (below_next HBq22.out hbq27)
  clear hbq27
  have h0q28 : (vq27.alloc (.cells Z 26)).heap[vq27.heap.size]? = some (.cells Z 26 (0, 0)) := heap_alloc_new _ _
  have HRq28 := Lib.hid (HRq27.out.new Z cq27 26)
  have HBq28 := Lib.hid (below_new HBq27.out Z cq27 26)
  have HNq28 := Lib.hid HRq27.out.ne
  have HGq28 := Lib.hid HBq27.out.size
  go_upto_region 9 with (refine wpList_store_row rfl 26 (.tmp 16) (.tmp 43) rfl vq27.heap.size cq27 rfl rfl 26 Z h0q28 (C.base.info Rq27.out) (C.base.size RZ Rq27.out) (C.base.one Rq27.out) ?_)
  obtain ⟨Wq28, hWq28⟩ : ∃ W, (vq27.alloc (.cells Z 26)).setRow vq27.heap.size cq27 = W := ⟨_, rfl⟩
  obtain ⟨gq28, hgq28⟩ : ∃ g, vq27.heap.size = g := ⟨_, rfl⟩
  rw [hWq28, hgq28] at HRq28
  rw [hWq28] at HBq28
  rw [hgq28] at HNq28 HGq28
  rw [hWq28, hgq28]
  clear hWq28 hgq28 h0q28
  have NEq28_0 : Hid (g0 ≠ gq28) := Lib.hid (HNq28.out (g0, (arrB a), 22) (by simp))
  have NEq28_1 : Hid ((g0 + 1) ≠ gq28) := Lib.hid (HNq28.out ((g0 + 1), (arrB b), 22) (by simp))
  have NEq28_2 : Hid ((g0 + 1 + 1) ≠ gq28) := Lib.hid (HNq28.out ((g0 + 1 + 1), (arrB e), 22) (by simp))
  have NEq28_3 : Hid (gq4 ≠ gq28) := Lib.hid (HNq28.out (gq4, cq3, 26) (by simp))
  have NEq28_4 : Hid (gq8 ≠ gq28) := Lib.hid (HNq28.out (gq8, cq7, 26) (by simp))
  have NEq28_5 : Hid (gq11 ≠ gq28) := Lib.hid (HNq28.out (gq11, (refT n2), 29) (by simp))
  have NEq28_6 : Hid (gq14 ≠ gq28) := Lib.hid (HNq28.out (gq14, (refT n6), 29) (by simp))
  have NEq28_7 : Hid (gq19 ≠ gq28) := Lib.hid (HNq28.out (gq19, cq18, 26) (by simp))
  have NEq28_8 : Hid (gq22 ≠ gq28) := Lib.hid (HNq28.out (gq22, (refT n16), 29) (by simp))
  have l29 := HRq28.out.tail.tail.tail.tail.head
  have l30 := HRq28.out.tail.tail.tail.head
  go_wp2_with (first
      | (refine wpList_load_row rfl 29 (.tmp 10) rfl gq11 rfl 29 (refT n2) (0, 0) _ l29 Try.underlying29 rfl (refT_info _) ?_)
      | (refine wpList_load_row rfl 29 (.tmp 11) rfl gq14 rfl 29 (refT n6) (0, 0) _ l30 Try.underlying29 rfl (refT_info _) ?_))
  have kq31 := fun W : World => (rratioN HLn2.out HLn6.out) W
  rw [Hn25.out, Hb26.out] at kq31
  have Kq31 := Lib.hid kq31
  clear kq31
  with_reducible refine (Kq31.out _).mono ?_
  rintro e vq31 ⟨rfl, hbq31⟩
  have HRq31 := Lib.hid (HRq28.out.below hbq31)
  have HBq31 := Lib.hid (below_next HBq28.out hbq31)
  clear hbq31
  have h0q32 : (vq31.alloc (.cells (refT 0) 29)).heap[vq31.heap.size]? = some (.cells (refT 0) 29 (0, 0)) := heap_alloc_new _ _
  have HRq32 := Lib.hid (HRq31.out.new (refT 0) (refT n25) 29)
  have HBq32 := Lib.hid (below_new HBq31.out (refT 0) (refT n25) 29)
  have HNq32 := Lib.hid HRq31.out.ne
  have HGq32 := Lib.hid HBq31.out.size
  go_upto_region 10 with (refine wpList_store_row rfl 29 (.tmp 18) (.tmp 49) rfl vq31.heap.size (refT n25) rfl rfl 29 (refT 0) h0q32 (refT_info _) (refT_size _ _) (refT_one _) ?_)
  obtain ⟨Wq32, hWq32⟩ : ∃ W, (vq31.alloc (.cells (refT 0) 29)).setRow vq31.heap.size (refT n25) = W := ⟨_, rfl⟩
  obtain ⟨gq32, hgq32⟩ : ∃ g, vq31.heap.size = g := ⟨_, rfl⟩
  rw [hWq32, hgq32] at HRq32
  rw [hWq32] at HBq32
  rw [hgq32] at HNq32 HGq32
  rw [hWq32, hgq32]
  clear hWq32 hgq32 h0q32
  have NEq32_0 : Hid (g0 ≠ gq32) := Lib.hid (HNq32.out (g0, (arrB a), 22) (by simp))
  have NEq32_1 : Hid ((g0 + 1) ≠ gq32) := Lib.hid (HNq32.out ((g0 + 1), (arrB b), 22) (by simp))
  have NEq32_2 : Hid ((g0 + 1 + 1) ≠ gq32) := Lib.hid (HNq32.out ((g0 + 1 + 1), (arrB e), 22) (by simp))
  have NEq32_3 : Hid (gq4 ≠ gq32) := Lib.hid (HNq32.out (gq4, cq3, 26) (by simp))
  have NEq32_4 : Hid (gq8 ≠ gq32) := Lib.hid (HNq32.out (gq8, cq7, 26) (by simp))
  have NEq32_5 : Hid (gq11 ≠ gq32) := Lib.hid (HNq32.out (gq11, (refT n2), 29) (by simp))
  have NEq32_6 : Hid (gq14 ≠ gq32) := Lib.hid (HNq32.out (gq14, (refT n6), 29) (by simp))
  have NEq32_7 : Hid (gq19 ≠ gq32) := Lib.hid (HNq32.out (gq19, cq18, 26) (by simp))
  have NEq32_8 : Hid (gq22 ≠ gq32) := Lib.hid (HNq32.out (gq22, (refT n16), 29) (by simp))
  have NEq32_9 : Hid (gq28 ≠ gq32) := Lib.hid (HNq32.out (gq28, cq27, 26) (by simp))
  refine wp_region_noPanic ?_
  refine wp_region_held_drew (S := fun W => Below Wq32.heap.size Wq32 W) (by kernel_rfl) (by exact (Below.refl _ _).drew) (fun hS => ?_)
  refine' take_at 0 rfl (by kernel_rfl) (by kernel_rfl) (by kernel_rfl) (fun _ _ _ h => h) (by rfl) hS ?_ ?_ ?_
  rotate_left 2
  · intro W hSW; go_simp; try with_reducible rfl
  · simp only [List.set_cons_succ, List.set_cons_zero]; rfl
  refine' take_at 1 rfl (by kernel_rfl) (by kernel_rfl) (by kernel_rfl) (fun _ _ _ h => h) (by rfl) hS ?_ ?_ ?_
  rotate_left 2
  · intro W hSW; go_simp; try with_reducible rfl
  · simp only [List.set_cons_succ, List.set_cons_zero]; rfl
  refine' take_at 2 rfl (by kernel_rfl) (by kernel_rfl) (by kernel_rfl) (fun _ _ _ h => h) (by rfl) hS ?_ ?_ ?_
  rotate_left 2
  · intro W hSW; exact run_loadR rfl rfl (HRq32.out.below hSW).tail.tail.tail.tail.tail.tail.tail.head Try.underlying26 rfl (C.base.info Rq3.out)
  · simp only [List.set_cons_succ, List.set_cons_zero]; rfl
  refine' take_at 3 rfl (by kernel_rfl) (by kernel_rfl) (by kernel_rfl) (fun _ _ _ h => h) (by rfl) hS ?_ ?_ ?_
  rotate_left 2
  · intro W hSW; exact run_loadR rfl rfl (HRq32.out.below hSW).tail.tail.tail.tail.tail.tail.tail.tail.head Try.underlying22 rfl (arr32_info He.out)
  · simp only [List.set_cons_succ, List.set_cons_zero]; rfl
  refine' take_at 6 rfl (by kernel_rfl) (by kernel_rfl) (by kernel_rfl) (fun _ _ _ h => h) (by rfl) hS ?_ ?_ ?_
  rotate_left 2
  · intro W hSW; exact run_loadR rfl rfl (HRq32.out.below hSW).tail.tail.tail.tail.tail.head Try.underlying29 rfl (refT_info _)
  · simp only [List.set_cons_succ, List.set_cons_zero]; rfl
  refine' take_at 7 rfl (by kernel_rfl) (by kernel_rfl) (by kernel_rfl) (fun _ _ _ h => h) (by rfl) hS ?_ ?_ ?_
  rotate_left 2
  · intro W hSW; exact run_loadR rfl rfl (HRq32.out.below hSW).tail.tail.tail.tail.tail.tail.tail.tail.head Try.underlying22 rfl (arr32_info He.out)
  · simp only [List.set_cons_succ, List.set_cons_zero]; rfl
  refine call_at 4 rfl (by kernel_rfl) (by rfl) (fun K hK => ?_)
  go_simp
  obtain ⟨n33, hn33⟩ : ∃ y : Nat, pwN n2 (leN e) = y := ⟨_, rfl⟩
  have Hn33 := Lib.hid hn33
  have HLn33 : Hid (n33 < PP) := Lib.hid (by rw [← hn33]; exact pwN_lt _ _)
  clear hn33
  with_reducible refine ((D.pow Rq3.out e He.out) _).mono ?_
  rintro e vq34 ⟨cq34, rfl, rq34, hbq34⟩
  rw [Hn33.out] at rq34
  have Rq34 := Lib.hid rq34
  clear rq34
  have kbq34 := below_next hS hbq34
  clear hS hbq34
  refine hK.out _ _ (by exact kbq34) (fun hS => ?_)
  clear hK K
  refine call_at 5 rfl (by kernel_rfl) (by rfl) (fun K hK => ?_)
  go_simp
  with_reducible refine ((C.bytes Rq34.out) _).mono ?_
  rintro e vq35 ⟨rfl, hbq35⟩
  have kbq35 := below_next kbq34 hbq35
  clear hS hbq35
  refine hK.out _ _ (by exact kbq35) (fun hS => ?_)
  clear hK K
  refine call_at 8 rfl (by kernel_rfl) (by rfl) (fun K hK => ?_)
  go_simp
  have kq36 := fun W : World => (rpowN HLn2.out e He.out) W
  rw [Hn33.out] at kq36
  have Kq36 := Lib.hid kq36
  clear kq36
  with_reducible refine (Kq36.out _).mono ?_
  rintro e vq36 ⟨rfl, hbq36⟩
  have kbq36 := below_next kbq35 hbq36
  clear hS hbq36
  refine hK.out _ _ (by exact kbq36) (fun hS => ?_)
  clear hK K
  refine call_at 9 rfl (by kernel_rfl) (by rfl) (fun K hK => ?_)
  go_simp
  with_reducible refine ((rbytesN n33) _).mono ?_
  rintro e vq37 ⟨rfl, hbq37⟩
  have kbq37 := below_next kbq36 hbq37
  clear hS hbq37
  refine hK.out _ _ (by exact kbq37) (fun hS => ?_)
  clear hK K
  refine' take_at 10 rfl (by kernel_rfl) (by kernel_rfl) (by kernel_rfl) (fun _ _ _ h => h) (by rfl) hS ?_ ?_ ?_
  rotate_left 2
  · intro W hSW; exact run_eql2 rfl rfl rfl guardB (eqBytT n33 W)
  · simp only [List.set_cons_succ, List.set_cons_zero]; rfl
  refine' take_at 11 rfl (by kernel_rfl) (by kernel_rfl) (by kernel_rfl) (fun _ _ _ h => h) (by rfl) hS ?_ ?_ ?_
  rotate_left 2
  · intro W hSW; go_simp; try with_reducible rfl
  · simp only [List.set_cons_succ, List.set_cons_zero]; rfl
  refine' take_at 12 rfl (by kernel_rfl) (by kernel_rfl) (by kernel_rfl) (fun _ _ _ h => h) (by rfl) hS ?_ ?_ ?_
  rotate_left 2
  · intro W hSW; go_simp; try with_reducible rfl
  · simp only [List.set_cons_succ, List.set_cons_zero]; rfl
  refine' take_at 13 rfl (by kernel_rfl) (by kernel_rfl) (by kernel_rfl) (fun _ _ _ h => h) (by rfl) hS ?_ ?_ ?_
  rotate_left 2
  · intro W hSW; exact run_loadR rfl rfl (HRq32.out.below hSW).tail.tail.tail.tail.tail.tail.tail.head Try.underlying26 rfl (C.base.info Rq3.out)
  · simp only [List.set_cons_succ, List.set_cons_zero]; rfl
  refine' take_at 16 rfl (by kernel_rfl) (by kernel_rfl) (by kernel_rfl) (fun _ _ _ h => h) (by rfl) hS ?_ ?_ ?_
  rotate_left 2
  · intro W hSW; exact run_loadR rfl rfl (HRq32.out.below hSW).tail.tail.tail.tail.tail.head Try.underlying29 rfl (refT_info _)
  · simp only [List.set_cons_succ, List.set_cons_zero]; rfl
  refine call_at 14 rfl (by kernel_rfl) (by rfl) (fun K hK => ?_)
  go_simp
  obtain ⟨n38, hn38⟩ : ∃ y : Nat, invN n2 = y := ⟨_, rfl⟩
  have Hn38 := Lib.hid hn38
  have HLn38 : Hid (n38 < PP) := Lib.hid (by rw [← hn38]; exact invN_lt _)
  clear hn38
  with_reducible refine ((D.invert Rq3.out) _).mono ?_
  rintro e vq39 ⟨cq39, rfl, rq39, hbq39⟩
  rw [Hn38.out] at rq39
  have Rq39 := Lib.hid rq39
  clear rq39
  have kbq39 := below_next kbq37 hbq39
  clear hS hbq39
  refine hK.out _ _ (by exact kbq39) (fun hS => ?_)
  clear hK K
  refine call_at 15 rfl (by kernel_rfl) (by rfl) (fun K hK => ?_)
  go_simp
  with_reducible refine ((C.bytes Rq39.out) _).mono ?_
  rintro e vq40 ⟨rfl, hbq40⟩
  have kbq40 := below_next kbq39 hbq40
  clear hS hbq40
  refine hK.out _ _ (by exact kbq40) (fun hS => ?_)
  clear hK K
  refine call_at 17 rfl (by kernel_rfl) (by rfl) (fun K hK => ?_)
  go_simp
  have kq41 := fun W : World => (rinvN HLn2.out) W
  rw [Hn38.out] at kq41
  have Kq41 := Lib.hid kq41
  clear kq41
  with_reducible refine (Kq41.out _).mono ?_
  rintro e vq41 ⟨rfl, hbq41⟩
  have kbq41 := below_next kbq40 hbq41
  clear hS hbq41
  refine hK.out _ _ (by exact kbq41) (fun hS => ?_)
  clear hK K
  refine call_at 18 rfl (by kernel_rfl) (by rfl) (fun K hK => ?_)
  go_simp
  with_reducible refine ((rbytesN n38) _).mono ?_
  rintro e vq42 ⟨rfl, hbq42⟩
  have kbq42 := below_next kbq41 hbq42
  clear hS hbq42
  refine hK.out _ _ (by exact kbq42) (fun hS => ?_)
  clear hK K
  refine' take_at 19 rfl (by kernel_rfl) (by kernel_rfl) (by kernel_rfl) (fun _ _ _ h => h) (by rfl) hS ?_ ?_ ?_
  rotate_left 2
  · intro W hSW; exact run_eql2 rfl rfl rfl guardB (eqBytT n38 W)
  · simp only [List.set_cons_succ, List.set_cons_zero]; rfl
  refine' take_at 20 rfl (by kernel_rfl) (by kernel_rfl) (by kernel_rfl) (fun _ _ _ h => h) (by rfl) hS ?_ ?_ ?_
  rotate_left 2
  · intro W hSW; go_simp; try with_reducible rfl
  · simp only [List.set_cons_succ, List.set_cons_zero]; rfl
  refine' take_at 21 rfl (by kernel_rfl) (by kernel_rfl) (by kernel_rfl) (fun _ _ _ h => h) (by rfl) hS ?_ ?_ ?_
  rotate_left 2
  · intro W hSW; go_simp; try with_reducible rfl
  · simp only [List.set_cons_succ, List.set_cons_zero]; rfl
  refine' take_at 22 rfl (by kernel_rfl) (by kernel_rfl) (by kernel_rfl) (fun _ _ _ h => h) (by rfl) hS ?_ ?_ ?_
  rotate_left 2
  · intro W hSW; go_simp; try with_reducible rfl
  · simp only [List.set_cons_succ, List.set_cons_zero]; rfl
  refine' take_at 23 rfl (by kernel_rfl) (by kernel_rfl) (by kernel_rfl) (fun _ _ _ h => h) (by rfl) hS ?_ ?_ ?_
  rotate_left 2
  · intro W hSW; go_simp; try with_reducible rfl
  · simp only [List.set_cons_succ, List.set_cons_zero]; rfl
  refine' take_at 24 rfl (by kernel_rfl) (by kernel_rfl) (by kernel_rfl) (fun _ _ _ h => h) (by rfl) hS ?_ ?_ ?_
  rotate_left 2
  · intro W hSW; go_simp; try with_reducible rfl
  · simp only [List.set_cons_succ, List.set_cons_zero]; rfl
  refine' take_at 25 rfl (by kernel_rfl) (by kernel_rfl) (by kernel_rfl) (fun _ _ _ h => h) (by rfl) hS ?_ ?_ ?_
  rotate_left 2
  · intro W hSW; go_simp; try with_reducible rfl
  · simp only [List.set_cons_succ, List.set_cons_zero]; rfl
  refine' take_at 26 rfl (by kernel_rfl) (by kernel_rfl) (by kernel_rfl) (fun _ _ _ h => h) (by rfl) hS ?_ ?_ ?_
  rotate_left 2
  · intro W hSW; go_simp; try with_reducible rfl
  · simp only [List.set_cons_succ, List.set_cons_zero]; rfl
  refine' take_at 27 rfl (by kernel_rfl) (by kernel_rfl) (by kernel_rfl) (fun _ _ _ h => h) (by rfl) hS ?_ ?_ ?_
  rotate_left 2
  · intro W hSW; exact run_loadR rfl rfl (HRq32.out.below hSW).tail.tail.tail.head Try.underlying26 rfl (C.base.info Rq18.out)
  · simp only [List.set_cons_succ, List.set_cons_zero]; rfl
  refine' take_at 29 rfl (by kernel_rfl) (by kernel_rfl) (by kernel_rfl) (fun _ _ _ h => h) (by rfl) hS ?_ ?_ ?_
  rotate_left 2
  · intro W hSW; exact run_loadR rfl rfl (HRq32.out.below hSW).tail.tail.head Try.underlying29 rfl (refT_info _)
  · simp only [List.set_cons_succ, List.set_cons_zero]; rfl
  refine call_at 28 rfl (by kernel_rfl) (by rfl) (fun K hK => ?_)
  go_simp
  with_reducible refine ((C.bytes Rq18.out) _).mono ?_
  rintro e vq43 ⟨rfl, hbq43⟩
  have kbq43 := below_next kbq42 hbq43
  clear hS hbq43
  refine hK.out _ _ (by exact kbq43) (fun hS => ?_)
  clear hK K
  refine call_at 30 rfl (by kernel_rfl) (by rfl) (fun K hK => ?_)
  go_simp
  with_reducible refine ((rbytesN n16) _).mono ?_
  rintro e vq44 ⟨rfl, hbq44⟩
  have kbq44 := below_next kbq43 hbq44
  clear hS hbq44
  refine hK.out _ _ (by exact kbq44) (fun hS => ?_)
  clear hK K
  refine' take_at 31 rfl (by kernel_rfl) (by kernel_rfl) (by kernel_rfl) (fun _ _ _ h => h) (by rfl) hS ?_ ?_ ?_
  rotate_left 2
  · intro W hSW; exact run_eql2 rfl rfl rfl guardB (eqBytT n16 W)
  · simp only [List.set_cons_succ, List.set_cons_zero]; rfl
  refine' take_at 32 rfl (by kernel_rfl) (by kernel_rfl) (by kernel_rfl) (fun _ _ _ h => h) (by rfl) hS ?_ ?_ ?_
  rotate_left 2
  · intro W hSW; go_simp; try with_reducible rfl
  · simp only [List.set_cons_succ, List.set_cons_zero]; rfl
  refine' take_at 33 rfl (by kernel_rfl) (by kernel_rfl) (by kernel_rfl) (fun _ _ _ h => h) (by rfl) hS ?_ ?_ ?_
  rotate_left 2
  · intro W hSW; go_simp; try with_reducible rfl
  · simp only [List.set_cons_succ, List.set_cons_zero]; rfl
  refine' take_at 34 rfl (by kernel_rfl) (by kernel_rfl) (by kernel_rfl) (fun _ _ _ h => h) (by rfl) hS ?_ ?_ ?_
  rotate_left 2
  · intro W hSW; go_simp; try with_reducible rfl
  · simp only [List.set_cons_succ, List.set_cons_zero]; rfl
  refine' take_at 35 rfl (by kernel_rfl) (by kernel_rfl) (by kernel_rfl) (fun _ _ _ h => h) (by rfl) hS ?_ ?_ ?_
  rotate_left 2
  · intro W hSW; go_simp; try with_reducible rfl
  · simp only [List.set_cons_succ, List.set_cons_zero]; rfl
  refine' take_at 36 rfl (by kernel_rfl) (by kernel_rfl) (by kernel_rfl) (fun _ _ _ h => h) (by rfl) hS ?_ ?_ ?_
  rotate_left 2
  · intro W hSW; go_simp; try with_reducible rfl
  · simp only [List.set_cons_succ, List.set_cons_zero]; rfl
  refine' take_at 37 rfl (by kernel_rfl) (by kernel_rfl) (by kernel_rfl) (fun _ _ _ h => h) (by rfl) hS ?_ ?_ ?_
  rotate_left 2
  · intro W hSW; go_simp; try with_reducible rfl
  · simp only [List.set_cons_succ, List.set_cons_zero]; rfl
  refine' take_at 38 rfl (by kernel_rfl) (by kernel_rfl) (by kernel_rfl) (fun _ _ _ h => h) (by rfl) hS ?_ ?_ ?_
  rotate_left 2
  · intro W hSW; go_simp; try with_reducible rfl
  · simp only [List.set_cons_succ, List.set_cons_zero]; rfl
  refine' take_at 39 rfl (by kernel_rfl) (by kernel_rfl) (by kernel_rfl) (fun _ _ _ h => h) (by rfl) hS ?_ ?_ ?_
  rotate_left 2
  · intro W hSW; exact run_loadR rfl rfl (HRq32.out.below hSW).tail.head Try.underlying26 rfl (C.base.info Rq27.out)
  · simp only [List.set_cons_succ, List.set_cons_zero]; rfl
  refine' take_at 41 rfl (by kernel_rfl) (by kernel_rfl) (by kernel_rfl) (fun _ _ _ h => h) (by rfl) hS ?_ ?_ ?_
  rotate_left 2
  · intro W hSW; exact run_loadR rfl rfl (HRq32.out.below hSW).head Try.underlying29 rfl (refT_info _)
  · simp only [List.set_cons_succ, List.set_cons_zero]; rfl
  refine call_at 40 rfl (by kernel_rfl) (by rfl) (fun K hK => ?_)
  go_simp
  with_reducible refine ((C.bytes Rq27.out) _).mono ?_
  rintro e vq45 ⟨rfl, hbq45⟩
  have kbq45 := below_next kbq44 hbq45
  clear hS hbq45
  refine hK.out _ _ (by exact kbq45) (fun hS => ?_)
  clear hK K
  refine call_at 42 rfl (by kernel_rfl) (by rfl) (fun K hK => ?_)
  go_simp
  with_reducible refine ((rbytesN n25) _).mono ?_
  rintro e vq46 ⟨rfl, hbq46⟩
  have kbq46 := below_next kbq45 hbq46
  clear hS hbq46
  refine hK.out _ _ (by exact kbq46) (fun hS => ?_)
  clear hK K
  refine' take_at 43 rfl (by kernel_rfl) (by kernel_rfl) (by kernel_rfl) (fun _ _ _ h => h) (by rfl) hS ?_ ?_ ?_
  rotate_left 2
  · intro W hSW; exact run_eql2 rfl rfl rfl guardB (eqBytT n25 W)
  · simp only [List.set_cons_succ, List.set_cons_zero]; rfl
  refine' take_at 44 rfl (by kernel_rfl) (by kernel_rfl) (by kernel_rfl) (fun _ _ _ h => h) (by rfl) hS ?_ ?_ ?_
  rotate_left 2
  · intro W hSW; go_simp; try with_reducible rfl
  · simp only [List.set_cons_succ, List.set_cons_zero]; rfl
  refine' take_at 45 rfl (by kernel_rfl) (by kernel_rfl) (by kernel_rfl) (fun _ _ _ h => h) (by rfl) hS ?_ ?_ ?_
  rotate_left 2
  · intro W hSW; go_simp; try with_reducible rfl
  · simp only [List.set_cons_succ, List.set_cons_zero]; rfl
  refine wpAnyH_done (by kernel_rfl) ?_ _
  refine NoPanic.normal ?_
  clear hS
  (try simp only [Act.put])
  have HRq47 := Lib.hid (HRq32.out.below kbq46)
  have HBq47 := Lib.hid (below_next HBq32.out kbq46)
  go_wp2_with fail
  go_ret
  exact ⟨rfl, HBq47.out⟩
end Go.Proofs.Ytjekeblcppkghaa

