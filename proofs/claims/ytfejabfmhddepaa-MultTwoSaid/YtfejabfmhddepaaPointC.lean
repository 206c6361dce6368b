/- The landed package point: Double, Add, Equal. Written by wip/tools/mk_point12.py. -/
import Derived.Test.YtfejabfmhddepaaPointB
import Derived.Test.YtfejabfmhddepaaHeldAlloc2
namespace Go.Proofs.Ytfejabfmhddepaa
open Go.RowKit
set_option linter.unusedVariables false
set_option maxRecDepth 100000

set_option maxHeartbeats 3200000 in
theorem ptdouble_any {R : Array Value → Nat → Prop} (C : FeC R) {a1 b1 d1 f1 : Array Value} {X1 Y1 Z1 T1 : Nat} {p1 : PtD} (ha1 : R a1 X1) (hb1 : R b1 Y1) (hd1 : R d1 Z1) (hf1 : R f1 T1) (hP1 : Pq X1 Y1 Z1 T1 p1) (w : World) : Calls Try.prog 28 #[.agg (quad a1 b1 d1 f1)] w (RetPt (ptRof R) w (padd p1 p1)) := by
  have Ra1 := Lib.hid ha1
  have Rb1 := Lib.hid hb1
  have Rd1 := Lib.hid hd1
  have Rf1 := Lib.hid hf1
  clear ha1 hb1 hd1 hf1
  have LX1 : Hid (X1 < PP) := Lib.hid (C.base.lt Ra1.out)
  have LY1 : Hid (Y1 < PP) := Lib.hid (C.base.lt Rb1.out)
  have LZ1 : Hid (Z1 < PP) := Lib.hid (C.base.lt Rd1.out)
  have LT1 : Hid (T1 < PP) := Lib.hid (C.base.lt Rf1.out)
  have HP1 := Lib.hid hP1
  clear hP1
  obtain ⟨Z, hZ, rZ⟩ := C.base.zero
  have RZZ := Lib.hid rZ
  have hzP := zp_of hZ
  have hz32 := zero32_zero
  clear rZ
  have HR0 := Lib.hid (((RowsW.nil w).box (quad a1 b1 d1 f1) 28).box (quad Z Z Z Z) 28)
  have HB0 := Lib.hid (below_box (below_box (Below.refl w.heap.size w) (quad a1 b1 d1 f1) 28) (quad Z Z Z Z) 28)
  rw [World.size_alloc] at HR0
  go_enter Try.func28, Try.ntmps28
  go_upto_region 1 with fail
  obtain ⟨W0, hW0⟩ : ∃ W, ((w.alloc (.cells (quad a1 b1 d1 f1) 28)).alloc (.cells (quad Z Z Z Z) 28)) = W := ⟨_, rfl⟩
  obtain ⟨g0, hg0⟩ : ∃ g, w.heap.size = g := ⟨_, rfl⟩
  rw [hW0] at HR0 HB0
  rw [hg0] at HR0
  rw [hW0, hg0]
  have HG0 := Lib.hid hg0
  clear hW0 hg0
  refine wp_region_noPanic ?_
  refine wp_region_heldB2 6 3 26 Z 7 4 26 Z (by kernel_rfl) (by kernel_rfl) ⟨⟨by kernel_rfl, by kernel_rfl, hZ, fun _ _ _ h => h⟩, ⟨by kernel_rfl, by kernel_rfl, hZ, fun _ _ _ h => h⟩, by kernel_rfl⟩ (fun hA hS => ?_)
  refine' take_atB2 0 hA rfl (by kernel_rfl) (by kernel_rfl) (by kernel_rfl) (by kernel_rfl) (by rfl) (by rfl) hS ?_ ?_ ?_
  rotate_left 2
  · intro W hSW; go_simp; try with_reducible rfl
  · simp only [List.set_cons_succ, List.set_cons_zero]; rfl
  refine' take_atB2 1 hA rfl (by kernel_rfl) (by kernel_rfl) (by kernel_rfl) (by kernel_rfl) (by rfl) (by rfl) hS ?_ ?_ ?_
  rotate_left 2
  · intro W hSW; exact run_loadP rfl rfl (HR0.out.below hSW).tail.head Try.underlying26 rfl (C.base.info Ra1.out) pp_0
  · simp only [List.set_cons_succ, List.set_cons_zero]; rfl
  refine' take_atB2 3 hA rfl (by kernel_rfl) (by kernel_rfl) (by kernel_rfl) (by kernel_rfl) (by rfl) (by rfl) hS ?_ ?_ ?_
  rotate_left 2
  · intro W hSW; go_simp; try with_reducible rfl
  · simp only [List.set_cons_succ, List.set_cons_zero]; rfl
  refine' take_atB2 4 hA rfl (by kernel_rfl) (by kernel_rfl) (by kernel_rfl) (by kernel_rfl) (by rfl) (by rfl) hS ?_ ?_ ?_
  rotate_left 2
  · intro W hSW; exact run_loadP rfl rfl (HR0.out.below hSW).tail.head Try.underlying26 rfl (C.base.info Rb1.out) (pp_1 (fe5 C.base Ra1.out))
  · simp only [List.set_cons_succ, List.set_cons_zero]; rfl
  refine call_atB2 2 hA rfl (by kernel_rfl) (by kernel_rfl) (by kernel_rfl) (by kernel_rfl) (by kernel_rfl) (by kernel_rfl) (by kernel_rfl) (by rfl) (by rfl) hS (fun oq2 pq2 Xq2 hS K hK => ?_)
  go_simp
  obtain ⟨n1, hn1⟩ : ∃ x_ : Nat, (X1 * X1) % PP = x_ := ⟨_, rfl⟩
  have Hn1 := Lib.hid hn1
  have HLn1 : Hid (n1 < PP) := Lib.hid (by rw [← hn1]; exact Nat.mod_lt _ (by decide))
  clear hn1
  with_reducible refine ((C.square Ra1.out) _).mono ?_
  rintro e vq2 ⟨cq2, rfl, rq2, hbq2⟩
  rw [Hn1.out] at rq2
  have Rq2 := Lib.hid rq2
  clear rq2
  refine hK.out _ _ hbq2 (fun hS => ?_)
  clear hK K hbq2
  refine call_atB2 5 hA rfl (by kernel_rfl) (by kernel_rfl) (by kernel_rfl) (by kernel_rfl) (by kernel_rfl) (by kernel_rfl) (by kernel_rfl) (by rfl) (by rfl) hS (fun oq4 pq4 Xq4 hS K hK => ?_)
  go_simp
  obtain ⟨n3, hn3⟩ : ∃ x_ : Nat, (Y1 * Y1) % PP = x_ := ⟨_, rfl⟩
  have Hn3 := Lib.hid hn3
  have HLn3 : Hid (n3 < PP) := Lib.hid (by rw [← hn3]; exact Nat.mod_lt _ (by decide))
  clear hn3
  with_reducible refine ((C.square Rb1.out) _).mono ?_
  rintro e vq4 ⟨cq4, rfl, rq4, hbq4⟩
  rw [Hn3.out] at rq4
  have Rq4 := Lib.hid rq4
  clear rq4
  refine hK.out _ _ hbq4 (fun hS => ?_)
  clear hK K hbq4
  refine' both_atB2 8 hA (by kernel_rfl) (by kernel_rfl) (by kernel_rfl) (by kernel_rfl) (by kernel_rfl) hS ?_ ?_
  rotate_left 1
  · intro g g'; simp only [List.set_cons_succ, List.set_cons_zero]; rfl
  intro gq6 gq7 Xq5 hgq6 hgq7 hneq5 hbq5 haq5 hcq5
  clear hA hS
  have hdq5 : (Xq5.setRow gq6 cq2).heap[gq7]? = some (.cells Z 26 (0, 0)) := by rw [setRow_other _ _ _ _ (Ne.symm hneq5)]; exact hcq5
  have heq5 : ((Xq5.setRow gq6 cq2).setRow gq7 cq4).heap[gq6]? = some (.cells cq2 26 (0, 0)) := by rw [setRow_other _ _ _ _ hneq5]; exact setRow_heap _ _ _ _ _ _ haq5
  refine call_at 8 rfl (by kernel_rfl) (by rfl) (fun K hK => ?_)
  refine wp_store_row 26 (.tmp 3) (.tmp 11) rfl gq6 cq2 rfl rfl 26 Z haq5 (C.base.info Rq2.out) (C.base.size RZZ.out Rq2.out) (C.base.one Rq2.out) ?_
  refine hK.out _ _ (by exact (below_row hbq5 hgq6)) (fun hS => ?_)
  clear hK K
  refine call_at 9 rfl (by kernel_rfl) (by rfl) (fun K hK => ?_)
  refine wp_store_row 26 (.tmp 4) (.tmp 14) rfl gq7 cq4 rfl rfl 26 Z hdq5 (C.base.info Rq4.out) (C.base.size RZZ.out Rq4.out) (C.base.one Rq4.out) ?_
  refine hK.out _ _ (by exact (below_row (below_row hbq5 hgq6) hgq7)) (fun hS => ?_)
  clear hK K
  clear hS
  refine wpAnyH_done (by kernel_rfl) ?_ _
  refine NoPanic.normal ?_
  (try simp only [Act.put])
  have HRq5 : Hid (RowsW ((Xq5.setRow gq6 cq2).setRow gq7 cq4) [(gq7, cq4, 26), (gq6, cq2, 26), ((g0 + 1), (quad Z Z Z Z), 28), (g0, (quad a1 b1 d1 f1), 28)]) := Lib.hid ⟨setRow_heap _ _ _ _ _ _ hdq5, heq5, ((HR0.out.below hbq5).setRow (fun r hr => by have h := HR0.out.lt r hr; have := hgq6; omega) _).setRow (fun r hr => by have h := HR0.out.lt r hr; have := hgq7; omega) _⟩
  have HBq5 : Hid (Below w.heap.size w ((Xq5.setRow gq6 cq2).setRow gq7 cq4)) := Lib.hid (below_next HB0.out (below_row (below_row hbq5 hgq6) hgq7))
  have NEq6_0 : Hid (g0 ≠ gq6) := Lib.hid (by have h := HR0.out.lt (g0, (quad a1 b1 d1 f1), 28) (by simp); have := hgq6; simp only at h; omega)
  have NEq7_0 : Hid (g0 ≠ gq7) := Lib.hid (by have h := HR0.out.lt (g0, (quad a1 b1 d1 f1), 28) (by simp); have := hgq7; simp only at h; omega)
  have NEq6_1 : Hid ((g0 + 1) ≠ gq6) := Lib.hid (by have h := HR0.out.lt ((g0 + 1), (quad Z Z Z Z), 28) (by simp); have := hgq6; simp only at h; omega)
  have NEq7_1 : Hid ((g0 + 1) ≠ gq7) := Lib.hid (by have h := HR0.out.lt ((g0 + 1), (quad Z Z Z Z), 28) (by simp); have := hgq7; simp only at h; omega)
  have NEq7_2 : Hid (gq6 ≠ gq7) := Lib.hid hneq5
  have HGq6 := Lib.hid (Nat.le_trans HB0.out.size hgq6)
  have HGq7 := Lib.hid (Nat.le_trans HB0.out.size hgq7)
  obtain ⟨Wq5, hWq5⟩ : ∃ W, ((Xq5.setRow gq6 cq2).setRow gq7 cq4) = W := ⟨_, rfl⟩
  rw [hWq5] at HRq5 HBq5
  (try rw [hWq5])
  clear hWq5 haq5 hcq5 hdq5 heq5 hgq6 hgq7 hneq5 hbq5
  go_upto_region 2 with fail
  have l8 := HRq5.out.tail.tail.tail.head
  go_wp2_with (refine wpList_runsV (o := ⟨some 16, _, _, _, _, _⟩) rfl (.agg d1) (run_loadP rfl rfl l8 Try.underlying26 rfl (C.base.info Rd1.out) (pp_2 (fe5 C.base Ra1.out) (fe5 C.base Rb1.out))) ?_)
  obtain ⟨n9, hn9⟩ : ∃ x_ : Nat, (Z1 * Z1) % PP = x_ := ⟨_, rfl⟩
  have Hn9 := Lib.hid hn9
  have HLn9 : Hid (n9 < PP) := Lib.hid (by rw [← hn9]; exact Nat.mod_lt _ (by decide))
  clear hn9
  with_reducible refine ((C.square Rd1.out) _).mono ?_
  rintro e vq10 ⟨cq10, rfl, rq10, hbq10⟩
  rw [Hn9.out] at rq10
  have Rq10 := Lib.hid rq10
  clear rq10
  have HRq10 := Lib.hid (HRq5.out.below hbq10)
  have HBq10 := Lib.hid (below_next HBq5.out hbq10)
  clear hbq10
  have h0q11 : (vq10.alloc (.cells Z 26)).heap[vq10.heap.size]? = some (.cells Z 26 (0, 0)) := heap_alloc_new _ _
  have HRq11 := Lib.hid (HRq10.out.new Z cq10 26)
  have HBq11 := Lib.hid (below_new HBq10.out Z cq10 26)
  have HNq11 := Lib.hid HRq10.out.ne
  have HGq11 := Lib.hid HBq10.out.size
  go_upto_region 3 with (refine wpList_store_row rfl 26 (.tmp 5) (.tmp 17) rfl vq10.heap.size cq10 rfl rfl 26 Z h0q11 (C.base.info Rq10.out) (C.base.size RZZ.out Rq10.out) (C.base.one Rq10.out) ?_)
  obtain ⟨Wq11, hWq11⟩ : ∃ W, (vq10.alloc (.cells Z 26)).setRow vq10.heap.size cq10 = W := ⟨_, rfl⟩
  obtain ⟨gq11, hgq11⟩ : ∃ g, vq10.heap.size = g := ⟨_, rfl⟩
  rw [hWq11, hgq11] at HRq11
  rw [hWq11] at HBq11
  rw [hgq11] at HNq11 HGq11
  rw [hWq11, hgq11]
  clear hWq11 hgq11 h0q11
  have NEq11_0 : Hid (g0 ≠ gq11) := Lib.hid (HNq11.out (g0, (quad a1 b1 d1 f1), 28) (by simp))
  have NEq11_1 : Hid ((g0 + 1) ≠ gq11) := Lib.hid (HNq11.out ((g0 + 1), (quad Z Z Z Z), 28) (by simp))
  have NEq11_2 : Hid (gq6 ≠ gq11) := Lib.hid (HNq11.out (gq6, cq2, 26) (by simp))
  have NEq11_3 : Hid (gq7 ≠ gq11) := Lib.hid (HNq11.out (gq7, cq4, 26) (by simp))
  refine wp_region_noPanic ?_
  refine wp_region_heldB2 6 6 26 Z 7 7 26 Z (by kernel_rfl) (by kernel_rfl) ⟨⟨by kernel_rfl, by kernel_rfl, hZ, fun _ _ _ h => h⟩, ⟨by kernel_rfl, by kernel_rfl, hZ, fun _ _ _ h => h⟩, by kernel_rfl⟩ (fun hA hS => ?_)
  refine' take_atB2 0 hA rfl (by kernel_rfl) (by kernel_rfl) (by kernel_rfl) (by kernel_rfl) (by rfl) (by rfl) hS ?_ ?_ ?_
  rotate_left 2
  · intro W hSW; exact run_loadR rfl rfl (HRq11.out.below hSW).tail.tail.head Try.underlying26 rfl (C.base.info Rq2.out)
  · simp only [List.set_cons_succ, List.set_cons_zero]; rfl
  refine' take_atB2 1 hA rfl (by kernel_rfl) (by kernel_rfl) (by kernel_rfl) (by kernel_rfl) (by rfl) (by rfl) hS ?_ ?_ ?_
  rotate_left 2
  · intro W hSW; exact run_loadR rfl rfl (HRq11.out.below hSW).tail.head Try.underlying26 rfl (C.base.info Rq4.out)
  · simp only [List.set_cons_succ, List.set_cons_zero]; rfl
  refine' take_atB2 3 hA rfl (by kernel_rfl) (by kernel_rfl) (by kernel_rfl) (by kernel_rfl) (by rfl) (by rfl) hS ?_ ?_ ?_
  rotate_left 2
  · intro W hSW; exact run_loadR rfl rfl (HRq11.out.below hSW).tail.head Try.underlying26 rfl (C.base.info Rq4.out)
  · simp only [List.set_cons_succ, List.set_cons_zero]; rfl
  refine' take_atB2 4 hA rfl (by kernel_rfl) (by kernel_rfl) (by kernel_rfl) (by kernel_rfl) (by rfl) (by rfl) hS ?_ ?_ ?_
  rotate_left 2
  · intro W hSW; exact run_loadR rfl rfl (HRq11.out.below hSW).tail.tail.head Try.underlying26 rfl (C.base.info Rq2.out)
  · simp only [List.set_cons_succ, List.set_cons_zero]; rfl
  refine call_atB2 2 hA rfl (by kernel_rfl) (by kernel_rfl) (by kernel_rfl) (by kernel_rfl) (by kernel_rfl) (by kernel_rfl) (by kernel_rfl) (by rfl) (by rfl) hS (fun oq13 pq13 Xq13 hS K hK => ?_)
  go_simp
  obtain ⟨n12, hn12⟩ : ∃ x_ : Nat, (n1 + n3) % PP = x_ := ⟨_, rfl⟩
  have Hn12 := Lib.hid hn12
  have HLn12 : Hid (n12 < PP) := Lib.hid (by rw [← hn12]; exact Nat.mod_lt _ (by decide))
  clear hn12
  with_reducible refine ((C.add Rq2.out Rq4.out) _).mono ?_
  rintro e vq13 ⟨cq13, rfl, rq13, hbq13⟩
  rw [Hn12.out] at rq13
  have Rq13 := Lib.hid rq13
  clear rq13
  refine hK.out _ _ hbq13 (fun hS => ?_)
  clear hK K hbq13
  refine call_atB2 5 hA rfl (by kernel_rfl) (by kernel_rfl) (by kernel_rfl) (by kernel_rfl) (by kernel_rfl) (by kernel_rfl) (by kernel_rfl) (by rfl) (by rfl) hS (fun oq15 pq15 Xq15 hS K hK => ?_)
  go_simp
  obtain ⟨n14, hn14⟩ : ∃ x_ : Nat, (n3 + (PP - n1)) % PP = x_ := ⟨_, rfl⟩
  have Hn14 := Lib.hid hn14
  have HLn14 : Hid (n14 < PP) := Lib.hid (by rw [← hn14]; exact Nat.mod_lt _ (by decide))
  clear hn14
  with_reducible refine ((C.sub Rq4.out Rq2.out) _).mono ?_
  rintro e vq15 ⟨cq15, rfl, rq15, hbq15⟩
  rw [Hn14.out] at rq15
  have Rq15 := Lib.hid rq15
  clear rq15
  refine hK.out _ _ hbq15 (fun hS => ?_)
  clear hK K hbq15
  refine' both_atB2 8 hA (by kernel_rfl) (by kernel_rfl) (by kernel_rfl) (by kernel_rfl) (by kernel_rfl) hS ?_ ?_
  rotate_left 1
  · intro g g'; simp only [List.set_cons_succ, List.set_cons_zero]; rfl
  intro gq17 gq18 Xq16 hgq17 hgq18 hneq16 hbq16 haq16 hcq16
  clear hA hS
  have hdq16 : (Xq16.setRow gq17 cq13).heap[gq18]? = some (.cells Z 26 (0, 0)) := by rw [setRow_other _ _ _ _ (Ne.symm hneq16)]; exact hcq16
  have heq16 : ((Xq16.setRow gq17 cq13).setRow gq18 cq15).heap[gq17]? = some (.cells cq13 26 (0, 0)) := by rw [setRow_other _ _ _ _ hneq16]; exact setRow_heap _ _ _ _ _ _ haq16
  refine call_at 8 rfl (by kernel_rfl) (by rfl) (fun K hK => ?_)
  refine wp_store_row 26 (.tmp 6) (.tmp 20) rfl gq17 cq13 rfl rfl 26 Z haq16 (C.base.info Rq13.out) (C.base.size RZZ.out Rq13.out) (C.base.one Rq13.out) ?_
  refine hK.out _ _ (by exact (below_row hbq16 hgq17)) (fun hS => ?_)
  clear hK K
  refine call_at 9 rfl (by kernel_rfl) (by rfl) (fun K hK => ?_)
  refine wp_store_row 26 (.tmp 7) (.tmp 23) rfl gq18 cq15 rfl rfl 26 Z hdq16 (C.base.info Rq15.out) (C.base.size RZZ.out Rq15.out) (C.base.one Rq15.out) ?_
  refine hK.out _ _ (by exact (below_row (below_row hbq16 hgq17) hgq18)) (fun hS => ?_)
  clear hK K
  clear hS
  refine wpAnyH_done (by kernel_rfl) ?_ _
  refine NoPanic.normal ?_
  (try simp only [Act.put])
  have HRq16 : Hid (RowsW ((Xq16.setRow gq17 cq13).setRow gq18 cq15) [(gq18, cq15, 26), (gq17, cq13, 26), (gq11, cq10, 26), (gq7, cq4, 26), (gq6, cq2, 26), ((g0 + 1), (quad Z Z Z Z), 28), (g0, (quad a1 b1 d1 f1), 28)]) := Lib.hid ⟨setRow_heap _ _ _ _ _ _ hdq16, heq16, ((HRq11.out.below hbq16).setRow (fun r hr => by have h := HRq11.out.lt r hr; have := hgq17; omega) _).setRow (fun r hr => by have h := HRq11.out.lt r hr; have := hgq18; omega) _⟩
  have HBq16 : Hid (Below w.heap.size w ((Xq16.setRow gq17 cq13).setRow gq18 cq15)) := Lib.hid (below_next HBq11.out (below_row (below_row hbq16 hgq17) hgq18))
  have NEq17_0 : Hid (g0 ≠ gq17) := Lib.hid (by have h := HRq11.out.lt (g0, (quad a1 b1 d1 f1), 28) (by simp); have := hgq17; simp only at h; omega)
  have NEq18_0 : Hid (g0 ≠ gq18) := Lib.hid (by have h := HRq11.out.lt (g0, (quad a1 b1 d1 f1), 28) (by simp); have := hgq18; simp only at h; omega)
  have NEq17_1 : Hid ((g0 + 1) ≠ gq17) := Lib.hid (by have h := HRq11.out.lt ((g0 + 1), (quad Z Z Z Z), 28) (by simp); have := hgq17; simp only at h; omega)
  have NEq18_1 : Hid ((g0 + 1) ≠ gq18) := Lib.hid (by have h := HRq11.out.lt ((g0 + 1), (quad Z Z Z Z), 28) (by simp); have := hgq18; simp only at h; omega)
  have NEq17_2 : Hid (gq6 ≠ gq17) := Lib.hid (by have h := HRq11.out.lt (gq6, cq2, 26) (by simp); have := hgq17; simp only at h; omega)
  have NEq18_2 : Hid (gq6 ≠ gq18) := Lib.hid (by have h := HRq11.out.lt (gq6, cq2, 26) (by simp); have := hgq18; simp only at h; omega)
  have NEq17_3 : Hid (gq7 ≠ gq17) := Lib.hid (by have h := HRq11.out.lt (gq7, cq4, 26) (by simp); have := hgq17; simp only at h; omega)
  have NEq18_3 : Hid (gq7 ≠ gq18) := Lib.hid (by have h := HRq11.out.lt (gq7, cq4, 26) (by simp); have := hgq18; simp only at h; omega)
  have NEq17_4 : Hid (gq11 ≠ gq17) := Lib.hid (by have h := HRq11.out.lt (gq11, cq10, 26) (by simp); have := hgq17; simp only at h; omega)
  have NEq18_4 : Hid (gq11 ≠ gq18) := Lib.hid (by have h := HRq11.out.lt (gq11, cq10, 26) (by simp); have := hgq18; simp only at h; omega)
  have NEq18_5 : Hid (gq17 ≠ gq18) := Lib.hid hneq16
  have HGq17 := Lib.hid (Nat.le_trans HBq11.out.size hgq17)
  have HGq18 := Lib.hid (Nat.le_trans HBq11.out.size hgq18)
  obtain ⟨Wq16, hWq16⟩ : ∃ W, ((Xq16.setRow gq17 cq13).setRow gq18 cq15) = W := ⟨_, rfl⟩
  rw [hWq16] at HRq16 HBq16
  (try rw [hWq16])
  clear hWq16 haq16 hcq16 hdq16 heq16 hgq17 hgq18 hneq16 hbq16
  go_upto_region 4 with fail
  refine wp_region_noPanic ?_
  refine wp_region_heldB 8 8 26 Z (by kernel_rfl) (by kernel_rfl) ⟨by kernel_rfl, by kernel_rfl, hZ, fun _ _ _ h => h⟩ (fun hA hS => ?_)
  refine' take_atB 0 hA rfl (by kernel_rfl) (by kernel_rfl) (by kernel_rfl) (by kernel_rfl) (by kernel_rfl) (by rfl) (by rfl) hS ?_ ?_ ?_
  rotate_left 2
  · intro W hSW; go_simp; try with_reducible rfl
  · simp only [List.set_cons_succ, List.set_cons_zero]; rfl
  refine' take_atB 1 hA rfl (by kernel_rfl) (by kernel_rfl) (by kernel_rfl) (by kernel_rfl) (by kernel_rfl) (by rfl) (by rfl) hS ?_ ?_ ?_
  rotate_left 2
  · intro W hSW; exact run_loadP rfl rfl (HRq16.out.below hSW).tail.tail.tail.tail.tail.tail.head Try.underlying26 rfl (C.base.info Ra1.out) pp_0
  · simp only [List.set_cons_succ, List.set_cons_zero]; rfl
  refine' take_atB 2 hA rfl (by kernel_rfl) (by kernel_rfl) (by kernel_rfl) (by kernel_rfl) (by kernel_rfl) (by rfl) (by rfl) hS ?_ ?_ ?_
  rotate_left 2
  · intro W hSW; go_simp; try with_reducible rfl
  · simp only [List.set_cons_succ, List.set_cons_zero]; rfl
  refine' take_atB 3 hA rfl (by kernel_rfl) (by kernel_rfl) (by kernel_rfl) (by kernel_rfl) (by kernel_rfl) (by rfl) (by rfl) hS ?_ ?_ ?_
  rotate_left 2
  · intro W hSW; exact run_loadP rfl rfl (HRq16.out.below hSW).tail.tail.tail.tail.tail.tail.head Try.underlying26 rfl (C.base.info Rb1.out) (pp_1 (fe5 C.base Ra1.out))
  · simp only [List.set_cons_succ, List.set_cons_zero]; rfl
  refine' take_atB 6 hA rfl (by kernel_rfl) (by kernel_rfl) (by kernel_rfl) (by kernel_rfl) (by kernel_rfl) (by rfl) (by rfl) hS ?_ ?_ ?_
  rotate_left 2
  · intro W hSW; exact run_loadR rfl rfl (HRq16.out.below hSW).tail.head Try.underlying26 rfl (C.base.info Rq13.out)
  · simp only [List.set_cons_succ, List.set_cons_zero]; rfl
  refine call_atB 4 hA rfl (by kernel_rfl) (by kernel_rfl) (by kernel_rfl) (by kernel_rfl) (by rfl) (by rfl) hS (fun oq20 Xq20 hS K hK => ?_)
  go_simp
  obtain ⟨n19, hn19⟩ : ∃ x_ : Nat, (X1 + Y1) % PP = x_ := ⟨_, rfl⟩
  have Hn19 := Lib.hid hn19
  have HLn19 : Hid (n19 < PP) := Lib.hid (by rw [← hn19]; exact Nat.mod_lt _ (by decide))
  clear hn19
  with_reducible refine ((C.add Ra1.out Rb1.out) _).mono ?_
  rintro e vq20 ⟨cq20, rfl, rq20, hbq20⟩
  rw [Hn19.out] at rq20
  have Rq20 := Lib.hid rq20
  clear rq20
  refine hK.out _ _ hbq20 (fun hS => ?_)
  clear hK K hbq20
  refine call_atB 5 hA rfl (by kernel_rfl) (by kernel_rfl) (by kernel_rfl) (by kernel_rfl) (by rfl) (by rfl) hS (fun oq22 Xq22 hS K hK => ?_)
  go_simp
  obtain ⟨n21, hn21⟩ : ∃ x_ : Nat, (n19 * n19) % PP = x_ := ⟨_, rfl⟩
  have Hn21 := Lib.hid hn21
  have HLn21 : Hid (n21 < PP) := Lib.hid (by rw [← hn21]; exact Nat.mod_lt _ (by decide))
  clear hn21
  with_reducible refine ((C.square Rq20.out) _).mono ?_
  rintro e vq22 ⟨cq22, rfl, rq22, hbq22⟩
  rw [Hn21.out] at rq22
  have Rq22 := Lib.hid rq22
  clear rq22
  refine hK.out _ _ hbq22 (fun hS => ?_)
  clear hK K hbq22
  refine call_atB 7 hA rfl (by kernel_rfl) (by kernel_rfl) (by kernel_rfl) (by kernel_rfl) (by rfl) (by rfl) hS (fun oq24 Xq24 hS K hK => ?_)
  go_simp
  obtain ⟨n23, hn23⟩ : ∃ x_ : Nat, (n21 + (PP - n12)) % PP = x_ := ⟨_, rfl⟩
  have Hn23 := Lib.hid hn23
  have HLn23 : Hid (n23 < PP) := Lib.hid (by rw [← hn23]; exact Nat.mod_lt _ (by decide))
  clear hn23
  with_reducible refine ((C.sub Rq22.out Rq13.out) _).mono ?_
  rintro e vq24 ⟨cq24, rfl, rq24, hbq24⟩
  rw [Hn23.out] at rq24
  have Rq24 := Lib.hid rq24
  clear rq24
  refine hK.out _ _ hbq24 (fun hS => ?_)
  clear hK K hbq24
  refine' store_atB 9 hA rfl (by kernel_rfl) (by kernel_rfl) (by kernel_rfl) hS (by kernel_rfl) rfl (by intro h; cases h) (C.base.info Rq24.out) (C.base.size RZZ.out Rq24.out) (C.base.one Rq24.out) ?_ ?_
  rotate_left 1
  · intro g; simp only [List.set_cons_succ, List.set_cons_zero]; rfl
  intro gq25 Wq25 hgq25 hbq25 hrowq25
  clear hA hS
  refine wpAnyH_done (by kernel_rfl) ?_ _
  refine NoPanic.normal ?_
  (try simp only [Act.put])
  have HRq25 : Hid (RowsW Wq25 [(gq25, cq24, 26), (gq18, cq15, 26), (gq17, cq13, 26), (gq11, cq10, 26), (gq7, cq4, 26), (gq6, cq2, 26), ((g0 + 1), (quad Z Z Z Z), 28), (g0, (quad a1 b1 d1 f1), 28)]) := Lib.hid ⟨hrowq25, HRq16.out.below hbq25⟩
  have HBq25 := Lib.hid (below_next HBq16.out hbq25)
  have NEq25_0 : Hid (g0 ≠ gq25) := Lib.hid (by have h := HRq16.out.lt (g0, (quad a1 b1 d1 f1), 28) (by simp); have := hgq25; simp only at h; omega)
  have NEq25_1 : Hid ((g0 + 1) ≠ gq25) := Lib.hid (by have h := HRq16.out.lt ((g0 + 1), (quad Z Z Z Z), 28) (by simp); have := hgq25; simp only at h; omega)
  have NEq25_2 : Hid (gq6 ≠ gq25) := Lib.hid (by have h := HRq16.out.lt (gq6, cq2, 26) (by simp); have := hgq25; simp only at h; omega)
  have NEq25_3 : Hid (gq7 ≠ gq25) := Lib.hid (by have h := HRq16.out.lt (gq7, cq4, 26) (by simp); have := hgq25; simp only at h; omega)
  have NEq25_4 : Hid (gq11 ≠ gq25) := Lib.hid (by have h := HRq16.out.lt (gq11, cq10, 26) (by simp); have := hgq25; simp only at h; omega)
  have NEq25_5 : Hid (gq17 ≠ gq25) := Lib.hid (by have h := HRq16.out.lt (gq17, cq13, 26) (by simp); have := hgq25; simp only at h; omega)
  have NEq25_6 : Hid (gq18 ≠ gq25) := Lib.hid (by have h := HRq16.out.lt (gq18, cq15, 26) (by simp); have := hgq25; simp only at h; omega)
  have HGq25 := Lib.hid (Nat.le_trans HBq16.out.size hgq25)
  clear hrowq25 hbq25 hgq25
  go_upto_region 5 with fail
  refine wp_region_noPanic ?_
  refine wp_region_held_tail (S := fun W => Below Wq25.heap.size Wq25 W) 9 (by kernel_rfl) ⟨by kernel_rfl, by kernel_rfl, by kernel_rfl, by kernel_rfl⟩ (by exact (Below.refl _ _).drew) (fun hT inv hS => ?_)
  refine' take_atT 0 hT inv rfl (by omega) (by kernel_rfl) (by kernel_rfl) (fun _ _ _ h => h) (by rfl) hS ?_ ?_ ?_
  rotate_left 2
  · intro W hSW; exact run_loadR rfl rfl (HRq25.out.below hSW).head Try.underlying26 rfl (C.base.info Rq24.out)
  · simp only [List.set_cons_succ, List.set_cons_zero]; rfl
  intro inv
  refine' take_atT 1 hT inv rfl (by omega) (by kernel_rfl) (by kernel_rfl) (fun _ _ _ h => h) (by rfl) hS ?_ ?_ ?_
  rotate_left 2
  · intro W hSW; exact run_loadR rfl rfl (HRq25.out.below hSW).tail.head Try.underlying26 rfl (C.base.info Rq15.out)
  · simp only [List.set_cons_succ, List.set_cons_zero]; rfl
  intro inv
  refine' take_atT 2 hT inv rfl (by omega) (by kernel_rfl) (by kernel_rfl) (fun _ _ _ h => h) (by rfl) hS ?_ ?_ ?_
  rotate_left 2
  · intro W hSW; exact run_loadR rfl rfl (HRq25.out.below hSW).tail.tail.head Try.underlying26 rfl (C.base.info Rq13.out)
  · simp only [List.set_cons_succ, List.set_cons_zero]; rfl
  intro inv
  refine' take_atT 3 hT inv rfl (by omega) (by kernel_rfl) (by kernel_rfl) (fun _ _ _ h => h) (by rfl) hS ?_ ?_ ?_
  rotate_left 2
  · intro W hSW; exact run_loadR rfl rfl (HRq25.out.below hSW).tail.tail.tail.head Try.underlying26 rfl (C.base.info Rq10.out)
  · simp only [List.set_cons_succ, List.set_cons_zero]; rfl
  intro inv
  refine' take_atT 4 hT inv rfl (by omega) (by kernel_rfl) (by kernel_rfl) (fun _ _ _ h => h) (by rfl) hS ?_ ?_ ?_
  rotate_left 2
  · intro W hSW; exact run_loadR rfl rfl (HRq25.out.below hSW).tail.tail.tail.head Try.underlying26 rfl (C.base.info Rq10.out)
  · simp only [List.set_cons_succ, List.set_cons_zero]; rfl
  intro inv
  refine' take_atT 6 hT inv rfl (by omega) (by kernel_rfl) (by kernel_rfl) (fun _ _ _ h => h) (by rfl) hS ?_ ?_ ?_
  rotate_left 2
  · intro W hSW; exact run_loadR rfl rfl (HRq25.out.below hSW).tail.head Try.underlying26 rfl (C.base.info Rq15.out)
  · simp only [List.set_cons_succ, List.set_cons_zero]; rfl
  intro inv
  refine call_atT 5 inv rfl (by omega) (by kernel_rfl) (by rfl) (fun K hK => ?_)
  go_simp
  obtain ⟨n26, hn26⟩ : ∃ x_ : Nat, (n9 + n9) % PP = x_ := ⟨_, rfl⟩
  have Hn26 := Lib.hid hn26
  have HLn26 : Hid (n26 < PP) := Lib.hid (by rw [← hn26]; exact Nat.mod_lt _ (by decide))
  clear hn26
  with_reducible refine ((C.add Rq10.out Rq10.out) _).mono ?_
  rintro e vq27 ⟨cq27, rfl, rq27, hbq27⟩
  rw [Hn26.out] at rq27
  have Rq27 := Lib.hid rq27
  clear rq27
  have kbq27 := below_next hS hbq27
  clear hS hbq27
  refine hK.out _ _ (by exact kbq27) (fun inv hS => ?_)
  clear hK K
  refine call_atT 7 inv rfl (by omega) (by kernel_rfl) (by rfl) (fun K hK => ?_)
  go_simp
  obtain ⟨n28, hn28⟩ : ∃ x_ : Nat, (n26 + (PP - n14)) % PP = x_ := ⟨_, rfl⟩
  have Hn28 := Lib.hid hn28
  have HLn28 : Hid (n28 < PP) := Lib.hid (by rw [← hn28]; exact Nat.mod_lt _ (by decide))
  clear hn28
  with_reducible refine ((C.sub Rq27.out Rq15.out) _).mono ?_
  rintro e vq29 ⟨cq29, rfl, rq29, hbq29⟩
  rw [Hn28.out] at rq29
  have Rq29 := Lib.hid rq29
  clear rq29
  have kbq29 := below_next kbq27 hbq29
  clear hS hbq29
  refine hK.out _ _ (by exact kbq29) (fun inv hS => ?_)
  clear hK K
  refine call_atT 8 inv rfl (by omega) (by kernel_rfl) (by rfl) (fun K hK => ?_)
  go_simp
  obtain ⟨n30, hn30⟩ : ∃ x_ : Nat, (n23 * n28) % PP = x_ := ⟨_, rfl⟩
  have Hn30 := Lib.hid hn30
  have HLn30 : Hid (n30 < PP) := Lib.hid (by rw [← hn30]; exact Nat.mod_lt _ (by decide))
  clear hn30
  obtain ⟨n31, hn31⟩ : ∃ x_ : Nat, (n14 * n12) % PP = x_ := ⟨_, rfl⟩
  have Hn31 := Lib.hid hn31
  have HLn31 : Hid (n31 < PP) := Lib.hid (by rw [← hn31]; exact Nat.mod_lt _ (by decide))
  clear hn31
  obtain ⟨n32, hn32⟩ : ∃ x_ : Nat, (n28 * n14) % PP = x_ := ⟨_, rfl⟩
  have Hn32 := Lib.hid hn32
  have HLn32 : Hid (n32 < PP) := Lib.hid (by rw [← hn32]; exact Nat.mod_lt _ (by decide))
  clear hn32
  obtain ⟨n33, hn33⟩ : ∃ x_ : Nat, (n23 * n12) % PP = x_ := ⟨_, rfl⟩
  have Hn33 := Lib.hid hn33
  have HLn33 : Hid (n33 < PP) := Lib.hid (by rw [← hn33]; exact Nat.mod_lt _ (by decide))
  clear hn33
  have kq34 := fun W : World => (ptratios_any C Rq24.out Rq15.out Rq13.out Rq29.out) W
  rw [Hn30.out, Hn31.out, Hn32.out, Hn33.out] at kq34
  have Kq34 := Lib.hid kq34
  clear kq34
  with_reducible refine (Kq34.out _).mono ?_
  rintro e vq34 ⟨aq34, bq34, dq34, fq34, rfl, hRaq34, hRbq34, hRdq34, hRfq34, hbq34⟩
  have Raq34 := Lib.hid hRaq34
  have Rbq34 := Lib.hid hRbq34
  have Rdq34 := Lib.hid hRdq34
  have Rfq34 := Lib.hid hRfq34
  clear hRaq34 hRbq34 hRdq34 hRfq34
  have kbq34 := below_next kbq29 hbq34
  clear hS hbq34
  refine hK.out _ _ (by exact kbq34) (fun inv hS => ?_)
  clear hK K
  refine done_atT (by kernel_rfl) ?_
  simp only [List.drop_succ_cons, List.drop_zero]
  clear hS
  (try simp only [Act.put])
  have HRq35 := Lib.hid (HRq25.out.below kbq34)
  have HBq35 := Lib.hid (below_next HBq25.out kbq34)
  have lsq36 := HRq35.out.tail.tail.tail.tail.tail.tail.head
  have HRq36 : Hid (RowsW (vq34.setRow (g0 + 1) (quad aq34 bq34 dq34 fq34)) [(gq25, cq24, 26), (gq18, cq15, 26), (gq17, cq13, 26), (gq11, cq10, 26), (gq7, cq4, 26), (gq6, cq2, 26), ((g0 + 1), (quad aq34 bq34 dq34 fq34), 28), (g0, (quad a1 b1 d1 f1), 28)]) := Lib.hid ⟨(by rw [setRow_other _ _ _ _ (Ne.symm NEq25_1.out)]; exact HRq35.out.head), (by rw [setRow_other _ _ _ _ (Ne.symm NEq18_1.out)]; exact HRq35.out.tail.head), (by rw [setRow_other _ _ _ _ (Ne.symm NEq17_1.out)]; exact HRq35.out.tail.tail.head), (by rw [setRow_other _ _ _ _ (Ne.symm NEq11_1.out)]; exact HRq35.out.tail.tail.tail.head), (by rw [setRow_other _ _ _ _ (Ne.symm NEq7_1.out)]; exact HRq35.out.tail.tail.tail.tail.head), (by rw [setRow_other _ _ _ _ (Ne.symm NEq6_1.out)]; exact HRq35.out.tail.tail.tail.tail.tail.head), setRow_heap _ _ _ _ _ _ lsq36, (by rw [setRow_other _ _ _ _ (by omega)]; exact HRq35.out.tail.tail.tail.tail.tail.tail.tail.head), trivial⟩
  have HBq36 := Lib.hid (below_row (g := (g0 + 1)) (cs := (quad aq34 bq34 dq34 fq34)) HBq35.out (by have := HG0.out; omega))
  go_wp2_with (refine wpList_store_row rfl 28 (.tmp 2) (.tmp 40) rfl (g0 + 1) (quad aq34 bq34 dq34 fq34) rfl rfl 28 (quad Z Z Z Z) lsq36 (pp_info C.base Raq34.out Rbq34.out Rdq34.out Rfq34.out) ((pp_size C.base RZZ.out RZZ.out RZZ.out RZZ.out).trans (pp_size C.base Raq34.out Rbq34.out Rdq34.out Rfq34.out).symm) (pp_one C.base Raq34.out Rbq34.out Rdq34.out Rfq34.out) ?_)
  obtain ⟨Wq36, hWq36⟩ : ∃ W, vq34.setRow (g0 + 1) (quad aq34 bq34 dq34 fq34) = W := ⟨_, rfl⟩
  rw [hWq36] at HRq36 HBq36
  (try rw [hWq36])
  clear hWq36 lsq36
  refine NoPanic.normal ?_
  go_wp2_with fail
  have HPD : Pq n30 n31 n32 n33 (padd p1 p1) := by
    rw [← Hn30.out, ← Hn31.out, ← Hn32.out, ← Hn33.out]
    exact pq_dbl HP1.out Hn1.out Hn3.out Hn9.out Hn12.out Hn14.out Hn19.out Hn21.out Hn23.out Hn26.out Hn28.out
  (try simp only [Exit.inBlock, Exit.then])
  refine bodyPost_ret (results_cell_row rfl _ _ (g0 + 1) _ (quad aq34 bq34 dq34 fq34) _ _ rfl HRq36.out.tail.tail.tail.tail.tail.tail.head Try.underlying28 rfl (pp_info C.base Raq34.out Rbq34.out Rdq34.out Rfq34.out)) rfl ?_
  exact ⟨_, rfl, ⟨_, _, _, _, _, _, _, _, rfl, Raq34.out, Rbq34.out, Rdq34.out, Rfq34.out, HPD⟩, HBq36.out⟩
set_option maxHeartbeats 3200000 in
theorem ptadd_any {R : Array Value → Nat → Prop} (C : FeC R) {a1 b1 d1 f1 : Array Value} {X1 Y1 Z1 T1 : Nat} {p1 : PtD} (ha1 : R a1 X1) (hb1 : R b1 Y1) (hd1 : R d1 Z1) (hf1 : R f1 T1) (hP1 : Pq X1 Y1 Z1 T1 p1) {a2 b2 d2 f2 : Array Value} {X2 Y2 Z2 T2 : Nat} {p2 : PtD} (ha2 : R a2 X2) (hb2 : R b2 Y2) (hd2 : R d2 Z2) (hf2 : R f2 T2) (hP2 : Pq X2 Y2 Z2 T2 p2) (w : World) : Calls Try.prog 19 #[.agg (quad a1 b1 d1 f1), .agg (quad a2 b2 d2 f2)] w (RetPt (ptRof R) w (padd p1 p2)) := by
  have Ra1 := Lib.hid ha1
  have Rb1 := Lib.hid hb1
  have Rd1 := Lib.hid hd1
  have Rf1 := Lib.hid hf1
  clear ha1 hb1 hd1 hf1
  have LX1 : Hid (X1 < PP) := Lib.hid (C.base.lt Ra1.out)
  have LY1 : Hid (Y1 < PP) := Lib.hid (C.base.lt Rb1.out)
  have LZ1 : Hid (Z1 < PP) := Lib.hid (C.base.lt Rd1.out)
  have LT1 : Hid (T1 < PP) := Lib.hid (C.base.lt Rf1.out)
  have HP1 := Lib.hid hP1
  clear hP1
  have Ra2 := Lib.hid ha2
  have Rb2 := Lib.hid hb2
  have Rd2 := Lib.hid hd2
  have Rf2 := Lib.hid hf2
  clear ha2 hb2 hd2 hf2
  have LX2 : Hid (X2 < PP) := Lib.hid (C.base.lt Ra2.out)
  have LY2 : Hid (Y2 < PP) := Lib.hid (C.base.lt Rb2.out)
  have LZ2 : Hid (Z2 < PP) := Lib.hid (C.base.lt Rd2.out)
  have LT2 : Hid (T2 < PP) := Lib.hid (C.base.lt Rf2.out)
  have HP2 := Lib.hid hP2
  clear hP2
  obtain ⟨Z, hZ, rZ⟩ := C.base.zero
  have RZZ := Lib.hid rZ
  have hzP := zp_of hZ
  have hz32 := zero32_zero
  clear rZ
  have HR0 := Lib.hid ((((RowsW.nil w).box (quad a1 b1 d1 f1) 28).box (quad a2 b2 d2 f2) 28).box (quad Z Z Z Z) 28)
  have HB0 := Lib.hid (below_box (below_box (below_box (Below.refl w.heap.size w) (quad a1 b1 d1 f1) 28) (quad a2 b2 d2 f2) 28) (quad Z Z Z Z) 28)
  rw [World.size_alloc] at HR0
  rw [World.size_alloc] at HR0
  go_enter Try.func19, Try.ntmps19
  go_upto_region 1 with fail
  obtain ⟨W0, hW0⟩ : ∃ W, (((w.alloc (.cells (quad a1 b1 d1 f1) 28)).alloc (.cells (quad a2 b2 d2 f2) 28)).alloc (.cells (quad Z Z Z Z) 28)) = W := ⟨_, rfl⟩
  obtain ⟨g0, hg0⟩ : ∃ g, w.heap.size = g := ⟨_, rfl⟩
  rw [hW0] at HR0 HB0
  rw [hg0] at HR0
  rw [hW0, hg0]
  have HG0 := Lib.hid hg0
  clear hW0 hg0
  refine wp_region_noPanic ?_
  refine wp_region_held_tail (S := fun W => Below W0.heap.size W0 W) 4 (by kernel_rfl) ⟨by kernel_rfl, by kernel_rfl, by kernel_rfl, by kernel_rfl⟩ (by exact (Below.refl _ _).drew) (fun hT inv hS => ?_)
  refine' take_atT 0 hT inv rfl (by omega) (by kernel_rfl) (by kernel_rfl) (fun _ _ _ h => h) (by rfl) hS ?_ ?_ ?_
  rotate_left 2
  · intro W hSW; exact run_loadR rfl rfl (HR0.out.below hSW).tail.tail.head Try.underlying28 rfl (pp_info C.base Ra1.out Rb1.out Rd1.out Rf1.out)
  · simp only [List.set_cons_succ, List.set_cons_zero]; rfl
  intro inv
  refine' take_atT 2 hT inv rfl (by omega) (by kernel_rfl) (by kernel_rfl) (fun _ _ _ h => h) (by rfl) hS ?_ ?_ ?_
  rotate_left 2
  · intro W hSW; exact run_loadR rfl rfl (HR0.out.below hSW).tail.head Try.underlying28 rfl (pp_info C.base Ra2.out Rb2.out Rd2.out Rf2.out)
  · simp only [List.set_cons_succ, List.set_cons_zero]; rfl
  intro inv
  refine call_atT 1 inv rfl (by omega) (by kernel_rfl) (by rfl) (fun K hK => ?_)
  go_simp
  have kq1 := fun W : World => (ptfilled_any C Ra1.out Rb1.out Rd1.out Rf1.out HP1.out) W
  have Kq1 := Lib.hid kq1
  clear kq1
  with_reducible refine (Kq1.out _).mono ?_
  rintro e vq1 ⟨aq1, bq1, dq1, fq1, Xq1, Yq1, Zq1, Tq1, rfl, hRaq1, hRbq1, hRdq1, hRfq1, hCq1, hbq1⟩
  have Raq1 := Lib.hid hRaq1
  have Rbq1 := Lib.hid hRbq1
  have Rdq1 := Lib.hid hRdq1
  have Rfq1 := Lib.hid hRfq1
  clear hRaq1 hRbq1 hRdq1 hRfq1
  have HCq1 := Lib.hid hCq1
  clear hCq1
  have kbq1 := below_next hS hbq1
  clear hS hbq1
  refine hK.out _ _ (by exact kbq1) (fun inv hS => ?_)
  clear hK K
  refine call_atT 3 inv rfl (by omega) (by kernel_rfl) (by rfl) (fun K hK => ?_)
  go_simp
  have kq2 := fun W : World => (ptfilled_any C Ra2.out Rb2.out Rd2.out Rf2.out HP2.out) W
  have Kq2 := Lib.hid kq2
  clear kq2
  with_reducible refine (Kq2.out _).mono ?_
  rintro e vq2 ⟨aq2, bq2, dq2, fq2, Xq2, Yq2, Zq2, Tq2, rfl, hRaq2, hRbq2, hRdq2, hRfq2, hCq2, hbq2⟩
  have Raq2 := Lib.hid hRaq2
  have Rbq2 := Lib.hid hRbq2
  have Rdq2 := Lib.hid hRdq2
  have Rfq2 := Lib.hid hRfq2
  clear hRaq2 hRbq2 hRdq2 hRfq2
  have HCq2 := Lib.hid hCq2
  clear hCq2
  have kbq2 := below_next kbq1 hbq2
  clear hS hbq2
  refine hK.out _ _ (by exact kbq2) (fun inv hS => ?_)
  clear hK K
  refine done_atT (by kernel_rfl) ?_
  simp only [List.drop_succ_cons, List.drop_zero]
  clear hS
  (try simp only [Act.put])
  have HRq3 := Lib.hid (HR0.out.below kbq2)
  have HBq3 := Lib.hid (below_next HB0.out kbq2)
  have lsq4_0 := HRq3.out.tail.tail.head
  have HRq4_0 : Hid (RowsW (vq2.setRow g0 (quad aq1 bq1 dq1 fq1)) [((g0 + 1 + 1), (quad Z Z Z Z), 28), ((g0 + 1), (quad a2 b2 d2 f2), 28), (g0, (quad aq1 bq1 dq1 fq1), 28)]) := Lib.hid ⟨(by rw [setRow_other _ _ _ _ (Ne.symm (by omega))]; exact HRq3.out.head), (by rw [setRow_other _ _ _ _ (Ne.symm (by omega))]; exact HRq3.out.tail.head), setRow_heap _ _ _ _ _ _ lsq4_0, trivial⟩
  have HBq4_0 := Lib.hid (below_row (g := g0) (cs := (quad aq1 bq1 dq1 fq1)) HBq3.out (by have := HG0.out; omega))
  have lsq4_1 := HRq4_0.out.tail.head
  have HRq4_1 : Hid (RowsW ((vq2.setRow g0 (quad aq1 bq1 dq1 fq1)).setRow (g0 + 1) (quad aq2 bq2 dq2 fq2)) [((g0 + 1 + 1), (quad Z Z Z Z), 28), ((g0 + 1), (quad aq2 bq2 dq2 fq2), 28), (g0, (quad aq1 bq1 dq1 fq1), 28)]) := Lib.hid ⟨(by rw [setRow_other _ _ _ _ (Ne.symm (by omega))]; exact HRq4_0.out.head), setRow_heap _ _ _ _ _ _ lsq4_1, (by rw [setRow_other _ _ _ _ (by omega)]; exact HRq4_0.out.tail.tail.head), trivial⟩
  have HBq4_1 := Lib.hid (below_row (g := (g0 + 1)) (cs := (quad aq2 bq2 dq2 fq2)) HBq4_0.out (by have := HG0.out; omega))
  go_wp2_with (first
      | (refine wpList_store_row rfl 28 (.tmp 2) (.tmp 10) rfl g0 (quad aq1 bq1 dq1 fq1) rfl rfl 28 (quad a1 b1 d1 f1) lsq4_0 (pp_info C.base Raq1.out Rbq1.out Rdq1.out Rfq1.out) ((pp_size C.base Ra1.out Rb1.out Rd1.out Rf1.out).trans (pp_size C.base Raq1.out Rbq1.out Rdq1.out Rfq1.out).symm) (pp_one C.base Raq1.out Rbq1.out Rdq1.out Rfq1.out) ?_)
      | (refine wpList_store_row rfl 28 (.tmp 3) (.tmp 12) rfl (g0 + 1) (quad aq2 bq2 dq2 fq2) rfl rfl 28 (quad a2 b2 d2 f2) lsq4_1 (pp_info C.base Raq2.out Rbq2.out Rdq2.out Rfq2.out) ((pp_size C.base Ra2.out Rb2.out Rd2.out Rf2.out).trans (pp_size C.base Raq2.out Rbq2.out Rdq2.out Rfq2.out).symm) (pp_one C.base Raq2.out Rbq2.out Rdq2.out Rfq2.out) ?_))
  obtain ⟨Wq4, hWq4⟩ : ∃ W, ((vq2.setRow g0 (quad aq1 bq1 dq1 fq1)).setRow (g0 + 1) (quad aq2 bq2 dq2 fq2)) = W := ⟨_, rfl⟩
  rw [hWq4] at HRq4_1 HBq4_1
  (try rw [hWq4])
  clear hWq4 lsq4_0 lsq4_1
  refine NoPanic.normal ?_
  go_upto_region 2 with fail
  refine wp_region_noPanic ?_
  refine wp_region_heldB 11 5 26 Z (by kernel_rfl) (by kernel_rfl) ⟨by kernel_rfl, by kernel_rfl, hZ, fun _ _ _ h => h⟩ (fun hA hS => ?_)
  refine' take_atB 0 hA rfl (by kernel_rfl) (by kernel_rfl) (by kernel_rfl) (by kernel_rfl) (by kernel_rfl) (by rfl) (by rfl) hS ?_ ?_ ?_
  rotate_left 2
  · intro W hSW; go_simp; try with_reducible rfl
  · simp only [List.set_cons_succ, List.set_cons_zero]; rfl
  refine' take_atB 1 hA rfl (by kernel_rfl) (by kernel_rfl) (by kernel_rfl) (by kernel_rfl) (by kernel_rfl) (by rfl) (by rfl) hS ?_ ?_ ?_
  rotate_left 2
  · intro W hSW; exact run_loadP rfl rfl (HRq4_1.out.below hSW).tail.tail.head Try.underlying26 rfl (C.base.info Rbq1.out) (pp_1 (fe5 C.base Raq1.out))
  · simp only [List.set_cons_succ, List.set_cons_zero]; rfl
  refine' take_atB 2 hA rfl (by kernel_rfl) (by kernel_rfl) (by kernel_rfl) (by kernel_rfl) (by kernel_rfl) (by rfl) (by rfl) hS ?_ ?_ ?_
  rotate_left 2
  · intro W hSW; go_simp; try with_reducible rfl
  · simp only [List.set_cons_succ, List.set_cons_zero]; rfl
  refine' take_atB 3 hA rfl (by kernel_rfl) (by kernel_rfl) (by kernel_rfl) (by kernel_rfl) (by kernel_rfl) (by rfl) (by rfl) hS ?_ ?_ ?_
  rotate_left 2
  · intro W hSW; exact run_loadP rfl rfl (HRq4_1.out.below hSW).tail.tail.head Try.underlying26 rfl (C.base.info Raq1.out) pp_0
  · simp only [List.set_cons_succ, List.set_cons_zero]; rfl
  refine' take_atB 5 hA rfl (by kernel_rfl) (by kernel_rfl) (by kernel_rfl) (by kernel_rfl) (by kernel_rfl) (by rfl) (by rfl) hS ?_ ?_ ?_
  rotate_left 2
  · intro W hSW; go_simp; try with_reducible rfl
  · simp only [List.set_cons_succ, List.set_cons_zero]; rfl
  refine' take_atB 6 hA rfl (by kernel_rfl) (by kernel_rfl) (by kernel_rfl) (by kernel_rfl) (by kernel_rfl) (by rfl) (by rfl) hS ?_ ?_ ?_
  rotate_left 2
  · intro W hSW; exact run_loadP rfl rfl (HRq4_1.out.below hSW).tail.head Try.underlying26 rfl (C.base.info Rbq2.out) (pp_1 (fe5 C.base Raq2.out))
  · simp only [List.set_cons_succ, List.set_cons_zero]; rfl
  refine' take_atB 7 hA rfl (by kernel_rfl) (by kernel_rfl) (by kernel_rfl) (by kernel_rfl) (by kernel_rfl) (by rfl) (by rfl) hS ?_ ?_ ?_
  rotate_left 2
  · intro W hSW; go_simp; try with_reducible rfl
  · simp only [List.set_cons_succ, List.set_cons_zero]; rfl
  refine' take_atB 8 hA rfl (by kernel_rfl) (by kernel_rfl) (by kernel_rfl) (by kernel_rfl) (by kernel_rfl) (by rfl) (by rfl) hS ?_ ?_ ?_
  rotate_left 2
  · intro W hSW; exact run_loadP rfl rfl (HRq4_1.out.below hSW).tail.head Try.underlying26 rfl (C.base.info Raq2.out) pp_0
  · simp only [List.set_cons_succ, List.set_cons_zero]; rfl
  refine call_atB 4 hA rfl (by kernel_rfl) (by kernel_rfl) (by kernel_rfl) (by kernel_rfl) (by rfl) (by rfl) hS (fun oq6 Xq6 hS K hK => ?_)
  go_simp
  obtain ⟨n5, hn5⟩ : ∃ x_ : Nat, (Yq1 + (PP - Xq1)) % PP = x_ := ⟨_, rfl⟩
  have Hn5 := Lib.hid hn5
  have HLn5 : Hid (n5 < PP) := Lib.hid (by rw [← hn5]; exact Nat.mod_lt _ (by decide))
  clear hn5
  with_reducible refine ((C.sub Rbq1.out Raq1.out) _).mono ?_
  rintro e vq6 ⟨cq6, rfl, rq6, hbq6⟩
  rw [Hn5.out] at rq6
  have Rq6 := Lib.hid rq6
  clear rq6
  refine hK.out _ _ hbq6 (fun hS => ?_)
  clear hK K hbq6
  refine call_atB 9 hA rfl (by kernel_rfl) (by kernel_rfl) (by kernel_rfl) (by kernel_rfl) (by rfl) (by rfl) hS (fun oq8 Xq8 hS K hK => ?_)
  go_simp
  obtain ⟨n7, hn7⟩ : ∃ x_ : Nat, (Yq2 + (PP - Xq2)) % PP = x_ := ⟨_, rfl⟩
  have Hn7 := Lib.hid hn7
  have HLn7 : Hid (n7 < PP) := Lib.hid (by rw [← hn7]; exact Nat.mod_lt _ (by decide))
  clear hn7
  with_reducible refine ((C.sub Rbq2.out Raq2.out) _).mono ?_
  rintro e vq8 ⟨cq8, rfl, rq8, hbq8⟩
  rw [Hn7.out] at rq8
  have Rq8 := Lib.hid rq8
  clear rq8
  refine hK.out _ _ hbq8 (fun hS => ?_)
  clear hK K hbq8
  refine call_atB 10 hA rfl (by kernel_rfl) (by kernel_rfl) (by kernel_rfl) (by kernel_rfl) (by rfl) (by rfl) hS (fun oq10 Xq10 hS K hK => ?_)
  go_simp
  obtain ⟨n9, hn9⟩ : ∃ x_ : Nat, (n5 * n7) % PP = x_ := ⟨_, rfl⟩
  have Hn9 := Lib.hid hn9
  have HLn9 : Hid (n9 < PP) := Lib.hid (by rw [← hn9]; exact Nat.mod_lt _ (by decide))
  clear hn9
  with_reducible refine ((C.mul Rq6.out Rq8.out) _).mono ?_
  rintro e vq10 ⟨cq10, rfl, rq10, hbq10⟩
  rw [Hn9.out] at rq10
  have Rq10 := Lib.hid rq10
  clear rq10
  refine hK.out _ _ hbq10 (fun hS => ?_)
  clear hK K hbq10
  refine' store_atB 12 hA rfl (by kernel_rfl) (by kernel_rfl) (by kernel_rfl) hS (by kernel_rfl) rfl (by intro h; cases h) (C.base.info Rq10.out) (C.base.size RZZ.out Rq10.out) (C.base.one Rq10.out) ?_ ?_
  rotate_left 1
  · intro g; simp only [List.set_cons_succ, List.set_cons_zero]; rfl
  intro gq11 Wq11 hgq11 hbq11 hrowq11
  clear hA hS
  refine wpAnyH_done (by kernel_rfl) ?_ _
  refine NoPanic.normal ?_
  (try simp only [Act.put])
  have HRq11 : Hid (RowsW Wq11 [(gq11, cq10, 26), ((g0 + 1 + 1), (quad Z Z Z Z), 28), ((g0 + 1), (quad aq2 bq2 dq2 fq2), 28), (g0, (quad aq1 bq1 dq1 fq1), 28)]) := Lib.hid ⟨hrowq11, HRq4_1.out.below hbq11⟩
  have HBq11 := Lib.hid (below_next HBq4_1.out hbq11)
  have NEq11_0 : Hid (g0 ≠ gq11) := Lib.hid (by have h := HRq4_1.out.lt (g0, (quad aq1 bq1 dq1 fq1), 28) (by simp); have := hgq11; simp only at h; omega)
  have NEq11_1 : Hid ((g0 + 1) ≠ gq11) := Lib.hid (by have h := HRq4_1.out.lt ((g0 + 1), (quad aq2 bq2 dq2 fq2), 28) (by simp); have := hgq11; simp only at h; omega)
  have NEq11_2 : Hid ((g0 + 1 + 1) ≠ gq11) := Lib.hid (by have h := HRq4_1.out.lt ((g0 + 1 + 1), (quad Z Z Z Z), 28) (by simp); have := hgq11; simp only at h; omega)
  have HGq11 := Lib.hid (Nat.le_trans HBq4_1.out.size hgq11)
  clear hrowq11 hbq11 hgq11
  go_upto_region 3 with fail
  refine wp_region_noPanic ?_
  refine wp_region_heldB 11 6 26 Z (by kernel_rfl) (by kernel_rfl) ⟨by kernel_rfl, by kernel_rfl, hZ, fun _ _ _ h => h⟩ (fun hA hS => ?_)
  refine' take_atB 0 hA rfl (by kernel_rfl) (by kernel_rfl) (by kernel_rfl) (by kernel_rfl) (by kernel_rfl) (by rfl) (by rfl) hS ?_ ?_ ?_
  rotate_left 2
  · intro W hSW; go_simp; try with_reducible rfl
  · simp only [List.set_cons_succ, List.set_cons_zero]; rfl
  refine' take_atB 1 hA rfl (by kernel_rfl) (by kernel_rfl) (by kernel_rfl) (by kernel_rfl) (by kernel_rfl) (by rfl) (by rfl) hS ?_ ?_ ?_
  rotate_left 2
  · intro W hSW; exact run_loadP rfl rfl (HRq11.out.below hSW).tail.tail.tail.head Try.underlying26 rfl (C.base.info Rbq1.out) (pp_1 (fe5 C.base Raq1.out))
  · simp only [List.set_cons_succ, List.set_cons_zero]; rfl
  refine' take_atB 2 hA rfl (by kernel_rfl) (by kernel_rfl) (by kernel_rfl) (by kernel_rfl) (by kernel_rfl) (by rfl) (by rfl) hS ?_ ?_ ?_
  rotate_left 2
  · intro W hSW; go_simp; try with_reducible rfl
  · simp only [List.set_cons_succ, List.set_cons_zero]; rfl
  refine' take_atB 3 hA rfl (by kernel_rfl) (by kernel_rfl) (by kernel_rfl) (by kernel_rfl) (by kernel_rfl) (by rfl) (by rfl) hS ?_ ?_ ?_
  rotate_left 2
  · intro W hSW; exact run_loadP rfl rfl (HRq11.out.below hSW).tail.tail.tail.head Try.underlying26 rfl (C.base.info Raq1.out) pp_0
  · simp only [List.set_cons_succ, List.set_cons_zero]; rfl
  refine' take_atB 5 hA rfl (by kernel_rfl) (by kernel_rfl) (by kernel_rfl) (by kernel_rfl) (by kernel_rfl) (by rfl) (by rfl) hS ?_ ?_ ?_
  rotate_left 2
  · intro W hSW; go_simp; try with_reducible rfl
  · simp only [List.set_cons_succ, List.set_cons_zero]; rfl
  refine' take_atB 6 hA rfl (by kernel_rfl) (by kernel_rfl) (by kernel_rfl) (by kernel_rfl) (by kernel_rfl) (by rfl) (by rfl) hS ?_ ?_ ?_
  rotate_left 2
  · intro W hSW; exact run_loadP rfl rfl (HRq11.out.below hSW).tail.tail.head Try.underlying26 rfl (C.base.info Rbq2.out) (pp_1 (fe5 C.base Raq2.out))
  · simp only [List.set_cons_succ, List.set_cons_zero]; rfl
  refine' take_atB 7 hA rfl (by kernel_rfl) (by kernel_rfl) (by kernel_rfl) (by kernel_rfl) (by kernel_rfl) (by rfl) (by rfl) hS ?_ ?_ ?_
  rotate_left 2
  · intro W hSW; go_simp; try with_reducible rfl
  · simp only [List.set_cons_succ, List.set_cons_zero]; rfl
  refine' take_atB 8 hA rfl (by kernel_rfl) (by kernel_rfl) (by kernel_rfl) (by kernel_rfl) (by kernel_rfl) (by rfl) (by rfl) hS ?_ ?_ ?_
  rotate_left 2
  · intro W hSW; exact run_loadP rfl rfl (HRq11.out.below hSW).tail.tail.head Try.underlying26 rfl (C.base.info Raq2.out) pp_0
  · simp only [List.set_cons_succ, List.set_cons_zero]; rfl
  refine call_atB 4 hA rfl (by kernel_rfl) (by kernel_rfl) (by kernel_rfl) (by kernel_rfl) (by rfl) (by rfl) hS (fun oq13 Xq13 hS K hK => ?_)
  go_simp
  obtain ⟨n12, hn12⟩ : ∃ x_ : Nat, (Yq1 + Xq1) % PP = x_ := ⟨_, rfl⟩
  have Hn12 := Lib.hid hn12
  have HLn12 : Hid (n12 < PP) := Lib.hid (by rw [← hn12]; exact Nat.mod_lt _ (by decide))
  clear hn12
  with_reducible refine ((C.add Rbq1.out Raq1.out) _).mono ?_
  rintro e vq13 ⟨cq13, rfl, rq13, hbq13⟩
  rw [Hn12.out] at rq13
  have Rq13 := Lib.hid rq13
  clear rq13
  refine hK.out _ _ hbq13 (fun hS => ?_)
  clear hK K hbq13
  refine call_atB 9 hA rfl (by kernel_rfl) (by kernel_rfl) (by kernel_rfl) (by kernel_rfl) (by rfl) (by rfl) hS (fun oq15 Xq15 hS K hK => ?_)
  go_simp
  obtain ⟨n14, hn14⟩ : ∃ x_ : Nat, (Yq2 + Xq2) % PP = x_ := ⟨_, rfl⟩
  have Hn14 := Lib.hid hn14
  have HLn14 : Hid (n14 < PP) := Lib.hid (by rw [← hn14]; exact Nat.mod_lt _ (by decide))
  clear hn14
  with_reducible refine ((C.add Rbq2.out Raq2.out) _).mono ?_
  rintro e vq15 ⟨cq15, rfl, rq15, hbq15⟩
  rw [Hn14.out] at rq15
  have Rq15 := Lib.hid rq15
  clear rq15
  refine hK.out _ _ hbq15 (fun hS => ?_)
  clear hK K hbq15
  refine call_atB 10 hA rfl (by kernel_rfl) (by kernel_rfl) (by kernel_rfl) (by kernel_rfl) (by rfl) (by rfl) hS (fun oq17 Xq17 hS K hK => ?_)
  go_simp
  obtain ⟨n16, hn16⟩ : ∃ x_ : Nat, (n12 * n14) % PP = x_ := ⟨_, rfl⟩
  have Hn16 := Lib.hid hn16
  have HLn16 : Hid (n16 < PP) := Lib.hid (by rw [← hn16]; exact Nat.mod_lt _ (by decide))
  clear hn16
  with_reducible refine ((C.mul Rq13.out Rq15.out) _).mono ?_
  rintro e vq17 ⟨cq17, rfl, rq17, hbq17⟩
  rw [Hn16.out] at rq17
  have Rq17 := Lib.hid rq17
  clear rq17
  refine hK.out _ _ hbq17 (fun hS => ?_)
  clear hK K hbq17
  refine' store_atB 12 hA rfl (by kernel_rfl) (by kernel_rfl) (by kernel_rfl) hS (by kernel_rfl) rfl (by intro h; cases h) (C.base.info Rq17.out) (C.base.size RZZ.out Rq17.out) (C.base.one Rq17.out) ?_ ?_
  rotate_left 1
  · intro g; simp only [List.set_cons_succ, List.set_cons_zero]; rfl
  intro gq18 Wq18 hgq18 hbq18 hrowq18
  clear hA hS
  refine wpAnyH_done (by kernel_rfl) ?_ _
  refine NoPanic.normal ?_
  (try simp only [Act.put])
  have HRq18 : Hid (RowsW Wq18 [(gq18, cq17, 26), (gq11, cq10, 26), ((g0 + 1 + 1), (quad Z Z Z Z), 28), ((g0 + 1), (quad aq2 bq2 dq2 fq2), 28), (g0, (quad aq1 bq1 dq1 fq1), 28)]) := Lib.hid ⟨hrowq18, HRq11.out.below hbq18⟩
  have HBq18 := Lib.hid (below_next HBq11.out hbq18)
  have NEq18_0 : Hid (g0 ≠ gq18) := Lib.hid (by have h := HRq11.out.lt (g0, (quad aq1 bq1 dq1 fq1), 28) (by simp); have := hgq18; simp only at h; omega)
  have NEq18_1 : Hid ((g0 + 1) ≠ gq18) := Lib.hid (by have h := HRq11.out.lt ((g0 + 1), (quad aq2 bq2 dq2 fq2), 28) (by simp); have := hgq18; simp only at h; omega)
  have NEq18_2 : Hid ((g0 + 1 + 1) ≠ gq18) := Lib.hid (by have h := HRq11.out.lt ((g0 + 1 + 1), (quad Z Z Z Z), 28) (by simp); have := hgq18; simp only at h; omega)
  have NEq18_3 : Hid (gq11 ≠ gq18) := Lib.hid (by have h := HRq11.out.lt (gq11, cq10, 26) (by simp); have := hgq18; simp only at h; omega)
  have HGq18 := Lib.hid (Nat.le_trans HBq11.out.size hgq18)
  clear hrowq18 hbq18 hgq18
  go_upto_region 4 with fail
  have l19 := HRq18.out.tail.tail.tail.tail.head
  have l20 := HRq18.out.tail.tail.tail.head
  go_wp2_with (first
      | (refine wpList_runsV (o := ⟨some 36, _, _, _, _, _⟩) rfl (.agg fq1) (run_loadP rfl rfl l19 Try.underlying26 rfl (C.base.info Rfq1.out) (pp_3 (fe5 C.base Raq1.out) (fe5 C.base Rbq1.out) (fe5 C.base Rdq1.out))) ?_)
      | (refine wpList_runsV (o := ⟨some 38, _, _, _, _, _⟩) rfl (.agg fq2) (run_loadP rfl rfl l20 Try.underlying26 rfl (C.base.info Rfq2.out) (pp_3 (fe5 C.base Raq2.out) (fe5 C.base Rbq2.out) (fe5 C.base Rdq2.out))) ?_))
  obtain ⟨n21, hn21⟩ : ∃ x_ : Nat, (Tq1 * Tq2) % PP = x_ := ⟨_, rfl⟩
  have Hn21 := Lib.hid hn21
  have HLn21 : Hid (n21 < PP) := Lib.hid (by rw [← hn21]; exact Nat.mod_lt _ (by decide))
  clear hn21
  with_reducible refine ((C.mul Rfq1.out Rfq2.out) _).mono ?_
  rintro e vq22 ⟨cq22, rfl, rq22, hbq22⟩
  rw [Hn21.out] at rq22
  have Rq22 := Lib.hid rq22
  clear rq22
  have HRq22 := Lib.hid (HRq18.out.below hbq22)
  have HBq22 := Lib.hid (below_next HBq18.out hbq22)
  clear hbq22
  go_wp2_with fail
  with_reducible refine ((ptd_any C) _).mono ?_
  rintro e vq23 ⟨cq23, rfl, rq23, hbq23⟩
  have Rq23 := Lib.hid rq23
  clear rq23
  have HRq23 := Lib.hid (HRq22.out.below hbq23)
  have HBq23 := Lib.hid (below_next HBq22.out hbq23)
  clear hbq23
  go_wp2_with fail
  obtain ⟨n24, hn24⟩ : ∃ x_ : Nat, (n21 * edN) % PP = x_ := ⟨_, rfl⟩
  have Hn24 := Lib.hid hn24
  have HLn24 : Hid (n24 < PP) := Lib.hid (by rw [← hn24]; exact Nat.mod_lt _ (by decide))
  clear hn24
  with_reducible refine ((C.mul Rq22.out Rq23.out) _).mono ?_
  rintro e vq25 ⟨cq25, rfl, rq25, hbq25⟩
  rw [Hn24.out] at rq25
  have Rq25 := Lib.hid rq25
  clear rq25
  have HRq25 := Lib.hid (HRq23.out.below hbq25)
  have HBq25 := Lib.hid (below_next HBq23.out hbq25)
  clear hbq25
  have h0q26 : (vq25.alloc (.cells Z 26)).heap[vq25.heap.size]? = some (.cells Z 26 (0, 0)) := heap_alloc_new _ _
  have HRq26 := Lib.hid (HRq25.out.new Z cq25 26)
  have HBq26 := Lib.hid (below_new HBq25.out Z cq25 26)
  have HNq26 := Lib.hid HRq25.out.ne
  have HGq26 := Lib.hid HBq25.out.size
  go_upto_region 5 with (refine wpList_store_row rfl 26 (.tmp 7) (.tmp 41) rfl vq25.heap.size cq25 rfl rfl 26 Z h0q26 (C.base.info Rq25.out) (C.base.size RZZ.out Rq25.out) (C.base.one Rq25.out) ?_)
  obtain ⟨Wq26, hWq26⟩ : ∃ W, (vq25.alloc (.cells Z 26)).setRow vq25.heap.size cq25 = W := ⟨_, rfl⟩
  obtain ⟨gq26, hgq26⟩ : ∃ g, vq25.heap.size = g := ⟨_, rfl⟩
  rw [hWq26, hgq26] at HRq26
  rw [hWq26] at HBq26
  rw [hgq26] at HNq26 HGq26
  rw [hWq26, hgq26]
  clear hWq26 hgq26 h0q26
  have NEq26_0 : Hid (g0 ≠ gq26) := Lib.hid (HNq26.out (g0, (quad aq1 bq1 dq1 fq1), 28) (by simp))
  have NEq26_1 : Hid ((g0 + 1) ≠ gq26) := Lib.hid (HNq26.out ((g0 + 1), (quad aq2 bq2 dq2 fq2), 28) (by simp))
  have NEq26_2 : Hid ((g0 + 1 + 1) ≠ gq26) := Lib.hid (HNq26.out ((g0 + 1 + 1), (quad Z Z Z Z), 28) (by simp))
  have NEq26_3 : Hid (gq11 ≠ gq26) := Lib.hid (HNq26.out (gq11, cq10, 26) (by simp))
  have NEq26_4 : Hid (gq18 ≠ gq26) := Lib.hid (HNq26.out (gq18, cq17, 26) (by simp))
  have l27 := HRq26.out.head
  have l28 := HRq26.out.head
  go_wp2_with (first
      | (refine wpList_load_row rfl 26 (.tmp 7) rfl gq26 rfl 26 cq25 (0, 0) _ l27 Try.underlying26 rfl (C.base.info Rq25.out) ?_)
      | (refine wpList_load_row rfl 26 (.tmp 7) rfl gq26 rfl 26 cq25 (0, 0) _ l28 Try.underlying26 rfl (C.base.info Rq25.out) ?_))
  obtain ⟨n29, hn29⟩ : ∃ x_ : Nat, (n24 + n24) % PP = x_ := ⟨_, rfl⟩
  have Hn29 := Lib.hid hn29
  have HLn29 : Hid (n29 < PP) := Lib.hid (by rw [← hn29]; exact Nat.mod_lt _ (by decide))
  clear hn29
  with_reducible refine ((C.add Rq25.out Rq25.out) _).mono ?_
  rintro e vq30 ⟨cq30, rfl, rq30, hbq30⟩
  rw [Hn29.out] at rq30
  have Rq30 := Lib.hid rq30
  clear rq30
  have HRq30 := Lib.hid (HRq26.out.below hbq30)
  have HBq30 := Lib.hid (below_next HBq26.out hbq30)
  clear hbq30
  have lsq31 := HRq30.out.head
  have HRq31 : Hid (RowsW (vq30.setRow gq26 cq30) [(gq26, cq30, 26), (gq18, cq17, 26), (gq11, cq10, 26), ((g0 + 1 + 1), (quad Z Z Z Z), 28), ((g0 + 1), (quad aq2 bq2 dq2 fq2), 28), (g0, (quad aq1 bq1 dq1 fq1), 28)]) := Lib.hid ⟨setRow_heap _ _ _ _ _ _ lsq31, (by rw [setRow_other _ _ _ _ NEq26_4.out]; exact HRq30.out.tail.head), (by rw [setRow_other _ _ _ _ NEq26_3.out]; exact HRq30.out.tail.tail.head), (by rw [setRow_other _ _ _ _ NEq26_2.out]; exact HRq30.out.tail.tail.tail.head), (by rw [setRow_other _ _ _ _ NEq26_1.out]; exact HRq30.out.tail.tail.tail.tail.head), (by rw [setRow_other _ _ _ _ NEq26_0.out]; exact HRq30.out.tail.tail.tail.tail.tail.head), trivial⟩
  have HBq31 := Lib.hid (below_row (g := gq26) (cs := cq30) HBq30.out HGq26.out)
  go_upto_region 6 with (refine wpList_store_row rfl 26 (.tmp 7) (.tmp 44) rfl gq26 cq30 rfl rfl 26 cq25 lsq31 (C.base.info Rq30.out) (C.base.size Rq25.out Rq30.out) (C.base.one Rq30.out) ?_)
  obtain ⟨Wq31, hWq31⟩ : ∃ W, vq30.setRow gq26 cq30 = W := ⟨_, rfl⟩
  rw [hWq31] at HRq31 HBq31
  (try rw [hWq31])
  clear hWq31 lsq31
  have l32 := HRq31.out.tail.tail.tail.tail.tail.head
  have l33 := HRq31.out.tail.tail.tail.tail.head
  go_wp2_with (first
      | (refine wpList_runsV (o := ⟨some 46, _, _, _, _, _⟩) rfl (.agg dq1) (run_loadP rfl rfl l32 Try.underlying26 rfl (C.base.info Rdq1.out) (pp_2 (fe5 C.base Raq1.out) (fe5 C.base Rbq1.out))) ?_)
      | (refine wpList_runsV (o := ⟨some 48, _, _, _, _, _⟩) rfl (.agg dq2) (run_loadP rfl rfl l33 Try.underlying26 rfl (C.base.info Rdq2.out) (pp_2 (fe5 C.base Raq2.out) (fe5 C.base Rbq2.out))) ?_))
  obtain ⟨n34, hn34⟩ : ∃ x_ : Nat, (Zq1 * Zq2) % PP = x_ := ⟨_, rfl⟩
  have Hn34 := Lib.hid hn34
  have HLn34 : Hid (n34 < PP) := Lib.hid (by rw [← hn34]; exact Nat.mod_lt _ (by decide))
  clear hn34
  with_reducible refine ((C.mul Rdq1.out Rdq2.out) _).mono ?_
  rintro e vq35 ⟨cq35, rfl, rq35, hbq35⟩
  rw [Hn34.out] at rq35
  have Rq35 := Lib.hid rq35
  clear rq35
  have HRq35 := Lib.hid (HRq31.out.below hbq35)
  have HBq35 := Lib.hid (below_next HBq31.out hbq35)
  clear hbq35
  have h0q36 : (vq35.alloc (.cells Z 26)).heap[vq35.heap.size]? = some (.cells Z 26 (0, 0)) := heap_alloc_new _ _
  have HRq36 := Lib.hid (HRq35.out.new Z cq35 26)
  have HBq36 := Lib.hid (below_new HBq35.out Z cq35 26)
  have HNq36 := Lib.hid HRq35.out.ne
  have HGq36 := Lib.hid HBq35.out.size
  go_upto_region 7 with (refine wpList_store_row rfl 26 (.tmp 8) (.tmp 49) rfl vq35.heap.size cq35 rfl rfl 26 Z h0q36 (C.base.info Rq35.out) (C.base.size RZZ.out Rq35.out) (C.base.one Rq35.out) ?_)
  obtain ⟨Wq36, hWq36⟩ : ∃ W, (vq35.alloc (.cells Z 26)).setRow vq35.heap.size cq35 = W := ⟨_, rfl⟩
  obtain ⟨gq36, hgq36⟩ : ∃ g, vq35.heap.size = g := ⟨_, rfl⟩
  rw [hWq36, hgq36] at HRq36
  rw [hWq36] at HBq36
  rw [hgq36] at HNq36 HGq36
  rw [hWq36, hgq36]
  clear hWq36 hgq36 h0q36
  have NEq36_0 : Hid (g0 ≠ gq36) := Lib.hid (HNq36.out (g0, (quad aq1 bq1 dq1 fq1), 28) (by simp))
  have NEq36_1 : Hid ((g0 + 1) ≠ gq36) := Lib.hid (HNq36.out ((g0 + 1), (quad aq2 bq2 dq2 fq2), 28) (by simp))
  have NEq36_2 : Hid ((g0 + 1 + 1) ≠ gq36) := Lib.hid (HNq36.out ((g0 + 1 + 1), (quad Z Z Z Z), 28) (by simp))
  have NEq36_3 : Hid (gq11 ≠ gq36) := Lib.hid (HNq36.out (gq11, cq10, 26) (by simp))
  have NEq36_4 : Hid (gq18 ≠ gq36) := Lib.hid (HNq36.out (gq18, cq17, 26) (by simp))
  have NEq36_5 : Hid (gq26 ≠ gq36) := Lib.hid (HNq36.out (gq26, cq30, 26) (by simp))
  have l37 := HRq36.out.head
  have l38 := HRq36.out.head
  go_wp2_with (first
      | (refine wpList_load_row rfl 26 (.tmp 8) rfl gq36 rfl 26 cq35 (0, 0) _ l37 Try.underlying26 rfl (C.base.info Rq35.out) ?_)
      | (refine wpList_load_row rfl 26 (.tmp 8) rfl gq36 rfl 26 cq35 (0, 0) _ l38 Try.underlying26 rfl (C.base.info Rq35.out) ?_))
  obtain ⟨n39, hn39⟩ : ∃ x_ : Nat, (n34 + n34) % PP = x_ := ⟨_, rfl⟩
  have Hn39 := Lib.hid hn39
  have HLn39 : Hid (n39 < PP) := Lib.hid (by rw [← hn39]; exact Nat.mod_lt _ (by decide))
  clear hn39
  with_reducible refine ((C.add Rq35.out Rq35.out) _).mono ?_
  rintro e vq40 ⟨cq40, rfl, rq40, hbq40⟩
  rw [Hn39.out] at rq40
  have Rq40 := Lib.hid rq40
  clear rq40
  have HRq40 := Lib.hid (HRq36.out.below hbq40)
  have HBq40 := Lib.hid (below_next HBq36.out hbq40)
  clear hbq40
  have lsq41 := HRq40.out.head
  have HRq41 : Hid (RowsW (vq40.setRow gq36 cq40) [(gq36, cq40, 26), (gq26, cq30, 26), (gq18, cq17, 26), (gq11, cq10, 26), ((g0 + 1 + 1), (quad Z Z Z Z), 28), ((g0 + 1), (quad aq2 bq2 dq2 fq2), 28), (g0, (quad aq1 bq1 dq1 fq1), 28)]) := Lib.hid ⟨setRow_heap _ _ _ _ _ _ lsq41, (by rw [setRow_other _ _ _ _ NEq36_5.out]; exact HRq40.out.tail.head), (by rw [setRow_other _ _ _ _ NEq36_4.out]; exact HRq40.out.tail.tail.head), (by rw [setRow_other _ _ _ _ NEq36_3.out]; exact HRq40.out.tail.tail.tail.head), (by rw [setRow_other _ _ _ _ NEq36_2.out]; exact HRq40.out.tail.tail.tail.tail.head), (by rw [setRow_other _ _ _ _ NEq36_1.out]; exact HRq40.out.tail.tail.tail.tail.tail.head), (by rw [setRow_other _ _ _ _ NEq36_0.out]; exact HRq40.out.tail.tail.tail.tail.tail.tail.head), trivial⟩
  have HBq41 := Lib.hid (below_row (g := gq36) (cs := cq40) HBq40.out HGq36.out)
  go_upto_region 8 with (refine wpList_store_row rfl 26 (.tmp 8) (.tmp 52) rfl gq36 cq40 rfl rfl 26 cq35 lsq41 (C.base.info Rq40.out) (C.base.size Rq35.out Rq40.out) (C.base.one Rq40.out) ?_)
  obtain ⟨Wq41, hWq41⟩ : ∃ W, vq40.setRow gq36 cq40 = W := ⟨_, rfl⟩
  rw [hWq41] at HRq41 HBq41
  (try rw [hWq41])
  clear hWq41 lsq41
  refine wp_region_noPanic ?_
  refine wp_region_held_tail (S := fun W => Below Wq41.heap.size Wq41 W) 13 (by kernel_rfl) ⟨by kernel_rfl, by kernel_rfl, by kernel_rfl, by kernel_rfl⟩ (by exact (Below.refl _ _).drew) (fun hT inv hS => ?_)
  refine' take_atT 0 hT inv rfl (by omega) (by kernel_rfl) (by kernel_rfl) (fun _ _ _ h => h) (by rfl) hS ?_ ?_ ?_
  rotate_left 2
  · intro W hSW; exact run_loadR rfl rfl (HRq41.out.below hSW).tail.tail.head Try.underlying26 rfl (C.base.info Rq17.out)
  · simp only [List.set_cons_succ, List.set_cons_zero]; rfl
  intro inv
  refine' take_atT 1 hT inv rfl (by omega) (by kernel_rfl) (by kernel_rfl) (fun _ _ _ h => h) (by rfl) hS ?_ ?_ ?_
  rotate_left 2
  · intro W hSW; exact run_loadR rfl rfl (HRq41.out.below hSW).tail.tail.tail.head Try.underlying26 rfl (C.base.info Rq10.out)
  · simp only [List.set_cons_succ, List.set_cons_zero]; rfl
  intro inv
  refine' take_atT 3 hT inv rfl (by omega) (by kernel_rfl) (by kernel_rfl) (fun _ _ _ h => h) (by rfl) hS ?_ ?_ ?_
  rotate_left 2
  · intro W hSW; exact run_loadR rfl rfl (HRq41.out.below hSW).head Try.underlying26 rfl (C.base.info Rq40.out)
  · simp only [List.set_cons_succ, List.set_cons_zero]; rfl
  intro inv
  refine' take_atT 4 hT inv rfl (by omega) (by kernel_rfl) (by kernel_rfl) (fun _ _ _ h => h) (by rfl) hS ?_ ?_ ?_
  rotate_left 2
  · intro W hSW; exact run_loadR rfl rfl (HRq41.out.below hSW).tail.head Try.underlying26 rfl (C.base.info Rq30.out)
  · simp only [List.set_cons_succ, List.set_cons_zero]; rfl
  intro inv
  refine' take_atT 6 hT inv rfl (by omega) (by kernel_rfl) (by kernel_rfl) (fun _ _ _ h => h) (by rfl) hS ?_ ?_ ?_
  rotate_left 2
  · intro W hSW; exact run_loadR rfl rfl (HRq41.out.below hSW).tail.tail.head Try.underlying26 rfl (C.base.info Rq17.out)
  · simp only [List.set_cons_succ, List.set_cons_zero]; rfl
  intro inv
  refine' take_atT 7 hT inv rfl (by omega) (by kernel_rfl) (by kernel_rfl) (fun _ _ _ h => h) (by rfl) hS ?_ ?_ ?_
  rotate_left 2
  · intro W hSW; exact run_loadR rfl rfl (HRq41.out.below hSW).tail.tail.tail.head Try.underlying26 rfl (C.base.info Rq10.out)
  · simp only [List.set_cons_succ, List.set_cons_zero]; rfl
  intro inv
  refine' take_atT 9 hT inv rfl (by omega) (by kernel_rfl) (by kernel_rfl) (fun _ _ _ h => h) (by rfl) hS ?_ ?_ ?_
  rotate_left 2
  · intro W hSW; exact run_loadR rfl rfl (HRq41.out.below hSW).head Try.underlying26 rfl (C.base.info Rq40.out)
  · simp only [List.set_cons_succ, List.set_cons_zero]; rfl
  intro inv
  refine' take_atT 10 hT inv rfl (by omega) (by kernel_rfl) (by kernel_rfl) (fun _ _ _ h => h) (by rfl) hS ?_ ?_ ?_
  rotate_left 2
  · intro W hSW; exact run_loadR rfl rfl (HRq41.out.below hSW).tail.head Try.underlying26 rfl (C.base.info Rq30.out)
  · simp only [List.set_cons_succ, List.set_cons_zero]; rfl
  intro inv
  refine call_atT 2 inv rfl (by omega) (by kernel_rfl) (by rfl) (fun K hK => ?_)
  go_simp
  obtain ⟨n42, hn42⟩ : ∃ x_ : Nat, (n16 + (PP - n9)) % PP = x_ := ⟨_, rfl⟩
  have Hn42 := Lib.hid hn42
  have HLn42 : Hid (n42 < PP) := Lib.hid (by rw [← hn42]; exact Nat.mod_lt _ (by decide))
  clear hn42
  with_reducible refine ((C.sub Rq17.out Rq10.out) _).mono ?_
  rintro e vq43 ⟨cq43, rfl, rq43, hbq43⟩
  rw [Hn42.out] at rq43
  have Rq43 := Lib.hid rq43
  clear rq43
  have kbq43 := below_next hS hbq43
  clear hS hbq43
  refine hK.out _ _ (by exact kbq43) (fun inv hS => ?_)
  clear hK K
  refine call_atT 5 inv rfl (by omega) (by kernel_rfl) (by rfl) (fun K hK => ?_)
  go_simp
  obtain ⟨n44, hn44⟩ : ∃ x_ : Nat, (n39 + n29) % PP = x_ := ⟨_, rfl⟩
  have Hn44 := Lib.hid hn44
  have HLn44 : Hid (n44 < PP) := Lib.hid (by rw [← hn44]; exact Nat.mod_lt _ (by decide))
  clear hn44
  with_reducible refine ((C.add Rq40.out Rq30.out) _).mono ?_
  rintro e vq45 ⟨cq45, rfl, rq45, hbq45⟩
  rw [Hn44.out] at rq45
  have Rq45 := Lib.hid rq45
  clear rq45
  have kbq45 := below_next kbq43 hbq45
  clear hS hbq45
  refine hK.out _ _ (by exact kbq45) (fun inv hS => ?_)
  clear hK K
  refine call_atT 8 inv rfl (by omega) (by kernel_rfl) (by rfl) (fun K hK => ?_)
  go_simp
  obtain ⟨n46, hn46⟩ : ∃ x_ : Nat, (n16 + n9) % PP = x_ := ⟨_, rfl⟩
  have Hn46 := Lib.hid hn46
  have HLn46 : Hid (n46 < PP) := Lib.hid (by rw [← hn46]; exact Nat.mod_lt _ (by decide))
  clear hn46
  with_reducible refine ((C.add Rq17.out Rq10.out) _).mono ?_
  rintro e vq47 ⟨cq47, rfl, rq47, hbq47⟩
  rw [Hn46.out] at rq47
  have Rq47 := Lib.hid rq47
  clear rq47
  have kbq47 := below_next kbq45 hbq47
  clear hS hbq47
  refine hK.out _ _ (by exact kbq47) (fun inv hS => ?_)
  clear hK K
  refine call_atT 11 inv rfl (by omega) (by kernel_rfl) (by rfl) (fun K hK => ?_)
  go_simp
  obtain ⟨n48, hn48⟩ : ∃ x_ : Nat, (n39 + (PP - n29)) % PP = x_ := ⟨_, rfl⟩
  have Hn48 := Lib.hid hn48
  have HLn48 : Hid (n48 < PP) := Lib.hid (by rw [← hn48]; exact Nat.mod_lt _ (by decide))
  clear hn48
  with_reducible refine ((C.sub Rq40.out Rq30.out) _).mono ?_
  rintro e vq49 ⟨cq49, rfl, rq49, hbq49⟩
  rw [Hn48.out] at rq49
  have Rq49 := Lib.hid rq49
  clear rq49
  have kbq49 := below_next kbq47 hbq49
  clear hS hbq49
  refine hK.out _ _ (by exact kbq49) (fun inv hS => ?_)
  clear hK K
  refine call_atT 12 inv rfl (by omega) (by kernel_rfl) (by rfl) (fun K hK => ?_)
  go_simp
  obtain ⟨n50, hn50⟩ : ∃ x_ : Nat, (n42 * n48) % PP = x_ := ⟨_, rfl⟩
  have Hn50 := Lib.hid hn50
  have HLn50 : Hid (n50 < PP) := Lib.hid (by rw [← hn50]; exact Nat.mod_lt _ (by decide))
  clear hn50
  obtain ⟨n51, hn51⟩ : ∃ x_ : Nat, (n44 * n46) % PP = x_ := ⟨_, rfl⟩
  have Hn51 := Lib.hid hn51
  have HLn51 : Hid (n51 < PP) := Lib.hid (by rw [← hn51]; exact Nat.mod_lt _ (by decide))
  clear hn51
  obtain ⟨n52, hn52⟩ : ∃ x_ : Nat, (n48 * n44) % PP = x_ := ⟨_, rfl⟩
  have Hn52 := Lib.hid hn52
  have HLn52 : Hid (n52 < PP) := Lib.hid (by rw [← hn52]; exact Nat.mod_lt _ (by decide))
  clear hn52
  obtain ⟨n53, hn53⟩ : ∃ x_ : Nat, (n42 * n46) % PP = x_ := ⟨_, rfl⟩
  have Hn53 := Lib.hid hn53
  have HLn53 : Hid (n53 < PP) := Lib.hid (by rw [← hn53]; exact Nat.mod_lt _ (by decide))
  clear hn53
  have kq54 := fun W : World => (ptratios_any C Rq43.out Rq45.out Rq47.out Rq49.out) W
  rw [Hn50.out, Hn51.out, Hn52.out, Hn53.out] at kq54
  have Kq54 := Lib.hid kq54
  clear kq54
  with_reducible refine (Kq54.out _).mono ?_
  rintro e vq54 ⟨aq54, bq54, dq54, fq54, rfl, hRaq54, hRbq54, hRdq54, hRfq54, hbq54⟩
  have Raq54 := Lib.hid hRaq54
  have Rbq54 := Lib.hid hRbq54
  have Rdq54 := Lib.hid hRdq54
  have Rfq54 := Lib.hid hRfq54
  clear hRaq54 hRbq54 hRdq54 hRfq54
  have kbq54 := below_next kbq49 hbq54
  clear hS hbq54
  refine hK.out _ _ (by exact kbq54) (fun inv hS => ?_)
  clear hK K
  refine done_atT (by kernel_rfl) ?_
  simp only [List.drop_succ_cons, List.drop_zero]
  clear hS
  (try simp only [Act.put])
  have HRq55 := Lib.hid (HRq41.out.below kbq54)
  have HBq55 := Lib.hid (below_next HBq41.out kbq54)
  have lsq56 := HRq55.out.tail.tail.tail.tail.head
  have HRq56 : Hid (RowsW (vq54.setRow (g0 + 1 + 1) (quad aq54 bq54 dq54 fq54)) [(gq36, cq40, 26), (gq26, cq30, 26), (gq18, cq17, 26), (gq11, cq10, 26), ((g0 + 1 + 1), (quad aq54 bq54 dq54 fq54), 28), ((g0 + 1), (quad aq2 bq2 dq2 fq2), 28), (g0, (quad aq1 bq1 dq1 fq1), 28)]) := Lib.hid ⟨(by rw [setRow_other _ _ _ _ (Ne.symm NEq36_2.out)]; exact HRq55.out.head), (by rw [setRow_other _ _ _ _ (Ne.symm NEq26_2.out)]; exact HRq55.out.tail.head), (by rw [setRow_other _ _ _ _ (Ne.symm NEq18_2.out)]; exact HRq55.out.tail.tail.head), (by rw [setRow_other _ _ _ _ (Ne.symm NEq11_2.out)]; exact HRq55.out.tail.tail.tail.head), setRow_heap _ _ _ _ _ _ lsq56, (by rw [setRow_other _ _ _ _ (by omega)]; exact HRq55.out.tail.tail.tail.tail.tail.head), (by rw [setRow_other _ _ _ _ (by omega)]; exact HRq55.out.tail.tail.tail.tail.tail.tail.head), trivial⟩
  have HBq56 := Lib.hid (below_row (g := (g0 + 1 + 1)) (cs := (quad aq54 bq54 dq54 fq54)) HBq55.out (by have := HG0.out; omega))
  go_wp2_with (refine wpList_store_row rfl 28 (.tmp 4) (.tmp 65) rfl (g0 + 1 + 1) (quad aq54 bq54 dq54 fq54) rfl rfl 28 (quad Z Z Z Z) lsq56 (pp_info C.base Raq54.out Rbq54.out Rdq54.out Rfq54.out) ((pp_size C.base RZZ.out RZZ.out RZZ.out RZZ.out).trans (pp_size C.base Raq54.out Rbq54.out Rdq54.out Rfq54.out).symm) (pp_one C.base Raq54.out Rbq54.out Rdq54.out Rfq54.out) ?_)
  obtain ⟨Wq56, hWq56⟩ : ∃ W, vq54.setRow (g0 + 1 + 1) (quad aq54 bq54 dq54 fq54) = W := ⟨_, rfl⟩
  rw [hWq56] at HRq56 HBq56
  (try rw [hWq56])
  clear hWq56 lsq56
  refine NoPanic.normal ?_
  go_wp2_with fail
  have HCO : Co n50 n51 n52 n53 (padd p1 p2) := by
    rw [← Hn50.out, ← Hn51.out, ← Hn52.out, ← Hn53.out]
    exact co_add2 HCq1.out HCq2.out (by rw [Hn5.out, Hn7.out, Hn9.out]) (by rw [Hn12.out, Hn14.out, Hn16.out]) Hn21.out Hn24.out Hn29.out Hn34.out Hn39.out Hn42.out Hn48.out Hn44.out Hn46.out
  (try simp only [Exit.inBlock, Exit.then])
  refine bodyPost_ret (results_cell_row rfl _ _ (g0 + 1 + 1) _ (quad aq54 bq54 dq54 fq54) _ _ rfl HRq56.out.tail.tail.tail.tail.head Try.underlying28 rfl (pp_info C.base Raq54.out Rbq54.out Rdq54.out Rfq54.out)) rfl ?_
  exact ⟨_, rfl, ⟨_, _, _, _, _, _, _, _, rfl, Raq54.out, Rbq54.out, Rdq54.out, Rfq54.out, .inl HCO⟩, HBq56.out⟩
set_option maxHeartbeats 3200000 in
theorem ptequal_any {R : Array Value → Nat → Prop} (C : FeC R) {a1 b1 d1 f1 : Array Value} {X1 Y1 Z1 T1 : Nat} {p1 : PtD} (ha1 : R a1 X1) (hb1 : R b1 Y1) (hd1 : R d1 Z1) (hf1 : R f1 T1) (hP1 : Pq X1 Y1 Z1 T1 p1) {a2 b2 d2 f2 : Array Value} {X2 Y2 Z2 T2 : Nat} {p2 : PtD} (ha2 : R a2 X2) (hb2 : R b2 Y2) (hd2 : R d2 Z2) (hf2 : R f2 T2) (hP2 : Pq X2 Y2 Z2 T2 p2) (w : World) : Calls Try.prog 18 #[.agg (quad a1 b1 d1 f1), .agg (quad a2 b2 d2 f2)] w (RetV w (.bool (ptEq p1 p2))) := by
  have Ra1 := Lib.hid ha1
  have Rb1 := Lib.hid hb1
  have Rd1 := Lib.hid hd1
  have Rf1 := Lib.hid hf1
  clear ha1 hb1 hd1 hf1
  have LX1 : Hid (X1 < PP) := Lib.hid (C.base.lt Ra1.out)
  have LY1 : Hid (Y1 < PP) := Lib.hid (C.base.lt Rb1.out)
  have LZ1 : Hid (Z1 < PP) := Lib.hid (C.base.lt Rd1.out)
  have LT1 : Hid (T1 < PP) := Lib.hid (C.base.lt Rf1.out)
  have HP1 := Lib.hid hP1
  clear hP1
  have Ra2 := Lib.hid ha2
  have Rb2 := Lib.hid hb2
  have Rd2 := Lib.hid hd2
  have Rf2 := Lib.hid hf2
  clear ha2 hb2 hd2 hf2
  have LX2 : Hid (X2 < PP) := Lib.hid (C.base.lt Ra2.out)
  have LY2 : Hid (Y2 < PP) := Lib.hid (C.base.lt Rb2.out)
  have LZ2 : Hid (Z2 < PP) := Lib.hid (C.base.lt Rd2.out)
  have LT2 : Hid (T2 < PP) := Lib.hid (C.base.lt Rf2.out)
  have HP2 := Lib.hid hP2
  clear hP2
  obtain ⟨Z, hZ, rZ⟩ := C.base.zero
  have RZZ := Lib.hid rZ
  have hzP := zp_of hZ
  have hz32 := zero32_zero
  clear rZ
  have HR0 := Lib.hid (((RowsW.nil w).box (quad a1 b1 d1 f1) 28).box (quad a2 b2 d2 f2) 28)
  have HB0 := Lib.hid (below_box (below_box (Below.refl w.heap.size w) (quad a1 b1 d1 f1) 28) (quad a2 b2 d2 f2) 28)
  rw [World.size_alloc] at HR0
  go_enter Try.func18, Try.ntmps18
  go_upto_region 1 with fail
  obtain ⟨W0, hW0⟩ : ∃ W, ((w.alloc (.cells (quad a1 b1 d1 f1) 28)).alloc (.cells (quad a2 b2 d2 f2) 28)) = W := ⟨_, rfl⟩
  obtain ⟨g0, hg0⟩ : ∃ g, w.heap.size = g := ⟨_, rfl⟩
  rw [hW0] at HR0 HB0
  rw [hg0] at HR0
  rw [hW0, hg0]
  have HG0 := Lib.hid hg0
  clear hW0 hg0
  refine wp_region_noPanic ?_
  refine wp_region_held_tail (S := fun W => Below W0.heap.size W0 W) 4 (by kernel_rfl) ⟨by kernel_rfl, by kernel_rfl, by kernel_rfl, by kernel_rfl⟩ (by exact (Below.refl _ _).drew) (fun hT inv hS => ?_)
  refine' take_atT 0 hT inv rfl (by omega) (by kernel_rfl) (by kernel_rfl) (fun _ _ _ h => h) (by rfl) hS ?_ ?_ ?_
  rotate_left 2
  · intro W hSW; exact run_loadR rfl rfl (HR0.out.below hSW).tail.head Try.underlying28 rfl (pp_info C.base Ra1.out Rb1.out Rd1.out Rf1.out)
  · simp only [List.set_cons_succ, List.set_cons_zero]; rfl
  intro inv
  refine' take_atT 2 hT inv rfl (by omega) (by kernel_rfl) (by kernel_rfl) (fun _ _ _ h => h) (by rfl) hS ?_ ?_ ?_
  rotate_left 2
  · intro W hSW; exact run_loadR rfl rfl (HR0.out.below hSW).head Try.underlying28 rfl (pp_info C.base Ra2.out Rb2.out Rd2.out Rf2.out)
  · simp only [List.set_cons_succ, List.set_cons_zero]; rfl
  intro inv
  refine call_atT 1 inv rfl (by omega) (by kernel_rfl) (by rfl) (fun K hK => ?_)
  go_simp
  have kq1 := fun W : World => (ptfilled_any C Ra1.out Rb1.out Rd1.out Rf1.out HP1.out) W
  have Kq1 := Lib.hid kq1
  clear kq1
  with_reducible refine (Kq1.out _).mono ?_
  rintro e vq1 ⟨aq1, bq1, dq1, fq1, Xq1, Yq1, Zq1, Tq1, rfl, hRaq1, hRbq1, hRdq1, hRfq1, hCq1, hbq1⟩
  have Raq1 := Lib.hid hRaq1
  have Rbq1 := Lib.hid hRbq1
  have Rdq1 := Lib.hid hRdq1
  have Rfq1 := Lib.hid hRfq1
  clear hRaq1 hRbq1 hRdq1 hRfq1
  have HCq1 := Lib.hid hCq1
  clear hCq1
  have kbq1 := below_next hS hbq1
  clear hS hbq1
  refine hK.out _ _ (by exact kbq1) (fun inv hS => ?_)
  clear hK K
  refine call_atT 3 inv rfl (by omega) (by kernel_rfl) (by rfl) (fun K hK => ?_)
  go_simp
  have kq2 := fun W : World => (ptfilled_any C Ra2.out Rb2.out Rd2.out Rf2.out HP2.out) W
  have Kq2 := Lib.hid kq2
  clear kq2
  with_reducible refine (Kq2.out _).mono ?_
  rintro e vq2 ⟨aq2, bq2, dq2, fq2, Xq2, Yq2, Zq2, Tq2, rfl, hRaq2, hRbq2, hRdq2, hRfq2, hCq2, hbq2⟩
  have Raq2 := Lib.hid hRaq2
  have Rbq2 := Lib.hid hRbq2
  have Rdq2 := Lib.hid hRdq2
  have Rfq2 := Lib.hid hRfq2
  clear hRaq2 hRbq2 hRdq2 hRfq2
  have HCq2 := Lib.hid hCq2
  clear hCq2
  have kbq2 := below_next kbq1 hbq2
  clear hS hbq2
  refine hK.out _ _ (by exact kbq2) (fun inv hS => ?_)
  clear hK K
  refine done_atT (by kernel_rfl) ?_
  simp only [List.drop_succ_cons, List.drop_zero]
  clear hS
  (try simp only [Act.put])
  have HRq3 := Lib.hid (HR0.out.below kbq2)
  have HBq3 := Lib.hid (below_next HB0.out kbq2)
  have lsq4_0 := HRq3.out.tail.head
  have HRq4_0 : Hid (RowsW (vq2.setRow g0 (quad aq1 bq1 dq1 fq1)) [((g0 + 1), (quad a2 b2 d2 f2), 28), (g0, (quad aq1 bq1 dq1 fq1), 28)]) := Lib.hid ⟨(by rw [setRow_other _ _ _ _ (Ne.symm (by omega))]; exact HRq3.out.head), setRow_heap _ _ _ _ _ _ lsq4_0, trivial⟩
  have HBq4_0 := Lib.hid (below_row (g := g0) (cs := (quad aq1 bq1 dq1 fq1)) HBq3.out (by have := HG0.out; omega))
  have lsq4_1 := HRq4_0.out.head
  have HRq4_1 : Hid (RowsW ((vq2.setRow g0 (quad aq1 bq1 dq1 fq1)).setRow (g0 + 1) (quad aq2 bq2 dq2 fq2)) [((g0 + 1), (quad aq2 bq2 dq2 fq2), 28), (g0, (quad aq1 bq1 dq1 fq1), 28)]) := Lib.hid ⟨setRow_heap _ _ _ _ _ _ lsq4_1, (by rw [setRow_other _ _ _ _ (by omega)]; exact HRq4_0.out.tail.head), trivial⟩
  have HBq4_1 := Lib.hid (below_row (g := (g0 + 1)) (cs := (quad aq2 bq2 dq2 fq2)) HBq4_0.out (by have := HG0.out; omega))
  go_wp2_with (first
      | (refine wpList_store_row rfl 28 (.tmp 2) (.tmp 6) rfl g0 (quad aq1 bq1 dq1 fq1) rfl rfl 28 (quad a1 b1 d1 f1) lsq4_0 (pp_info C.base Raq1.out Rbq1.out Rdq1.out Rfq1.out) ((pp_size C.base Ra1.out Rb1.out Rd1.out Rf1.out).trans (pp_size C.base Raq1.out Rbq1.out Rdq1.out Rfq1.out).symm) (pp_one C.base Raq1.out Rbq1.out Rdq1.out Rfq1.out) ?_)
      | (refine wpList_store_row rfl 28 (.tmp 3) (.tmp 8) rfl (g0 + 1) (quad aq2 bq2 dq2 fq2) rfl rfl 28 (quad a2 b2 d2 f2) lsq4_1 (pp_info C.base Raq2.out Rbq2.out Rdq2.out Rfq2.out) ((pp_size C.base Ra2.out Rb2.out Rd2.out Rf2.out).trans (pp_size C.base Raq2.out Rbq2.out Rdq2.out Rfq2.out).symm) (pp_one C.base Raq2.out Rbq2.out Rdq2.out Rfq2.out) ?_))
  obtain ⟨Wq4, hWq4⟩ : ∃ W, ((vq2.setRow g0 (quad aq1 bq1 dq1 fq1)).setRow (g0 + 1) (quad aq2 bq2 dq2 fq2)) = W := ⟨_, rfl⟩
  rw [hWq4] at HRq4_1 HBq4_1
  (try rw [hWq4])
  clear hWq4 lsq4_0 lsq4_1
  refine NoPanic.normal ?_
  go_upto_region 2 with fail
  obtain ⟨n5, hn5⟩ : ∃ x_ : Nat, (Xq1 * Zq2) % PP = x_ := ⟨_, rfl⟩
  have Hn5 := Lib.hid hn5
  have HLn5 : Hid (n5 < PP) := Lib.hid (by rw [← hn5]; exact Nat.mod_lt _ (by decide))
  clear hn5
  obtain ⟨n6, hn6⟩ : ∃ x_ : Nat, (Xq2 * Zq1) % PP = x_ := ⟨_, rfl⟩
  have Hn6 := Lib.hid hn6
  have HLn6 : Hid (n6 < PP) := Lib.hid (by rw [← hn6]; exact Nat.mod_lt _ (by decide))
  clear hn6
  obtain ⟨n7, hn7⟩ : ∃ x_ : Nat, (Yq1 * Zq2) % PP = x_ := ⟨_, rfl⟩
  have Hn7 := Lib.hid hn7
  have HLn7 : Hid (n7 < PP) := Lib.hid (by rw [← hn7]; exact Nat.mod_lt _ (by decide))
  clear hn7
  obtain ⟨n8, hn8⟩ : ∃ x_ : Nat, (Yq2 * Zq1) % PP = x_ := ⟨_, rfl⟩
  have Hn8 := Lib.hid hn8
  have HLn8 : Hid (n8 < PP) := Lib.hid (by rw [← hn8]; exact Nat.mod_lt _ (by decide))
  clear hn8
  by_cases h1 : n5 = n6
  · have HA := Lib.hid h1
    clear h1
    by_cases h2 : n7 = n8
    · have HD := Lib.hid h2
      clear h2
      refine wp_region_noPanic ?_
      refine wp_region_held_drew (S := fun W => Below Wq4.heap.size Wq4 W) (by kernel_rfl) (by exact (Below.refl _ _).drew) (fun hS => ?_)
      refine' take_at 0 rfl (by kernel_rfl) (by kernel_rfl) (by kernel_rfl) (fun _ _ _ h => h) (by rfl) hS ?_ ?_ ?_
      rotate_left 2
      · intro W hSW; go_simp; try with_reducible rfl
      · simp only [List.set_cons_succ, List.set_cons_zero]; rfl
      refine' take_at 1 rfl (by kernel_rfl) (by kernel_rfl) (by kernel_rfl) (fun _ _ _ h => h) (by rfl) hS ?_ ?_ ?_
      rotate_left 2
      · intro W hSW; exact run_loadP rfl rfl (HRq4_1.out.below hSW).tail.head Try.underlying26 rfl (C.base.info Raq1.out) pp_0
      · simp only [List.set_cons_succ, List.set_cons_zero]; rfl
      refine' take_at 2 rfl (by kernel_rfl) (by kernel_rfl) (by kernel_rfl) (fun _ _ _ h => h) (by rfl) hS ?_ ?_ ?_
      rotate_left 2
      · intro W hSW; go_simp; try with_reducible rfl
      · simp only [List.set_cons_succ, List.set_cons_zero]; rfl
      refine' take_at 3 rfl (by kernel_rfl) (by kernel_rfl) (by kernel_rfl) (fun _ _ _ h => h) (by rfl) hS ?_ ?_ ?_
      rotate_left 2
      · intro W hSW; exact run_loadP rfl rfl (HRq4_1.out.below hSW).head Try.underlying26 rfl (C.base.info Rdq2.out) (pp_2 (fe5 C.base Raq2.out) (fe5 C.base Rbq2.out))
      · simp only [List.set_cons_succ, List.set_cons_zero]; rfl
      refine' take_at 5 rfl (by kernel_rfl) (by kernel_rfl) (by kernel_rfl) (fun _ _ _ h => h) (by rfl) hS ?_ ?_ ?_
      rotate_left 2
      · intro W hSW; go_simp; try with_reducible rfl
      · simp only [List.set_cons_succ, List.set_cons_zero]; rfl
      refine' take_at 6 rfl (by kernel_rfl) (by kernel_rfl) (by kernel_rfl) (fun _ _ _ h => h) (by rfl) hS ?_ ?_ ?_
      rotate_left 2
      · intro W hSW; exact run_loadP rfl rfl (HRq4_1.out.below hSW).head Try.underlying26 rfl (C.base.info Raq2.out) pp_0
      · simp only [List.set_cons_succ, List.set_cons_zero]; rfl
      refine' take_at 7 rfl (by kernel_rfl) (by kernel_rfl) (by kernel_rfl) (fun _ _ _ h => h) (by rfl) hS ?_ ?_ ?_
      rotate_left 2
      · intro W hSW; go_simp; try with_reducible rfl
      · simp only [List.set_cons_succ, List.set_cons_zero]; rfl
      refine' take_at 8 rfl (by kernel_rfl) (by kernel_rfl) (by kernel_rfl) (fun _ _ _ h => h) (by rfl) hS ?_ ?_ ?_
      rotate_left 2
      · intro W hSW; exact run_loadP rfl rfl (HRq4_1.out.below hSW).tail.head Try.underlying26 rfl (C.base.info Rdq1.out) (pp_2 (fe5 C.base Raq1.out) (fe5 C.base Rbq1.out))
      · simp only [List.set_cons_succ, List.set_cons_zero]; rfl
      refine call_at 4 rfl (by kernel_rfl) (by rfl) (fun K hK => ?_)
      go_simp
      with_reducible refine ((C.mul Raq1.out Rdq2.out) _).mono ?_
      rintro e vq9 ⟨cq9, rfl, rq9, hbq9⟩
      rw [Hn5.out] at rq9
      have Rq9 := Lib.hid rq9
      clear rq9
      have kbq9 := below_next hS hbq9
      clear hS hbq9
      refine hK.out _ _ (by exact kbq9) (fun hS => ?_)
      clear hK K
      refine call_at 9 rfl (by kernel_rfl) (by rfl) (fun K hK => ?_)
      go_simp
      with_reducible refine ((C.mul Raq2.out Rdq1.out) _).mono ?_
      rintro e vq10 ⟨cq10, rfl, rq10, hbq10⟩
      rw [Hn6.out] at rq10
      have Rq10 := Lib.hid rq10
      clear rq10
      have kbq10 := below_next kbq9 hbq10
      clear hS hbq10
      refine hK.out _ _ (by exact kbq10) (fun hS => ?_)
      clear hK K
      refine call_at 10 rfl (by kernel_rfl) (by rfl) (fun K hK => ?_)
      go_simp
      have kq11 := fun W : World => (C.equal Rq9.out Rq10.out) W
      rw [decide_eq_true (show n5 = n6 from HA.out)] at kq11
      have Kq11 := Lib.hid kq11
      clear kq11
      with_reducible refine (Kq11.out _).mono ?_
      rintro e vq11 ⟨rfl, hbq11⟩
      have kbq11 := below_next kbq10 hbq11
      clear hS hbq11
      refine hK.out _ _ (by exact kbq11) (fun hS => ?_)
      clear hK K
      refine' take_at 11 rfl (by kernel_rfl) (by kernel_rfl) (by kernel_rfl) (fun _ _ _ h => h) (by rfl) hS ?_ ?_ ?_
      rotate_left 2
      · intro W hSW; go_simp; try with_reducible rfl
      · simp only [List.set_cons_succ, List.set_cons_zero]; rfl
      refine' take_at 12 rfl (by kernel_rfl) (by kernel_rfl) (by kernel_rfl) (fun _ _ _ h => h) (by rfl) hS ?_ ?_ ?_
      rotate_left 2
      · intro W hSW; go_simp; try with_reducible rfl
      · simp only [List.set_cons_succ, List.set_cons_zero]; rfl
      refine' take_at 13 rfl (by kernel_rfl) (by kernel_rfl) (by kernel_rfl) (fun _ _ _ h => h) (by rfl) hS ?_ ?_ ?_
      rotate_left 2
      · intro W hSW; exact run_loadP rfl rfl (HRq4_1.out.below hSW).tail.head Try.underlying26 rfl (C.base.info Rbq1.out) (pp_1 (fe5 C.base Raq1.out))
      · simp only [List.set_cons_succ, List.set_cons_zero]; rfl
      refine' take_at 14 rfl (by kernel_rfl) (by kernel_rfl) (by kernel_rfl) (fun _ _ _ h => h) (by rfl) hS ?_ ?_ ?_
      rotate_left 2
      · intro W hSW; go_simp; try with_reducible rfl
      · simp only [List.set_cons_succ, List.set_cons_zero]; rfl
      refine' take_at 15 rfl (by kernel_rfl) (by kernel_rfl) (by kernel_rfl) (fun _ _ _ h => h) (by rfl) hS ?_ ?_ ?_
      rotate_left 2
      · intro W hSW; exact run_loadP rfl rfl (HRq4_1.out.below hSW).head Try.underlying26 rfl (C.base.info Rdq2.out) (pp_2 (fe5 C.base Raq2.out) (fe5 C.base Rbq2.out))
      · simp only [List.set_cons_succ, List.set_cons_zero]; rfl
      refine' take_at 17 rfl (by kernel_rfl) (by kernel_rfl) (by kernel_rfl) (fun _ _ _ h => h) (by rfl) hS ?_ ?_ ?_
      rotate_left 2
      · intro W hSW; go_simp; try with_reducible rfl
      · simp only [List.set_cons_succ, List.set_cons_zero]; rfl
      refine' take_at 18 rfl (by kernel_rfl) (by kernel_rfl) (by kernel_rfl) (fun _ _ _ h => h) (by rfl) hS ?_ ?_ ?_
      rotate_left 2
      · intro W hSW; exact run_loadP rfl rfl (HRq4_1.out.below hSW).head Try.underlying26 rfl (C.base.info Rbq2.out) (pp_1 (fe5 C.base Raq2.out))
      · simp only [List.set_cons_succ, List.set_cons_zero]; rfl
      refine' take_at 19 rfl (by kernel_rfl) (by kernel_rfl) (by kernel_rfl) (fun _ _ _ h => h) (by rfl) hS ?_ ?_ ?_
      rotate_left 2
      · intro W hSW; go_simp; try with_reducible rfl
      · simp only [List.set_cons_succ, List.set_cons_zero]; rfl
      refine' take_at 20 rfl (by kernel_rfl) (by kernel_rfl) (by kernel_rfl) (fun _ _ _ h => h) (by rfl) hS ?_ ?_ ?_
      rotate_left 2
      · intro W hSW; exact run_loadP rfl rfl (HRq4_1.out.below hSW).tail.head Try.underlying26 rfl (C.base.info Rdq1.out) (pp_2 (fe5 C.base Raq1.out) (fe5 C.base Rbq1.out))
      · simp only [List.set_cons_succ, List.set_cons_zero]; rfl
      refine call_at 16 rfl (by kernel_rfl) (by rfl) (fun K hK => ?_)
      go_simp
      with_reducible refine ((C.mul Rbq1.out Rdq2.out) _).mono ?_
      rintro e vq12 ⟨cq12, rfl, rq12, hbq12⟩
      rw [Hn7.out] at rq12
      have Rq12 := Lib.hid rq12
      clear rq12
      have kbq12 := below_next kbq11 hbq12
      clear hS hbq12
      refine hK.out _ _ (by exact kbq12) (fun hS => ?_)
      clear hK K
      refine call_at 21 rfl (by kernel_rfl) (by rfl) (fun K hK => ?_)
      go_simp
      with_reducible refine ((C.mul Rbq2.out Rdq1.out) _).mono ?_
      rintro e vq13 ⟨cq13, rfl, rq13, hbq13⟩
      rw [Hn8.out] at rq13
      have Rq13 := Lib.hid rq13
      clear rq13
      have kbq13 := below_next kbq12 hbq13
      clear hS hbq13
      refine hK.out _ _ (by exact kbq13) (fun hS => ?_)
      clear hK K
      refine call_at 22 rfl (by kernel_rfl) (by rfl) (fun K hK => ?_)
      go_simp
      have kq14 := fun W : World => (C.equal Rq12.out Rq13.out) W
      rw [decide_eq_true (show n7 = n8 from HD.out)] at kq14
      have Kq14 := Lib.hid kq14
      clear kq14
      with_reducible refine (Kq14.out _).mono ?_
      rintro e vq14 ⟨rfl, hbq14⟩
      have kbq14 := below_next kbq13 hbq14
      clear hS hbq14
      refine hK.out _ _ (by exact kbq14) (fun hS => ?_)
      clear hK K
      refine' take_at 23 rfl (by kernel_rfl) (by kernel_rfl) (by kernel_rfl) (fun _ _ _ h => h) (by rfl) hS ?_ ?_ ?_
      rotate_left 2
      · intro W hSW; go_simp; try with_reducible rfl
      · simp only [List.set_cons_succ, List.set_cons_zero]; rfl
      refine' take_at 24 rfl (by kernel_rfl) (by kernel_rfl) (by kernel_rfl) (fun _ _ _ h => h) (by rfl) hS ?_ ?_ ?_
      rotate_left 2
      · intro W hSW; go_simp; try with_reducible rfl
      · simp only [List.set_cons_succ, List.set_cons_zero]; rfl
      refine wpAnyH_done (by kernel_rfl) ?_ _
      refine NoPanic.normal ?_
      clear hS
      (try simp only [Act.put])
      have HRq15 := Lib.hid (HRq4_1.out.below kbq14)
      have HBq15 := Lib.hid (below_next HBq4_1.out kbq14)
      have HE := co_alike HCq1.out HCq2.out (by rw [Hn5.out, Hn6.out]; exact HA.out) (by rw [Hn7.out, Hn8.out]; exact HD.out)
      go_wp2_with fail
      go_ret
      exact ⟨by rw [HE] <;> rfl, HBq15.out⟩
    · have HD := Lib.hid h2
      clear h2
      refine wp_region_noPanic ?_
      refine wp_region_held_drew (S := fun W => Below Wq4.heap.size Wq4 W) (by kernel_rfl) (by exact (Below.refl _ _).drew) (fun hS => ?_)
      refine' take_at 0 rfl (by kernel_rfl) (by kernel_rfl) (by kernel_rfl) (fun _ _ _ h => h) (by rfl) hS ?_ ?_ ?_
      rotate_left 2
      · intro W hSW; go_simp; try with_reducible rfl
      · simp only [List.set_cons_succ, List.set_cons_zero]; rfl
      refine' take_at 1 rfl (by kernel_rfl) (by kernel_rfl) (by kernel_rfl) (fun _ _ _ h => h) (by rfl) hS ?_ ?_ ?_
      rotate_left 2
      · intro W hSW; exact run_loadP rfl rfl (HRq4_1.out.below hSW).tail.head Try.underlying26 rfl (C.base.info Raq1.out) pp_0
      · simp only [List.set_cons_succ, List.set_cons_zero]; rfl
      refine' take_at 2 rfl (by kernel_rfl) (by kernel_rfl) (by kernel_rfl) (fun _ _ _ h => h) (by rfl) hS ?_ ?_ ?_
      rotate_left 2
      · intro W hSW; go_simp; try with_reducible rfl
      · simp only [List.set_cons_succ, List.set_cons_zero]; rfl
      refine' take_at 3 rfl (by kernel_rfl) (by kernel_rfl) (by kernel_rfl) (fun _ _ _ h => h) (by rfl) hS ?_ ?_ ?_
      rotate_left 2
      · intro W hSW; exact run_loadP rfl rfl (HRq4_1.out.below hSW).head Try.underlying26 rfl (C.base.info Rdq2.out) (pp_2 (fe5 C.base Raq2.out) (fe5 C.base Rbq2.out))
      · simp only [List.set_cons_succ, List.set_cons_zero]; rfl
      refine' take_at 5 rfl (by kernel_rfl) (by kernel_rfl) (by kernel_rfl) (fun _ _ _ h => h) (by rfl) hS ?_ ?_ ?_
      rotate_left 2
      · intro W hSW; go_simp; try with_reducible rfl
      · simp only [List.set_cons_succ, List.set_cons_zero]; rfl
      refine' take_at 6 rfl (by kernel_rfl) (by kernel_rfl) (by kernel_rfl) (fun _ _ _ h => h) (by rfl) hS ?_ ?_ ?_
      rotate_left 2
      · intro W hSW; exact run_loadP rfl rfl (HRq4_1.out.below hSW).head Try.underlying26 rfl (C.base.info Raq2.out) pp_0
      · simp only [List.set_cons_succ, List.set_cons_zero]; rfl
      refine' take_at 7 rfl (by kernel_rfl) (by kernel_rfl) (by kernel_rfl) (fun _ _ _ h => h) (by rfl) hS ?_ ?_ ?_
      rotate_left 2
      · intro W hSW; go_simp; try with_reducible rfl
      · simp only [List.set_cons_succ, List.set_cons_zero]; rfl
      refine' take_at 8 rfl (by kernel_rfl) (by kernel_rfl) (by kernel_rfl) (fun _ _ _ h => h) (by rfl) hS ?_ ?_ ?_
      rotate_left 2
      · intro W hSW; exact run_loadP rfl rfl (HRq4_1.out.below hSW).tail.head Try.underlying26 rfl (C.base.info Rdq1.out) (pp_2 (fe5 C.base Raq1.out) (fe5 C.base Rbq1.out))
      · simp only [List.set_cons_succ, List.set_cons_zero]; rfl
      refine call_at 4 rfl (by kernel_rfl) (by rfl) (fun K hK => ?_)
      go_simp
      with_reducible refine ((C.mul Raq1.out Rdq2.out) _).mono ?_
      rintro e vq16 ⟨cq16, rfl, rq16, hbq16⟩
      rw [Hn5.out] at rq16
      have Rq16 := Lib.hid rq16
      clear rq16
      have kbq16 := below_next hS hbq16
      clear hS hbq16
      refine hK.out _ _ (by exact kbq16) (fun hS => ?_)
      clear hK K
      refine call_at 9 rfl (by kernel_rfl) (by rfl) (fun K hK => ?_)
      go_simp
      with_reducible refine ((C.mul Raq2.out Rdq1.out) _).mono ?_
      rintro e vq17 ⟨cq17, rfl, rq17, hbq17⟩
      rw [Hn6.out] at rq17
      have Rq17 := Lib.hid rq17
      clear rq17
      have kbq17 := below_next kbq16 hbq17
      clear hS hbq17
      refine hK.out _ _ (by exact kbq17) (fun hS => ?_)
      clear hK K
      refine call_at 10 rfl (by kernel_rfl) (by rfl) (fun K hK => ?_)
      go_simp
      have kq18 := fun W : World => (C.equal Rq16.out Rq17.out) W
      rw [decide_eq_true (show n5 = n6 from HA.out)] at kq18
      have Kq18 := Lib.hid kq18
      clear kq18
      with_reducible refine (Kq18.out _).mono ?_
      rintro e vq18 ⟨rfl, hbq18⟩
      have kbq18 := below_next kbq17 hbq18
      clear hS hbq18
      refine hK.out _ _ (by exact kbq18) (fun hS => ?_)
      clear hK K
      refine' take_at 11 rfl (by kernel_rfl) (by kernel_rfl) (by kernel_rfl) (fun _ _ _ h => h) (by rfl) hS ?_ ?_ ?_
      rotate_left 2
      · intro W hSW; go_simp; try with_reducible rfl
      · simp only [List.set_cons_succ, List.set_cons_zero]; rfl
      refine' take_at 12 rfl (by kernel_rfl) (by kernel_rfl) (by kernel_rfl) (fun _ _ _ h => h) (by rfl) hS ?_ ?_ ?_
      rotate_left 2
      · intro W hSW; go_simp; try with_reducible rfl
      · simp only [List.set_cons_succ, List.set_cons_zero]; rfl
      refine' take_at 13 rfl (by kernel_rfl) (by kernel_rfl) (by kernel_rfl) (fun _ _ _ h => h) (by rfl) hS ?_ ?_ ?_
      rotate_left 2
      · intro W hSW; exact run_loadP rfl rfl (HRq4_1.out.below hSW).tail.head Try.underlying26 rfl (C.base.info Rbq1.out) (pp_1 (fe5 C.base Raq1.out))
      · simp only [List.set_cons_succ, List.set_cons_zero]; rfl
      refine' take_at 14 rfl (by kernel_rfl) (by kernel_rfl) (by kernel_rfl) (fun _ _ _ h => h) (by rfl) hS ?_ ?_ ?_
      rotate_left 2
      · intro W hSW; go_simp; try with_reducible rfl
      · simp only [List.set_cons_succ, List.set_cons_zero]; rfl
      refine' take_at 15 rfl (by kernel_rfl) (by kernel_rfl) (by kernel_rfl) (fun _ _ _ h => h) (by rfl) hS ?_ ?_ ?_
      rotate_left 2
      · intro W hSW; exact run_loadP rfl rfl (HRq4_1.out.below hSW).head Try.underlying26 rfl (C.base.info Rdq2.out) (pp_2 (fe5 C.base Raq2.out) (fe5 C.base Rbq2.out))
      · simp only [List.set_cons_succ, List.set_cons_zero]; rfl
      refine' take_at 17 rfl (by kernel_rfl) (by kernel_rfl) (by kernel_rfl) (fun _ _ _ h => h) (by rfl) hS ?_ ?_ ?_
      rotate_left 2
      · intro W hSW; go_simp; try with_reducible rfl
      · simp only [List.set_cons_succ, List.set_cons_zero]; rfl
      refine' take_at 18 rfl (by kernel_rfl) (by kernel_rfl) (by kernel_rfl) (fun _ _ _ h => h) (by rfl) hS ?_ ?_ ?_
      rotate_left 2
      · intro W hSW; exact run_loadP rfl rfl (HRq4_1.out.below hSW).head Try.underlying26 rfl (C.base.info Rbq2.out) (pp_1 (fe5 C.base Raq2.out))
      · simp only [List.set_cons_succ, List.set_cons_zero]; rfl
      refine' take_at 19 rfl (by kernel_rfl) (by kernel_rfl) (by kernel_rfl) (fun _ _ _ h => h) (by rfl) hS ?_ ?_ ?_
      rotate_left 2
      · intro W hSW; go_simp; try with_reducible rfl
      · simp only [List.set_cons_succ, List.set_cons_zero]; rfl
      refine' take_at 20 rfl (by kernel_rfl) (by kernel_rfl) (by kernel_rfl) (fun _ _ _ h => h) (by rfl) hS ?_ ?_ ?_
      rotate_left 2
      · intro W hSW; exact run_loadP rfl rfl (HRq4_1.out.below hSW).tail.head Try.underlying26 rfl (C.base.info Rdq1.out) (pp_2 (fe5 C.base Raq1.out) (fe5 C.base Rbq1.out))
      · simp only [List.set_cons_succ, List.set_cons_zero]; rfl
      refine call_at 16 rfl (by kernel_rfl) (by rfl) (fun K hK => ?_)
      go_simp
      with_reducible refine ((C.mul Rbq1.out Rdq2.out) _).mono ?_
      rintro e vq19 ⟨cq19, rfl, rq19, hbq19⟩
      rw [Hn7.out] at rq19
      have Rq19 := Lib.hid rq19
      clear rq19
      have kbq19 := below_next kbq18 hbq19
      clear hS hbq19
      refine hK.out _ _ (by exact kbq19) (fun hS => ?_)
      clear hK K
      refine call_at 21 rfl (by kernel_rfl) (by rfl) (fun K hK => ?_)
      go_simp
      with_reducible refine ((C.mul Rbq2.out Rdq1.out) _).mono ?_
      rintro e vq20 ⟨cq20, rfl, rq20, hbq20⟩
      rw [Hn8.out] at rq20
      have Rq20 := Lib.hid rq20
      clear rq20
      have kbq20 := below_next kbq19 hbq20
      clear hS hbq20
      refine hK.out _ _ (by exact kbq20) (fun hS => ?_)
      clear hK K
      refine call_at 22 rfl (by kernel_rfl) (by rfl) (fun K hK => ?_)
      go_simp
      have kq21 := fun W : World => (C.equal Rq19.out Rq20.out) W
      rw [decide_eq_false (show ¬ n7 = n8 from HD.out)] at kq21
      have Kq21 := Lib.hid kq21
      clear kq21
      with_reducible refine (Kq21.out _).mono ?_
      rintro e vq21 ⟨rfl, hbq21⟩
      have kbq21 := below_next kbq20 hbq21
      clear hS hbq21
      refine hK.out _ _ (by exact kbq21) (fun hS => ?_)
      clear hK K
      refine' take_at 23 rfl (by kernel_rfl) (by kernel_rfl) (by kernel_rfl) (fun _ _ _ h => h) (by rfl) hS ?_ ?_ ?_
      rotate_left 2
      · intro W hSW; go_simp; try with_reducible rfl
      · simp only [List.set_cons_succ, List.set_cons_zero]; rfl
      refine' take_at 24 rfl (by kernel_rfl) (by kernel_rfl) (by kernel_rfl) (fun _ _ _ h => h) (by rfl) hS ?_ ?_ ?_
      rotate_left 2
      · intro W hSW; go_simp; try with_reducible rfl
      · simp only [List.set_cons_succ, List.set_cons_zero]; rfl
      refine wpAnyH_done (by kernel_rfl) ?_ _
      refine NoPanic.normal ?_
      clear hS
      (try simp only [Act.put])
      have HRq22 := Lib.hid (HRq4_1.out.below kbq21)
      have HBq22 := Lib.hid (below_next HBq4_1.out kbq21)
      have HE := co_alikeY HCq1.out HCq2.out (by rw [Hn7.out, Hn8.out]; exact HD.out)
      go_wp2_with fail
      go_ret
      exact ⟨by rw [HE] <;> rfl, HBq22.out⟩
  · have HA := Lib.hid h1
    clear h1
    refine wp_region_noPanic ?_
    refine wp_region_held_drew (S := fun W => Below Wq4.heap.size Wq4 W) (by kernel_rfl) (by exact (Below.refl _ _).drew) (fun hS => ?_)
    refine' take_at 0 rfl (by kernel_rfl) (by kernel_rfl) (by kernel_rfl) (fun _ _ _ h => h) (by rfl) hS ?_ ?_ ?_
    rotate_left 2
    · intro W hSW; go_simp; try with_reducible rfl
    · simp only [List.set_cons_succ, List.set_cons_zero]; rfl
    refine' take_at 1 rfl (by kernel_rfl) (by kernel_rfl) (by kernel_rfl) (fun _ _ _ h => h) (by rfl) hS ?_ ?_ ?_
    rotate_left 2
    · intro W hSW; exact run_loadP rfl rfl (HRq4_1.out.below hSW).tail.head Try.underlying26 rfl (C.base.info Raq1.out) pp_0
    · simp only [List.set_cons_succ, List.set_cons_zero]; rfl
    refine' take_at 2 rfl (by kernel_rfl) (by kernel_rfl) (by kernel_rfl) (fun _ _ _ h => h) (by rfl) hS ?_ ?_ ?_
    rotate_left 2
    · intro W hSW; go_simp; try with_reducible rfl
    · simp only [List.set_cons_succ, List.set_cons_zero]; rfl
    refine' take_at 3 rfl (by kernel_rfl) (by kernel_rfl) (by kernel_rfl) (fun _ _ _ h => h) (by rfl) hS ?_ ?_ ?_
    rotate_left 2
    · intro W hSW; exact run_loadP rfl rfl (HRq4_1.out.below hSW).head Try.underlying26 rfl (C.base.info Rdq2.out) (pp_2 (fe5 C.base Raq2.out) (fe5 C.base Rbq2.out))
    · simp only [List.set_cons_succ, List.set_cons_zero]; rfl
    refine' take_at 5 rfl (by kernel_rfl) (by kernel_rfl) (by kernel_rfl) (fun _ _ _ h => h) (by rfl) hS ?_ ?_ ?_
    rotate_left 2
    · intro W hSW; go_simp; try with_reducible rfl
    · simp only [List.set_cons_succ, List.set_cons_zero]; rfl
    refine' take_at 6 rfl (by kernel_rfl) (by kernel_rfl) (by kernel_rfl) (fun _ _ _ h => h) (by rfl) hS ?_ ?_ ?_
    rotate_left 2
    · intro W hSW; exact run_loadP rfl rfl (HRq4_1.out.below hSW).head Try.underlying26 rfl (C.base.info Raq2.out) pp_0
    · simp only [List.set_cons_succ, List.set_cons_zero]; rfl
    refine' take_at 7 rfl (by kernel_rfl) (by kernel_rfl) (by kernel_rfl) (fun _ _ _ h => h) (by rfl) hS ?_ ?_ ?_
    rotate_left 2
    · intro W hSW; go_simp; try with_reducible rfl
    · simp only [List.set_cons_succ, List.set_cons_zero]; rfl
    refine' take_at 8 rfl (by kernel_rfl) (by kernel_rfl) (by kernel_rfl) (fun _ _ _ h => h) (by rfl) hS ?_ ?_ ?_
    rotate_left 2
    · intro W hSW; exact run_loadP rfl rfl (HRq4_1.out.below hSW).tail.head Try.underlying26 rfl (C.base.info Rdq1.out) (pp_2 (fe5 C.base Raq1.out) (fe5 C.base Rbq1.out))
    · simp only [List.set_cons_succ, List.set_cons_zero]; rfl
    refine call_at 4 rfl (by kernel_rfl) (by rfl) (fun K hK => ?_)
    go_simp
    with_reducible refine ((C.mul Raq1.out Rdq2.out) _).mono ?_
    rintro e vq23 ⟨cq23, rfl, rq23, hbq23⟩
    rw [Hn5.out] at rq23
    have Rq23 := Lib.hid rq23
    clear rq23
    have kbq23 := below_next hS hbq23
    clear hS hbq23
    refine hK.out _ _ (by exact kbq23) (fun hS => ?_)
    clear hK K
    refine call_at 9 rfl (by kernel_rfl) (by rfl) (fun K hK => ?_)
    go_simp
    with_reducible refine ((C.mul Raq2.out Rdq1.out) _).mono ?_
    rintro e vq24 ⟨cq24, rfl, rq24, hbq24⟩
    rw [Hn6.out] at rq24
    have Rq24 := Lib.hid rq24
    clear rq24
    have kbq24 := below_next kbq23 hbq24
    clear hS hbq24
    refine hK.out _ _ (by exact kbq24) (fun hS => ?_)
    clear hK K
    refine call_at 10 rfl (by kernel_rfl) (by rfl) (fun K hK => ?_)
    go_simp
    have kq25 := fun W : World => (C.equal Rq23.out Rq24.out) W
    rw [decide_eq_false (show ¬ n5 = n6 from HA.out)] at kq25
    have Kq25 := Lib.hid kq25
    clear kq25
    with_reducible refine (Kq25.out _).mono ?_
    rintro e vq25 ⟨rfl, hbq25⟩
    have kbq25 := below_next kbq24 hbq25
    clear hS hbq25
    refine hK.out _ _ (by exact kbq25) (fun hS => ?_)
    clear hK K
    refine' take_at 11 rfl (by kernel_rfl) (by kernel_rfl) (by kernel_rfl) (fun _ _ _ h => h) (by rfl) hS ?_ ?_ ?_
    rotate_left 2
    · intro W hSW; go_simp; try with_reducible rfl
    · simp only [List.set_cons_succ, List.set_cons_zero]; rfl
    refine' skip_at 12 rfl (by kernel_rfl) (by kernel_rfl) (by kernel_rfl) (fun _ _ _ h => h) (by rfl) hS ?_ ?_
    rotate_left 1
    · simp only [List.set_cons_succ, List.set_cons_zero]; rfl
    refine' skip_at 13 rfl (by kernel_rfl) (by kernel_rfl) (by kernel_rfl) (fun _ _ _ h => h) (by rfl) hS ?_ ?_
    rotate_left 1
    · simp only [List.set_cons_succ, List.set_cons_zero]; rfl
    refine' skip_at 14 rfl (by kernel_rfl) (by kernel_rfl) (by kernel_rfl) (fun _ _ _ h => h) (by rfl) hS ?_ ?_
    rotate_left 1
    · simp only [List.set_cons_succ, List.set_cons_zero]; rfl
    refine' skip_at 15 rfl (by kernel_rfl) (by kernel_rfl) (by kernel_rfl) (fun _ _ _ h => h) (by rfl) hS ?_ ?_
    rotate_left 1
    · simp only [List.set_cons_succ, List.set_cons_zero]; rfl
    refine' skip_at 16 rfl (by kernel_rfl) (by kernel_rfl) (by kernel_rfl) (fun _ _ _ h => h) (by rfl) hS ?_ ?_
    rotate_left 1
    · simp only [List.set_cons_succ, List.set_cons_zero]; rfl
    refine' skip_at 17 rfl (by kernel_rfl) (by kernel_rfl) (by kernel_rfl) (fun _ _ _ h => h) (by rfl) hS ?_ ?_
    rotate_left 1
    · simp only [List.set_cons_succ, List.set_cons_zero]; rfl
    refine' skip_at 18 rfl (by kernel_rfl) (by kernel_rfl) (by kernel_rfl) (fun _ _ _ h => h) (by rfl) hS ?_ ?_
    rotate_left 1
    · simp only [List.set_cons_succ, List.set_cons_zero]; rfl
    refine' skip_at 19 rfl (by kernel_rfl) (by kernel_rfl) (by kernel_rfl) (fun _ _ _ h => h) (by rfl) hS ?_ ?_
    rotate_left 1
    · simp only [List.set_cons_succ, List.set_cons_zero]; rfl
    refine' skip_at 20 rfl (by kernel_rfl) (by kernel_rfl) (by kernel_rfl) (fun _ _ _ h => h) (by rfl) hS ?_ ?_
    rotate_left 1
    · simp only [List.set_cons_succ, List.set_cons_zero]; rfl
    refine' skip_at 21 rfl (by kernel_rfl) (by kernel_rfl) (by kernel_rfl) (fun _ _ _ h => h) (by rfl) hS ?_ ?_
    rotate_left 1
    · simp only [List.set_cons_succ, List.set_cons_zero]; rfl
    refine' skip_at 22 rfl (by kernel_rfl) (by kernel_rfl) (by kernel_rfl) (fun _ _ _ h => h) (by rfl) hS ?_ ?_
    rotate_left 1
    · simp only [List.set_cons_succ, List.set_cons_zero]; rfl
    refine' take_at 23 rfl (by kernel_rfl) (by kernel_rfl) (by kernel_rfl) (fun _ _ _ h => h) (by rfl) hS ?_ ?_ ?_
    rotate_left 2
    · intro W hSW; go_simp; try with_reducible rfl
    · simp only [List.set_cons_succ, List.set_cons_zero]; rfl
    refine' take_at 24 rfl (by kernel_rfl) (by kernel_rfl) (by kernel_rfl) (fun _ _ _ h => h) (by rfl) hS ?_ ?_ ?_
    rotate_left 2
    · intro W hSW; go_simp; try with_reducible rfl
    · simp only [List.set_cons_succ, List.set_cons_zero]; rfl
    refine wpAnyH_done (by kernel_rfl) ?_ _
    refine NoPanic.normal ?_
    clear hS
    (try simp only [Act.put])
    have HRq26 := Lib.hid (HRq4_1.out.below kbq25)
    have HBq26 := Lib.hid (below_next HBq4_1.out kbq25)
    have HE := co_alikeX HCq1.out HCq2.out (by rw [Hn5.out, Hn6.out]; exact HA.out)
    go_wp2_with fail
    go_ret
    exact ⟨by rw [HE] <;> rfl, HBq26.out⟩
end Go.Proofs.Ytfejabfmhddepaa

