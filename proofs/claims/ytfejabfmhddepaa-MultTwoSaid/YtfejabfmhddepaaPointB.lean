/- The landed package point: d, of, Zero, Base, filled, ratios, Neg. Written by wip/tools/mk_point12.py. -/
import Derived.Test.YtfejabfmhddepaaPointA
import Derived.Test.YtfejabfmhddepaaGheld
namespace Go.Proofs.Ytfejabfmhddepaa
open Go.RowKit
set_option linter.unusedVariables false
set_option maxRecDepth 100000

set_option maxHeartbeats 1600000 in
theorem ptd_any {R : Array Value → Nat → Prop} (C : FeC R)  (w : World) : Calls Try.prog 55 #[] w (RetFe R w edN) := by
  obtain ⟨Z, hZ, rZ⟩ := C.base.zero
  have RZZ := Lib.hid rZ
  have hzP := zp_of hZ
  have hz32 := zero32_zero
  clear rZ
  have HR0 := Lib.hid ((RowsW.nil w).box Z 26)
  have HB0 := Lib.hid (below_box (Below.refl w.heap.size w) Z 26)
  go_enter Try.func55, Try.ntmps55
  go_upto_region 1 with fail
  obtain ⟨W0, hW0⟩ : ∃ W, (w.alloc (.cells Z 26)) = W := ⟨_, rfl⟩
  obtain ⟨g0, hg0⟩ : ∃ g, w.heap.size = g := ⟨_, rfl⟩
  rw [hW0] at HR0 HB0
  rw [hg0] at HR0
  rw [hW0, hg0]
  have HG0 := Lib.hid hg0
  clear hW0 hg0
  go_wp2_with (refine wpList_runs (o := ⟨some 1, _, _, _, _, _⟩) rfl (.agg (arrB bD)) ?_ ?_; kernel_rfl)
  have fb2 : ∀ W : World, Calls Try.prog 65 #[.agg (arrB bD)] W (RetFe R W edN) := fun W => by have h := C.from_ bD bD_len W; rw [bD_fe] at h; exact h
  with_reducible refine (fb2 _).mono ?_
  rintro e vq1 ⟨cq1, rfl, rq1, hbq1⟩
  have Rq1 := Lib.hid rq1
  clear rq1
  have HRq1 := Lib.hid (HR0.out.below hbq1)
  have HBq1 := Lib.hid (below_next HB0.out hbq1)
  clear hbq1
  have lsq2 := HRq1.out.head
  have HRq2 : Hid (RowsW (vq1.setRow g0 cq1) [(g0, cq1, 26)]) := Lib.hid ⟨setRow_heap _ _ _ _ _ _ lsq2, trivial⟩
  have HBq2 := Lib.hid (below_row (g := g0) (cs := cq1) HBq1.out (by have := HG0.out; omega))
  go_wp2_with (refine wpList_store_row rfl 26 (.tmp 0) (.tmp 2) rfl g0 cq1 rfl rfl 26 Z lsq2 (C.base.info Rq1.out) (C.base.size RZZ.out Rq1.out) (C.base.one Rq1.out) ?_)
  obtain ⟨Wq2, hWq2⟩ : ∃ W, vq1.setRow g0 cq1 = W := ⟨_, rfl⟩
  rw [hWq2] at HRq2 HBq2
  (try rw [hWq2])
  clear hWq2 lsq2
  (try simp only [Exit.inBlock, Exit.then])
  refine bodyPost_ret (results_cell_row rfl _ _ g0 _ cq1 _ _ rfl HRq2.out.head Try.underlying26 rfl (C.base.info Rq1.out)) rfl ?_
  exact ⟨_, rfl, Rq1.out, HBq2.out⟩
set_option maxHeartbeats 1600000 in
theorem ptof_any {R : Array Value → Nat → Prop} (C : FeC R) {c : Array Value} {x : Nat} (hc : R c x) {e : Array Value} {y : Nat} (he : R e y) (w : World) : Calls Try.prog 58 #[.agg c, .agg e] w (RetPP R w x y 1 ((x * y) % PP)) := by
  have Rc := Lib.hid hc
  clear hc
  have Lx : Hid (x < PP) := Lib.hid (C.base.lt Rc.out)
  have Re := Lib.hid he
  clear he
  have Ly : Hid (y < PP) := Lib.hid (C.base.lt Re.out)
  obtain ⟨Z, hZ, rZ⟩ := C.base.zero
  have RZZ := Lib.hid rZ
  have hzP := zp_of hZ
  have hz32 := zero32_zero
  clear rZ
  have HR0 := Lib.hid ((((RowsW.nil w).box c 26).box e 26).box (quad Z Z Z Z) 28)
  have HB0 := Lib.hid (below_box (below_box (below_box (Below.refl w.heap.size w) c 26) e 26) (quad Z Z Z Z) 28)
  rw [World.size_alloc] at HR0
  rw [World.size_alloc] at HR0
  go_enter Try.func58, Try.ntmps58
  go_upto_region 1 with fail
  obtain ⟨W0, hW0⟩ : ∃ W, (((w.alloc (.cells c 26)).alloc (.cells e 26)).alloc (.cells (quad Z Z Z Z) 28)) = W := ⟨_, rfl⟩
  obtain ⟨g0, hg0⟩ : ∃ g, w.heap.size = g := ⟨_, rfl⟩
  rw [hW0] at HR0 HB0
  rw [hg0] at HR0
  rw [hW0, hg0]
  have HG0 := Lib.hid hg0
  clear hW0 hg0
  refine wp_region_noPanic ?_
  refine wp_region_held_tail (S := fun W => Below W0.heap.size W0 W) 7 (by kernel_rfl) ⟨by kernel_rfl, by kernel_rfl, by kernel_rfl, by kernel_rfl⟩ (by exact (Below.refl _ _).drew) (fun hT inv hS => ?_)
  refine' take_atT 0 hT inv rfl (by omega) (by kernel_rfl) (by kernel_rfl) (fun _ _ _ h => h) (by rfl) hS ?_ ?_ ?_
  rotate_left 2
  · intro W hSW; exact run_loadR rfl rfl (HR0.out.below hSW).tail.tail.head Try.underlying26 rfl (C.base.info Rc.out)
  · simp only [List.set_cons_succ, List.set_cons_zero]; rfl
  intro inv
  refine' take_atT 1 hT inv rfl (by omega) (by kernel_rfl) (by kernel_rfl) (fun _ _ _ h => h) (by rfl) hS ?_ ?_ ?_
  rotate_left 2
  · intro W hSW; exact run_loadR rfl rfl (HR0.out.below hSW).tail.head Try.underlying26 rfl (C.base.info Re.out)
  · simp only [List.set_cons_succ, List.set_cons_zero]; rfl
  intro inv
  refine' take_atT 3 hT inv rfl (by omega) (by kernel_rfl) (by kernel_rfl) (fun _ _ _ h => h) (by rfl) hS ?_ ?_ ?_
  rotate_left 2
  · intro W hSW; exact run_loadR rfl rfl (HR0.out.below hSW).tail.tail.head Try.underlying26 rfl (C.base.info Rc.out)
  · simp only [List.set_cons_succ, List.set_cons_zero]; rfl
  intro inv
  refine' take_atT 4 hT inv rfl (by omega) (by kernel_rfl) (by kernel_rfl) (fun _ _ _ h => h) (by rfl) hS ?_ ?_ ?_
  rotate_left 2
  · intro W hSW; exact run_loadR rfl rfl (HR0.out.below hSW).tail.head Try.underlying26 rfl (C.base.info Re.out)
  · simp only [List.set_cons_succ, List.set_cons_zero]; rfl
  intro inv
  refine call_atT 2 inv rfl (by omega) (by kernel_rfl) (by rfl) (fun K hK => ?_)
  go_simp
  have s7_1 : ∀ W : World, Calls Try.prog 59 #[.int .u64 1] W (RetFe R W 1) := fun W => C.small 1 (by decide) W
  with_reducible refine (s7_1 _).mono ?_
  rintro e vq1 ⟨cq1, rfl, rq1, hbq1⟩
  have Rq1 := Lib.hid rq1
  clear rq1
  have kbq1 := below_next hS hbq1
  clear hS hbq1
  refine hK.out _ _ (by exact kbq1) (fun inv hS => ?_)
  clear hK K
  refine call_atT 5 inv rfl (by omega) (by kernel_rfl) (by rfl) (fun K hK => ?_)
  go_simp
  obtain ⟨n2, hn2⟩ : ∃ x_ : Nat, (x * y) % PP = x_ := ⟨_, rfl⟩
  have Hn2 := Lib.hid hn2
  have HLn2 : Hid (n2 < PP) := Lib.hid (by rw [← hn2]; exact Nat.mod_lt _ (by decide))
  clear hn2
  with_reducible refine ((C.mul Rc.out Re.out) _).mono ?_
  rintro e vq3 ⟨cq3, rfl, rq3, hbq3⟩
  rw [Hn2.out] at rq3
  have Rq3 := Lib.hid rq3
  clear rq3
  have kbq3 := below_next kbq1 hbq3
  clear hS hbq3
  refine hK.out _ _ (by exact kbq3) (fun inv hS => ?_)
  clear hK K
  refine' take_atT 6 hT inv rfl (by omega) (by kernel_rfl) (by kernel_rfl) (fun _ _ _ h => h) (by rfl) hS ?_ ?_ ?_
  rotate_left 2
  · intro W hSW; exact run_buildF4 rfl rfl rfl rfl rfl (fe5 C.base Rc.out) (fe5 C.base Re.out) (fe5 C.base Rq1.out) (fe5 C.base Rq3.out)
  · simp only [List.set_cons_succ, List.set_cons_zero]; rfl
  intro inv
  refine done_atT (by kernel_rfl) ?_
  simp only [List.drop_succ_cons, List.drop_zero]
  clear hS
  (try simp only [Act.put])
  have HRq4 := Lib.hid (HR0.out.below kbq3)
  have HBq4 := Lib.hid (below_next HB0.out kbq3)
  have lsq5 := HRq4.out.head
  have HRq5 : Hid (RowsW (vq3.setRow (g0 + 1 + 1) (quad c e cq1 cq3)) [((g0 + 1 + 1), (quad c e cq1 cq3), 28), ((g0 + 1), e, 26), (g0, c, 26)]) := Lib.hid ⟨setRow_heap _ _ _ _ _ _ lsq5, (by rw [setRow_other _ _ _ _ (by omega)]; exact HRq4.out.tail.head), (by rw [setRow_other _ _ _ _ (by omega)]; exact HRq4.out.tail.tail.head), trivial⟩
  have HBq5 := Lib.hid (below_row (g := (g0 + 1 + 1)) (cs := (quad c e cq1 cq3)) HBq4.out (by have := HG0.out; omega))
  go_wp2_with (refine wpList_store_row rfl 28 (.tmp 4) (.tmp 11) rfl (g0 + 1 + 1) (quad c e cq1 cq3) rfl rfl 28 (quad Z Z Z Z) lsq5 (pp_info C.base Rc.out Re.out Rq1.out Rq3.out) ((pp_size C.base RZZ.out RZZ.out RZZ.out RZZ.out).trans (pp_size C.base Rc.out Re.out Rq1.out Rq3.out).symm) (pp_one C.base Rc.out Re.out Rq1.out Rq3.out) ?_)
  obtain ⟨Wq5, hWq5⟩ : ∃ W, vq3.setRow (g0 + 1 + 1) (quad c e cq1 cq3) = W := ⟨_, rfl⟩
  rw [hWq5] at HRq5 HBq5
  (try rw [hWq5])
  clear hWq5 lsq5
  refine NoPanic.normal ?_
  go_wp2_with fail
  (try simp only [Exit.inBlock, Exit.then])
  refine bodyPost_ret (results_cell_row rfl _ _ (g0 + 1 + 1) _ (quad c e cq1 cq3) _ _ rfl HRq5.out.head Try.underlying28 rfl (pp_info C.base Rc.out Re.out Rq1.out Rq3.out)) rfl ?_
  exact ⟨_, _, _, _, rfl, Rc.out, Re.out, Rq1.out, by rw [Hn2.out]; exact Rq3.out, HBq5.out⟩
set_option maxHeartbeats 1600000 in
theorem ptzero_any {R : Array Value → Nat → Prop} (C : FeC R)  (w : World) : Calls Try.prog 22 #[] w (RetPP R w 0 1 1 0) := by
  obtain ⟨Z, hZ, rZ⟩ := C.base.zero
  have RZZ := Lib.hid rZ
  have hzP := zp_of hZ
  have hz32 := zero32_zero
  clear rZ
  have HR0 := Lib.hid ((RowsW.nil w).box (quad Z Z Z Z) 28)
  have HB0 := Lib.hid (below_box (Below.refl w.heap.size w) (quad Z Z Z Z) 28)
  go_enter Try.func22, Try.ntmps22
  go_upto_region 1 with fail
  obtain ⟨W0, hW0⟩ : ∃ W, (w.alloc (.cells (quad Z Z Z Z) 28)) = W := ⟨_, rfl⟩
  obtain ⟨g0, hg0⟩ : ∃ g, w.heap.size = g := ⟨_, rfl⟩
  rw [hW0] at HR0 HB0
  rw [hg0] at HR0
  rw [hW0, hg0]
  have HG0 := Lib.hid hg0
  clear hW0 hg0
  go_wp2_with (refine wpList_runsV (o := ⟨some 1, _, _, _, _, _⟩) rfl (.agg Z) (run_build5 hZ rfl) ?_)
  have s2_1 : ∀ W : World, Calls Try.prog 59 #[.int .u64 1] W (RetFe R W 1) := fun W => C.small 1 (by decide) W
  with_reducible refine (s2_1 _).mono ?_
  rintro e vq1 ⟨cq1, rfl, rq1, hbq1⟩
  have Rq1 := Lib.hid rq1
  clear rq1
  have HRq1 := Lib.hid (HR0.out.below hbq1)
  have HBq1 := Lib.hid (below_next HB0.out hbq1)
  clear hbq1
  go_wp2_with fail
  obtain ⟨n2, hn2⟩ : ∃ x_ : Nat, (0 * 1) % PP = x_ := ⟨_, rfl⟩
  have Hn2 := Lib.hid hn2
  have HLn2 : Hid (n2 < PP) := Lib.hid (by rw [← hn2]; exact Nat.mod_lt _ (by decide))
  clear hn2
  have kq3 := fun W : World => (ptof_any C RZZ.out Rq1.out) W
  rw [Hn2.out] at kq3
  have Kq3 := Lib.hid kq3
  clear kq3
  with_reducible refine (Kq3.out _).mono ?_
  rintro e vq3 ⟨aq3, bq3, dq3, fq3, rfl, hRaq3, hRbq3, hRdq3, hRfq3, hbq3⟩
  have Raq3 := Lib.hid hRaq3
  have Rbq3 := Lib.hid hRbq3
  have Rdq3 := Lib.hid hRdq3
  have Rfq3 := Lib.hid hRfq3
  clear hRaq3 hRbq3 hRdq3 hRfq3
  have HRq3 := Lib.hid (HRq1.out.below hbq3)
  have HBq3 := Lib.hid (below_next HBq1.out hbq3)
  clear hbq3
  have lsq4 := HRq3.out.head
  have HRq4 : Hid (RowsW (vq3.setRow g0 (quad aq3 bq3 dq3 fq3)) [(g0, (quad aq3 bq3 dq3 fq3), 28)]) := Lib.hid ⟨setRow_heap _ _ _ _ _ _ lsq4, trivial⟩
  have HBq4 := Lib.hid (below_row (g := g0) (cs := (quad aq3 bq3 dq3 fq3)) HBq3.out (by have := HG0.out; omega))
  go_wp2_with (refine wpList_store_row rfl 28 (.tmp 0) (.tmp 3) rfl g0 (quad aq3 bq3 dq3 fq3) rfl rfl 28 (quad Z Z Z Z) lsq4 (pp_info C.base Raq3.out Rbq3.out Rdq3.out Rfq3.out) ((pp_size C.base RZZ.out RZZ.out RZZ.out RZZ.out).trans (pp_size C.base Raq3.out Rbq3.out Rdq3.out Rfq3.out).symm) (pp_one C.base Raq3.out Rbq3.out Rdq3.out Rfq3.out) ?_)
  obtain ⟨Wq4, hWq4⟩ : ∃ W, vq3.setRow g0 (quad aq3 bq3 dq3 fq3) = W := ⟨_, rfl⟩
  rw [hWq4] at HRq4 HBq4
  (try rw [hWq4])
  clear hWq4 lsq4
  (try simp only [Exit.inBlock, Exit.then])
  refine bodyPost_ret (results_cell_row rfl _ _ g0 _ (quad aq3 bq3 dq3 fq3) _ _ rfl HRq4.out.head Try.underlying28 rfl (pp_info C.base Raq3.out Rbq3.out Rdq3.out Rfq3.out)) rfl ?_
  exact ⟨_, _, _, _, rfl, Raq3.out, Rbq3.out, Rdq3.out, by have h := Rfq3.out; rwa [← Hn2.out, Nat.zero_mul, Nat.zero_mod] at h, HBq4.out⟩
set_option maxHeartbeats 1600000 in
theorem ptbase_any {R : Array Value → Nat → Prop} (C : FeC R)  (w : World) : Calls Try.prog 27 #[] w (RetPt (ptRof R) w F25519.base) := by
  obtain ⟨Z, hZ, rZ⟩ := C.base.zero
  have RZZ := Lib.hid rZ
  have hzP := zp_of hZ
  have hz32 := zero32_zero
  clear rZ
  have HR0 := Lib.hid ((RowsW.nil w).box (quad Z Z Z Z) 28)
  have HB0 := Lib.hid (below_box (Below.refl w.heap.size w) (quad Z Z Z Z) 28)
  go_enter Try.func27, Try.ntmps27
  go_upto_region 1 with fail
  obtain ⟨W0, hW0⟩ : ∃ W, (w.alloc (.cells (quad Z Z Z Z) 28)) = W := ⟨_, rfl⟩
  obtain ⟨g0, hg0⟩ : ∃ g, w.heap.size = g := ⟨_, rfl⟩
  rw [hW0] at HR0 HB0
  rw [hg0] at HR0
  rw [hW0, hg0]
  have HG0 := Lib.hid hg0
  clear hW0 hg0
  go_wp2_with (refine wpList_runs (o := ⟨some 3, _, _, _, _, _⟩) rfl (.agg (arrB bBX)) ?_ ?_; kernel_rfl)
  have fb4 : ∀ W : World, Calls Try.prog 65 #[.agg (arrB bBX)] W (RetFe R W F25519.bX) := fun W => by have h := C.from_ bBX bBX_len W; rw [bBX_fe] at h; exact h
  with_reducible refine (fb4 _).mono ?_
  rintro e vq1 ⟨cq1, rfl, rq1, hbq1⟩
  have Rq1 := Lib.hid rq1
  clear rq1
  have HRq1 := Lib.hid (HR0.out.below hbq1)
  have HBq1 := Lib.hid (below_next HB0.out hbq1)
  clear hbq1
  have h0q2 : (vq1.alloc (.cells Z 26)).heap[vq1.heap.size]? = some (.cells Z 26 (0, 0)) := heap_alloc_new _ _
  have HRq2 := Lib.hid (HRq1.out.new Z cq1 26)
  have HBq2 := Lib.hid (below_new HBq1.out Z cq1 26)
  have HNq2 := Lib.hid HRq1.out.ne
  have HGq2 := Lib.hid HBq1.out.size
  go_upto_region 2 with (refine wpList_store_row rfl 26 (.tmp 1) (.tmp 4) rfl vq1.heap.size cq1 rfl rfl 26 Z h0q2 (C.base.info Rq1.out) (C.base.size RZZ.out Rq1.out) (C.base.one Rq1.out) ?_)
  obtain ⟨Wq2, hWq2⟩ : ∃ W, (vq1.alloc (.cells Z 26)).setRow vq1.heap.size cq1 = W := ⟨_, rfl⟩
  obtain ⟨gq2, hgq2⟩ : ∃ g, vq1.heap.size = g := ⟨_, rfl⟩
  rw [hWq2, hgq2] at HRq2
  rw [hWq2] at HBq2
  rw [hgq2] at HNq2 HGq2
  rw [hWq2, hgq2]
  clear hWq2 hgq2 h0q2
  have NEq2_0 : Hid (g0 ≠ gq2) := Lib.hid (HNq2.out (g0, (quad Z Z Z Z), 28) (by simp))
  go_wp2_with (refine wpList_runs (o := ⟨some 5, _, _, _, _, _⟩) rfl (.agg (arrB bBY)) ?_ ?_; kernel_rfl)
  have fb6 : ∀ W : World, Calls Try.prog 65 #[.agg (arrB bBY)] W (RetFe R W F25519.bY) := fun W => by have h := C.from_ bBY bBY_len W; rw [bBY_fe] at h; exact h
  with_reducible refine (fb6 _).mono ?_
  rintro e vq3 ⟨cq3, rfl, rq3, hbq3⟩
  have Rq3 := Lib.hid rq3
  clear rq3
  have HRq3 := Lib.hid (HRq2.out.below hbq3)
  have HBq3 := Lib.hid (below_next HBq2.out hbq3)
  clear hbq3
  have h0q4 : (vq3.alloc (.cells Z 26)).heap[vq3.heap.size]? = some (.cells Z 26 (0, 0)) := heap_alloc_new _ _
  have HRq4 := Lib.hid (HRq3.out.new Z cq3 26)
  have HBq4 := Lib.hid (below_new HBq3.out Z cq3 26)
  have HNq4 := Lib.hid HRq3.out.ne
  have HGq4 := Lib.hid HBq3.out.size
  go_upto_region 3 with (refine wpList_store_row rfl 26 (.tmp 2) (.tmp 6) rfl vq3.heap.size cq3 rfl rfl 26 Z h0q4 (C.base.info Rq3.out) (C.base.size RZZ.out Rq3.out) (C.base.one Rq3.out) ?_)
  obtain ⟨Wq4, hWq4⟩ : ∃ W, (vq3.alloc (.cells Z 26)).setRow vq3.heap.size cq3 = W := ⟨_, rfl⟩
  obtain ⟨gq4, hgq4⟩ : ∃ g, vq3.heap.size = g := ⟨_, rfl⟩
  rw [hWq4, hgq4] at HRq4
  rw [hWq4] at HBq4
  rw [hgq4] at HNq4 HGq4
  rw [hWq4, hgq4]
  clear hWq4 hgq4 h0q4
  have NEq4_0 : Hid (g0 ≠ gq4) := Lib.hid (HNq4.out (g0, (quad Z Z Z Z), 28) (by simp))
  have NEq4_1 : Hid (gq2 ≠ gq4) := Lib.hid (HNq4.out (gq2, cq1, 26) (by simp))
  have l5 := HRq4.out.tail.head
  have l6 := HRq4.out.head
  go_wp2_with (first
      | (refine wpList_load_row rfl 26 (.tmp 1) rfl gq2 rfl 26 cq1 (0, 0) _ l5 Try.underlying26 rfl (C.base.info Rq1.out) ?_)
      | (refine wpList_load_row rfl 26 (.tmp 2) rfl gq4 rfl 26 cq3 (0, 0) _ l6 Try.underlying26 rfl (C.base.info Rq3.out) ?_))
  obtain ⟨n7, hn7⟩ : ∃ x_ : Nat, (F25519.bX * F25519.bY) % PP = x_ := ⟨_, rfl⟩
  have Hn7 := Lib.hid hn7
  have HLn7 : Hid (n7 < PP) := Lib.hid (by rw [← hn7]; exact Nat.mod_lt _ (by decide))
  clear hn7
  have kq8 := fun W : World => (ptof_any C Rq1.out Rq3.out) W
  rw [Hn7.out] at kq8
  have Kq8 := Lib.hid kq8
  clear kq8
  with_reducible refine (Kq8.out _).mono ?_
  rintro e vq8 ⟨aq8, bq8, dq8, fq8, rfl, hRaq8, hRbq8, hRdq8, hRfq8, hbq8⟩
  have Raq8 := Lib.hid hRaq8
  have Rbq8 := Lib.hid hRbq8
  have Rdq8 := Lib.hid hRdq8
  have Rfq8 := Lib.hid hRfq8
  clear hRaq8 hRbq8 hRdq8 hRfq8
  have HRq8 := Lib.hid (HRq4.out.below hbq8)
  have HBq8 := Lib.hid (below_next HBq4.out hbq8)
  clear hbq8
  have lsq9 := HRq8.out.tail.tail.head
  have HRq9 : Hid (RowsW (vq8.setRow g0 (quad aq8 bq8 dq8 fq8)) [(gq4, cq3, 26), (gq2, cq1, 26), (g0, (quad aq8 bq8 dq8 fq8), 28)]) := Lib.hid ⟨(by rw [setRow_other _ _ _ _ (Ne.symm NEq4_0.out)]; exact HRq8.out.head), (by rw [setRow_other _ _ _ _ (Ne.symm NEq2_0.out)]; exact HRq8.out.tail.head), setRow_heap _ _ _ _ _ _ lsq9, trivial⟩
  have HBq9 := Lib.hid (below_row (g := g0) (cs := (quad aq8 bq8 dq8 fq8)) HBq8.out (by have := HG0.out; omega))
  go_wp2_with (refine wpList_store_row rfl 28 (.tmp 0) (.tmp 9) rfl g0 (quad aq8 bq8 dq8 fq8) rfl rfl 28 (quad Z Z Z Z) lsq9 (pp_info C.base Raq8.out Rbq8.out Rdq8.out Rfq8.out) ((pp_size C.base RZZ.out RZZ.out RZZ.out RZZ.out).trans (pp_size C.base Raq8.out Rbq8.out Rdq8.out Rfq8.out).symm) (pp_one C.base Raq8.out Rbq8.out Rdq8.out Rfq8.out) ?_)
  obtain ⟨Wq9, hWq9⟩ : ∃ W, vq8.setRow g0 (quad aq8 bq8 dq8 fq8) = W := ⟨_, rfl⟩
  rw [hWq9] at HRq9 HBq9
  (try rw [hWq9])
  clear hWq9 lsq9
  (try simp only [Exit.inBlock, Exit.then])
  refine bodyPost_ret (results_cell_row rfl _ _ g0 _ (quad aq8 bq8 dq8 fq8) _ _ rfl HRq9.out.tail.tail.head Try.underlying28 rfl (pp_info C.base Raq8.out Rbq8.out Rdq8.out Rfq8.out)) rfl ?_
  exact ⟨_, rfl, ⟨_, _, _, _, _, _, _, _, rfl, Raq8.out, Rbq8.out, Rdq8.out, Rfq8.out, .inl (by rw [← Hn7.out]; exact base_co)⟩, HBq9.out⟩
set_option maxHeartbeats 1600000 in
theorem ptfilled_any {R : Array Value → Nat → Prop} (C : FeC R) {a1 b1 d1 f1 : Array Value} {X1 Y1 Z1 T1 : Nat} {p1 : PtD} (ha1 : R a1 X1) (hb1 : R b1 Y1) (hd1 : R d1 Z1) (hf1 : R f1 T1) (hP1 : Pq X1 Y1 Z1 T1 p1) (w : World) : Calls Try.prog 36 #[.agg (quad a1 b1 d1 f1)] w (RetCo R w p1) := by
  have Ra1 := Lib.hid ha1
  have Rb1 := Lib.hid hb1
  have Rd1 := Lib.hid hd1
  have Rf1 := Lib.hid hf1
  clear ha1 hb1 hd1 hf1
  have LX1 : Hid (X1 < PP) := Lib.hid (C.base.lt Ra1.out)
  have LY1 : Hid (Y1 < PP) := Lib.hid (C.base.lt Rb1.out)
  have LZ1 : Hid (Z1 < PP) := Lib.hid (C.base.lt Rd1.out)
  have LT1 : Hid (T1 < PP) := Lib.hid (C.base.lt Rf1.out)
  have HP1 := Lib.hid hP1
  clear hP1
  obtain ⟨Z, hZ, rZ⟩ := C.base.zero
  have RZZ := Lib.hid rZ
  have hzP := zp_of hZ
  have hz32 := zero32_zero
  clear rZ
  have HR0 := Lib.hid (((RowsW.nil w).box (quad a1 b1 d1 f1) 28).box (quad Z Z Z Z) 28)
  have HB0 := Lib.hid (below_box (below_box (Below.refl w.heap.size w) (quad a1 b1 d1 f1) 28) (quad Z Z Z Z) 28)
  rw [World.size_alloc] at HR0
  go_enter Try.func36, Try.ntmps36
  go_upto_region 1 with fail
  obtain ⟨W0, hW0⟩ : ∃ W, ((w.alloc (.cells (quad a1 b1 d1 f1) 28)).alloc (.cells (quad Z Z Z Z) 28)) = W := ⟨_, rfl⟩
  obtain ⟨g0, hg0⟩ : ∃ g, w.heap.size = g := ⟨_, rfl⟩
  rw [hW0] at HR0 HB0
  rw [hg0] at HR0
  rw [hW0, hg0]
  have HG0 := Lib.hid hg0
  clear hW0 hg0
  by_cases hz : Z1 = 0
  · have HZ := Lib.hid hz
    clear hz
    have l1 := HR0.out.tail.head
    go_wp2_with (refine wpList_runsV (o := ⟨some 4, _, _, _, _, _⟩) rfl (.agg d1) (run_loadP rfl rfl l1 Try.underlying26 rfl (C.base.info Rd1.out) (pp_2 (fe5 C.base Ra1.out) (fe5 C.base Rb1.out))) ?_)
    have kq2 := fun W : World => (C.isZero Rd1.out) W
    rw [decide_eq_true (show Z1 = 0 from HZ.out)] at kq2
    have Kq2 := Lib.hid kq2
    clear kq2
    with_reducible refine (Kq2.out _).mono ?_
    rintro e vq2 ⟨rfl, hbq2⟩
    have HRq2 := Lib.hid (HR0.out.below hbq2)
    have HBq2 := Lib.hid (below_next HB0.out hbq2)
    clear hbq2
    go_upto_region 2 with fail
    go_wp2_with fail
    have kq3 := fun W : World => (ptzero_any C) W
    have Kq3 := Lib.hid kq3
    clear kq3
    with_reducible refine (Kq3.out _).mono ?_
    rintro e vq3 ⟨aq3, bq3, dq3, fq3, rfl, hRaq3, hRbq3, hRdq3, hRfq3, hbq3⟩
    have Raq3 := Lib.hid hRaq3
    have Rbq3 := Lib.hid hRbq3
    have Rdq3 := Lib.hid hRdq3
    have Rfq3 := Lib.hid hRfq3
    clear hRaq3 hRbq3 hRdq3 hRfq3
    have HRq3 := Lib.hid (HRq2.out.below hbq3)
    have HBq3 := Lib.hid (below_next HBq2.out hbq3)
    clear hbq3
    have lsq4 := HRq3.out.head
    have HRq4 : Hid (RowsW (vq3.setRow (g0 + 1) (quad aq3 bq3 dq3 fq3)) [((g0 + 1), (quad aq3 bq3 dq3 fq3), 28), (g0, (quad a1 b1 d1 f1), 28)]) := Lib.hid ⟨setRow_heap _ _ _ _ _ _ lsq4, (by rw [setRow_other _ _ _ _ (by omega)]; exact HRq3.out.tail.head), trivial⟩
    have HBq4 := Lib.hid (below_row (g := (g0 + 1)) (cs := (quad aq3 bq3 dq3 fq3)) HBq3.out (by have := HG0.out; omega))
    go_wp2_with (refine wpList_store_row rfl 28 (.tmp 2) (.tmp 6) rfl (g0 + 1) (quad aq3 bq3 dq3 fq3) rfl rfl 28 (quad Z Z Z Z) lsq4 (pp_info C.base Raq3.out Rbq3.out Rdq3.out Rfq3.out) ((pp_size C.base RZZ.out RZZ.out RZZ.out RZZ.out).trans (pp_size C.base Raq3.out Rbq3.out Rdq3.out Rfq3.out).symm) (pp_one C.base Raq3.out Rbq3.out Rdq3.out Rfq3.out) ?_)
    obtain ⟨Wq4, hWq4⟩ : ∃ W, vq3.setRow (g0 + 1) (quad aq3 bq3 dq3 fq3) = W := ⟨_, rfl⟩
    rw [hWq4] at HRq4 HBq4
    (try rw [hWq4])
    clear hWq4 lsq4
    (try simp only [Exit.inBlock, Exit.then])
    refine bodyPost_ret (results_cell_row rfl _ _ (g0 + 1) _ (quad aq3 bq3 dq3 fq3) _ _ rfl HRq4.out.head Try.underlying28 rfl (pp_info C.base Raq3.out Rbq3.out Rdq3.out Rfq3.out)) rfl ?_
    exact ⟨_, _, _, _, _, _, _, _, rfl, Raq3.out, Rbq3.out, Rdq3.out, Rfq3.out, by rw [HP1.out.yes HZ.out]; exact co_zero, HBq4.out⟩
  · have HZ := Lib.hid hz
    clear hz
    have l5 := HR0.out.tail.head
    go_wp2_with (refine wpList_runsV (o := ⟨some 4, _, _, _, _, _⟩) rfl (.agg d1) (run_loadP rfl rfl l5 Try.underlying26 rfl (C.base.info Rd1.out) (pp_2 (fe5 C.base Ra1.out) (fe5 C.base Rb1.out))) ?_)
    have kq6 := fun W : World => (C.isZero Rd1.out) W
    rw [decide_eq_false (show ¬ Z1 = 0 from HZ.out)] at kq6
    have Kq6 := Lib.hid kq6
    clear kq6
    with_reducible refine (Kq6.out _).mono ?_
    rintro e vq6 ⟨rfl, hbq6⟩
    have HRq6 := Lib.hid (HR0.out.below hbq6)
    have HBq6 := Lib.hid (below_next HB0.out hbq6)
    clear hbq6
    go_upto_region 3 with fail
    have l7 := HRq6.out.tail.head
    have lsq8 := HRq6.out.head
    have HRq8 : Hid (RowsW (vq6.setRow (g0 + 1) (quad a1 b1 d1 f1)) [((g0 + 1), (quad a1 b1 d1 f1), 28), (g0, (quad a1 b1 d1 f1), 28)]) := Lib.hid ⟨setRow_heap _ _ _ _ _ _ lsq8, (by rw [setRow_other _ _ _ _ (by omega)]; exact HRq6.out.tail.head), trivial⟩
    have HBq8 := Lib.hid (below_row (g := (g0 + 1)) (cs := (quad a1 b1 d1 f1)) HBq6.out (by have := HG0.out; omega))
    go_wp2_with (first
        | (refine wpList_load_row rfl 28 (.tmp 1) rfl g0 rfl 28 (quad a1 b1 d1 f1) (0, 0) _ l7 Try.underlying28 rfl (pp_info C.base Ra1.out Rb1.out Rd1.out Rf1.out) ?_)
        | (refine wpList_store_row rfl 28 (.tmp 2) (.tmp 7) rfl (g0 + 1) (quad a1 b1 d1 f1) rfl rfl 28 (quad Z Z Z Z) lsq8 (pp_info C.base Ra1.out Rb1.out Rd1.out Rf1.out) ((pp_size C.base RZZ.out RZZ.out RZZ.out RZZ.out).trans (pp_size C.base Ra1.out Rb1.out Rd1.out Rf1.out).symm) (pp_one C.base Ra1.out Rb1.out Rd1.out Rf1.out) ?_))
    obtain ⟨Wq8, hWq8⟩ : ∃ W, vq6.setRow (g0 + 1) (quad a1 b1 d1 f1) = W := ⟨_, rfl⟩
    rw [hWq8] at HRq8 HBq8
    (try rw [hWq8])
    clear hWq8 lsq8
    (try simp only [Exit.inBlock, Exit.then])
    refine bodyPost_ret (results_cell_row rfl _ _ (g0 + 1) _ (quad a1 b1 d1 f1) _ _ rfl HRq8.out.head Try.underlying28 rfl (pp_info C.base Ra1.out Rb1.out Rd1.out Rf1.out)) rfl ?_
    exact ⟨_, _, _, _, _, _, _, _, rfl, Ra1.out, Rb1.out, Rd1.out, Rf1.out, HP1.out.no HZ.out, HBq8.out⟩
set_option maxHeartbeats 1600000 in
theorem ptratios_any {R : Array Value → Nat → Prop} (C : FeC R) {c0 : Array Value} {x0 : Nat} (hc0 : R c0 x0) {c1 : Array Value} {x1 : Nat} (hc1 : R c1 x1) {c2 : Array Value} {x2 : Nat} (hc2 : R c2 x2) {c3 : Array Value} {x3 : Nat} (hc3 : R c3 x3) (w : World) : Calls Try.prog 56 #[.agg c0, .agg c1, .agg c2, .agg c3] w (RetPP R w ((x0 * x3) % PP) ((x1 * x2) % PP) ((x3 * x1) % PP) ((x0 * x2) % PP)) := by
  have Rc0 := Lib.hid hc0
  clear hc0
  have Lx0 : Hid (x0 < PP) := Lib.hid (C.base.lt Rc0.out)
  have Rc1 := Lib.hid hc1
  clear hc1
  have Lx1 : Hid (x1 < PP) := Lib.hid (C.base.lt Rc1.out)
  have Rc2 := Lib.hid hc2
  clear hc2
  have Lx2 : Hid (x2 < PP) := Lib.hid (C.base.lt Rc2.out)
  have Rc3 := Lib.hid hc3
  clear hc3
  have Lx3 : Hid (x3 < PP) := Lib.hid (C.base.lt Rc3.out)
  obtain ⟨Z, hZ, rZ⟩ := C.base.zero
  have RZZ := Lib.hid rZ
  have hzP := zp_of hZ
  have hz32 := zero32_zero
  clear rZ
  have HR0 := Lib.hid ((((((RowsW.nil w).box c0 26).box c1 26).box c2 26).box c3 26).box (quad Z Z Z Z) 28)
  have HB0 := Lib.hid (below_box (below_box (below_box (below_box (below_box (Below.refl w.heap.size w) c0 26) c1 26) c2 26) c3 26) (quad Z Z Z Z) 28)
  rw [World.size_alloc] at HR0
  rw [World.size_alloc] at HR0
  try rw [World.size_alloc] at HR0
  try rw [World.size_alloc] at HR0
  go_enter Try.func56, Try.ntmps56
  go_upto_region 1 with fail
  obtain ⟨W0, hW0⟩ : ∃ W, (((((w.alloc (.cells c0 26)).alloc (.cells c1 26)).alloc (.cells c2 26)).alloc (.cells c3 26)).alloc (.cells (quad Z Z Z Z) 28)) = W := ⟨_, rfl⟩
  obtain ⟨g0, hg0⟩ : ∃ g, w.heap.size = g := ⟨_, rfl⟩
  rw [hW0] at HR0 HB0
  rw [hg0] at HR0
  rw [hW0, hg0]
  have HG0 := Lib.hid hg0
  clear hW0 hg0
  refine wp_region_noPanic ?_
  refine wp_region_held_tail (S := fun W => Below W0.heap.size W0 W) 13 (by kernel_rfl) ⟨by kernel_rfl, by kernel_rfl, by kernel_rfl, by kernel_rfl⟩ (by exact (Below.refl _ _).drew) (fun hT inv hS => ?_)
  refine' take_atT 0 hT inv rfl (by omega) (by kernel_rfl) (by kernel_rfl) (fun _ _ _ h => h) (by rfl) hS ?_ ?_ ?_
  rotate_left 2
  · intro W hSW; exact run_loadR rfl rfl (HR0.out.below hSW).tail.tail.tail.tail.head Try.underlying26 rfl (C.base.info Rc0.out)
  · simp only [List.set_cons_succ, List.set_cons_zero]; rfl
  intro inv
  refine' take_atT 1 hT inv rfl (by omega) (by kernel_rfl) (by kernel_rfl) (fun _ _ _ h => h) (by rfl) hS ?_ ?_ ?_
  rotate_left 2
  · intro W hSW; exact run_loadR rfl rfl (HR0.out.below hSW).tail.head Try.underlying26 rfl (C.base.info Rc3.out)
  · simp only [List.set_cons_succ, List.set_cons_zero]; rfl
  intro inv
  refine' take_atT 3 hT inv rfl (by omega) (by kernel_rfl) (by kernel_rfl) (fun _ _ _ h => h) (by rfl) hS ?_ ?_ ?_
  rotate_left 2
  · intro W hSW; exact run_loadR rfl rfl (HR0.out.below hSW).tail.tail.tail.head Try.underlying26 rfl (C.base.info Rc1.out)
  · simp only [List.set_cons_succ, List.set_cons_zero]; rfl
  intro inv
  refine' take_atT 4 hT inv rfl (by omega) (by kernel_rfl) (by kernel_rfl) (fun _ _ _ h => h) (by rfl) hS ?_ ?_ ?_
  rotate_left 2
  · intro W hSW; exact run_loadR rfl rfl (HR0.out.below hSW).tail.tail.head Try.underlying26 rfl (C.base.info Rc2.out)
  · simp only [List.set_cons_succ, List.set_cons_zero]; rfl
  intro inv
  refine' take_atT 6 hT inv rfl (by omega) (by kernel_rfl) (by kernel_rfl) (fun _ _ _ h => h) (by rfl) hS ?_ ?_ ?_
  rotate_left 2
  · intro W hSW; exact run_loadR rfl rfl (HR0.out.below hSW).tail.head Try.underlying26 rfl (C.base.info Rc3.out)
  · simp only [List.set_cons_succ, List.set_cons_zero]; rfl
  intro inv
  refine' take_atT 7 hT inv rfl (by omega) (by kernel_rfl) (by kernel_rfl) (fun _ _ _ h => h) (by rfl) hS ?_ ?_ ?_
  rotate_left 2
  · intro W hSW; exact run_loadR rfl rfl (HR0.out.below hSW).tail.tail.tail.head Try.underlying26 rfl (C.base.info Rc1.out)
  · simp only [List.set_cons_succ, List.set_cons_zero]; rfl
  intro inv
  refine' take_atT 9 hT inv rfl (by omega) (by kernel_rfl) (by kernel_rfl) (fun _ _ _ h => h) (by rfl) hS ?_ ?_ ?_
  rotate_left 2
  · intro W hSW; exact run_loadR rfl rfl (HR0.out.below hSW).tail.tail.tail.tail.head Try.underlying26 rfl (C.base.info Rc0.out)
  · simp only [List.set_cons_succ, List.set_cons_zero]; rfl
  intro inv
  refine' take_atT 10 hT inv rfl (by omega) (by kernel_rfl) (by kernel_rfl) (fun _ _ _ h => h) (by rfl) hS ?_ ?_ ?_
  rotate_left 2
  · intro W hSW; exact run_loadR rfl rfl (HR0.out.below hSW).tail.tail.head Try.underlying26 rfl (C.base.info Rc2.out)
  · simp only [List.set_cons_succ, List.set_cons_zero]; rfl
  intro inv
  refine call_atT 2 inv rfl (by omega) (by kernel_rfl) (by rfl) (fun K hK => ?_)
  go_simp
  obtain ⟨n1, hn1⟩ : ∃ x_ : Nat, (x0 * x3) % PP = x_ := ⟨_, rfl⟩
  have Hn1 := Lib.hid hn1
  have HLn1 : Hid (n1 < PP) := Lib.hid (by rw [← hn1]; exact Nat.mod_lt _ (by decide))
  clear hn1
  with_reducible refine ((C.mul Rc0.out Rc3.out) _).mono ?_
  rintro e vq2 ⟨cq2, rfl, rq2, hbq2⟩
  rw [Hn1.out] at rq2
  have Rq2 := Lib.hid rq2
  clear rq2
  have kbq2 := below_next hS hbq2
  clear hS hbq2
  refine hK.out _ _ (by exact kbq2) (fun inv hS => ?_)
  clear hK K
  refine call_atT 5 inv rfl (by omega) (by kernel_rfl) (by rfl) (fun K hK => ?_)
  go_simp
  obtain ⟨n3, hn3⟩ : ∃ x_ : Nat, (x1 * x2) % PP = x_ := ⟨_, rfl⟩
  have Hn3 := Lib.hid hn3
  have HLn3 : Hid (n3 < PP) := Lib.hid (by rw [← hn3]; exact Nat.mod_lt _ (by decide))
  clear hn3
  with_reducible refine ((C.mul Rc1.out Rc2.out) _).mono ?_
  rintro e vq4 ⟨cq4, rfl, rq4, hbq4⟩
  rw [Hn3.out] at rq4
  have Rq4 := Lib.hid rq4
  clear rq4
  have kbq4 := below_next kbq2 hbq4
  clear hS hbq4
  refine hK.out _ _ (by exact kbq4) (fun inv hS => ?_)
  clear hK K
  refine call_atT 8 inv rfl (by omega) (by kernel_rfl) (by rfl) (fun K hK => ?_)
  go_simp
  obtain ⟨n5, hn5⟩ : ∃ x_ : Nat, (x3 * x1) % PP = x_ := ⟨_, rfl⟩
  have Hn5 := Lib.hid hn5
  have HLn5 : Hid (n5 < PP) := Lib.hid (by rw [← hn5]; exact Nat.mod_lt _ (by decide))
  clear hn5
  with_reducible refine ((C.mul Rc3.out Rc1.out) _).mono ?_
  rintro e vq6 ⟨cq6, rfl, rq6, hbq6⟩
  rw [Hn5.out] at rq6
  have Rq6 := Lib.hid rq6
  clear rq6
  have kbq6 := below_next kbq4 hbq6
  clear hS hbq6
  refine hK.out _ _ (by exact kbq6) (fun inv hS => ?_)
  clear hK K
  refine call_atT 11 inv rfl (by omega) (by kernel_rfl) (by rfl) (fun K hK => ?_)
  go_simp
  obtain ⟨n7, hn7⟩ : ∃ x_ : Nat, (x0 * x2) % PP = x_ := ⟨_, rfl⟩
  have Hn7 := Lib.hid hn7
  have HLn7 : Hid (n7 < PP) := Lib.hid (by rw [← hn7]; exact Nat.mod_lt _ (by decide))
  clear hn7
  with_reducible refine ((C.mul Rc0.out Rc2.out) _).mono ?_
  rintro e vq8 ⟨cq8, rfl, rq8, hbq8⟩
  rw [Hn7.out] at rq8
  have Rq8 := Lib.hid rq8
  clear rq8
  have kbq8 := below_next kbq6 hbq8
  clear hS hbq8
  refine hK.out _ _ (by exact kbq8) (fun inv hS => ?_)
  clear hK K
  refine' take_atT 12 hT inv rfl (by omega) (by kernel_rfl) (by kernel_rfl) (fun _ _ _ h => h) (by rfl) hS ?_ ?_ ?_
  rotate_left 2
  · intro W hSW; exact run_buildF4 rfl rfl rfl rfl rfl (fe5 C.base Rq2.out) (fe5 C.base Rq4.out) (fe5 C.base Rq6.out) (fe5 C.base Rq8.out)
  · simp only [List.set_cons_succ, List.set_cons_zero]; rfl
  intro inv
  refine done_atT (by kernel_rfl) ?_
  simp only [List.drop_succ_cons, List.drop_zero]
  clear hS
  (try simp only [Act.put])
  have HRq9 := Lib.hid (HR0.out.below kbq8)
  have HBq9 := Lib.hid (below_next HB0.out kbq8)
  have lsq10 := HRq9.out.head
  have HRq10 : Hid (RowsW (vq8.setRow (g0 + 1 + 1 + 1 + 1) (quad cq2 cq4 cq6 cq8)) [((g0 + 1 + 1 + 1 + 1), (quad cq2 cq4 cq6 cq8), 28), ((g0 + 1 + 1 + 1), c3, 26), ((g0 + 1 + 1), c2, 26), ((g0 + 1), c1, 26), (g0, c0, 26)]) := Lib.hid ⟨setRow_heap _ _ _ _ _ _ lsq10, (by rw [setRow_other _ _ _ _ (by omega)]; exact HRq9.out.tail.head), (by rw [setRow_other _ _ _ _ (by omega)]; exact HRq9.out.tail.tail.head), (by rw [setRow_other _ _ _ _ (by omega)]; exact HRq9.out.tail.tail.tail.head), (by rw [setRow_other _ _ _ _ (by omega)]; exact HRq9.out.tail.tail.tail.tail.head), trivial⟩
  have HBq10 := Lib.hid (below_row (g := (g0 + 1 + 1 + 1 + 1)) (cs := (quad cq2 cq4 cq6 cq8)) HBq9.out (by have := HG0.out; omega))
  go_wp2_with (refine wpList_store_row rfl 28 (.tmp 8) (.tmp 21) rfl (g0 + 1 + 1 + 1 + 1) (quad cq2 cq4 cq6 cq8) rfl rfl 28 (quad Z Z Z Z) lsq10 (pp_info C.base Rq2.out Rq4.out Rq6.out Rq8.out) ((pp_size C.base RZZ.out RZZ.out RZZ.out RZZ.out).trans (pp_size C.base Rq2.out Rq4.out Rq6.out Rq8.out).symm) (pp_one C.base Rq2.out Rq4.out Rq6.out Rq8.out) ?_)
  obtain ⟨Wq10, hWq10⟩ : ∃ W, vq8.setRow (g0 + 1 + 1 + 1 + 1) (quad cq2 cq4 cq6 cq8) = W := ⟨_, rfl⟩
  rw [hWq10] at HRq10 HBq10
  (try rw [hWq10])
  clear hWq10 lsq10
  refine NoPanic.normal ?_
  go_wp2_with fail
  (try simp only [Exit.inBlock, Exit.then])
  refine bodyPost_ret (results_cell_row rfl _ _ (g0 + 1 + 1 + 1 + 1) _ (quad cq2 cq4 cq6 cq8) _ _ rfl HRq10.out.head Try.underlying28 rfl (pp_info C.base Rq2.out Rq4.out Rq6.out Rq8.out)) rfl ?_
  exact ⟨_, _, _, _, rfl, by rw [Hn1.out]; exact Rq2.out, by rw [Hn3.out]; exact Rq4.out, by rw [Hn5.out]; exact Rq6.out, by rw [Hn7.out]; exact Rq8.out, HBq10.out⟩
set_option maxHeartbeats 1600000 in
theorem ptneg_any {R : Array Value → Nat → Prop} (C : FeC R) {a1 b1 d1 f1 : Array Value} {X1 Y1 Z1 T1 : Nat} {p1 : PtD} (ha1 : R a1 X1) (hb1 : R b1 Y1) (hd1 : R d1 Z1) (hf1 : R f1 T1) (hP1 : Pq X1 Y1 Z1 T1 p1) (w : World) : Calls Try.prog 21 #[.agg (quad a1 b1 d1 f1)] w (RetPt (ptRof R) w (Ed.Pt.neg p1)) := by
  have Ra1 := Lib.hid ha1
  have Rb1 := Lib.hid hb1
  have Rd1 := Lib.hid hd1
  have Rf1 := Lib.hid hf1
  clear ha1 hb1 hd1 hf1
  have LX1 : Hid (X1 < PP) := Lib.hid (C.base.lt Ra1.out)
  have LY1 : Hid (Y1 < PP) := Lib.hid (C.base.lt Rb1.out)
  have LZ1 : Hid (Z1 < PP) := Lib.hid (C.base.lt Rd1.out)
  have LT1 : Hid (T1 < PP) := Lib.hid (C.base.lt Rf1.out)
  have HP1 := Lib.hid hP1
  clear hP1
  obtain ⟨Z, hZ, rZ⟩ := C.base.zero
  have RZZ := Lib.hid rZ
  have hzP := zp_of hZ
  have hz32 := zero32_zero
  clear rZ
  have HR0 := Lib.hid (((RowsW.nil w).box (quad a1 b1 d1 f1) 28).box (quad Z Z Z Z) 28)
  have HB0 := Lib.hid (below_box (below_box (Below.refl w.heap.size w) (quad a1 b1 d1 f1) 28) (quad Z Z Z Z) 28)
  rw [World.size_alloc] at HR0
  go_enter Try.func21, Try.ntmps21
  go_upto_region 1 with fail
  obtain ⟨W0, hW0⟩ : ∃ W, ((w.alloc (.cells (quad a1 b1 d1 f1) 28)).alloc (.cells (quad Z Z Z Z) 28)) = W := ⟨_, rfl⟩
  obtain ⟨g0, hg0⟩ : ∃ g, w.heap.size = g := ⟨_, rfl⟩
  rw [hW0] at HR0 HB0
  rw [hg0] at HR0
  rw [hW0, hg0]
  have HG0 := Lib.hid hg0
  clear hW0 hg0
  refine wp_region_noPanic ?_
  refine wp_region_held_tail (S := fun W => Below W0.heap.size W0 W) 11 (by kernel_rfl) ⟨by kernel_rfl, by kernel_rfl, by kernel_rfl, by kernel_rfl⟩ (by exact (Below.refl _ _).drew) (fun hT inv hS => ?_)
  refine' take_atT 0 hT inv rfl (by omega) (by kernel_rfl) (by kernel_rfl) (fun _ _ _ h => h) (by rfl) hS ?_ ?_ ?_
  rotate_left 2
  · intro W hSW; go_simp; try with_reducible rfl
  · simp only [List.set_cons_succ, List.set_cons_zero]; rfl
  intro inv
  refine' take_atT 1 hT inv rfl (by omega) (by kernel_rfl) (by kernel_rfl) (fun _ _ _ h => h) (by rfl) hS ?_ ?_ ?_
  rotate_left 2
  · intro W hSW; exact run_loadP rfl rfl (HR0.out.below hSW).tail.head Try.underlying26 rfl (C.base.info Ra1.out) pp_0
  · simp only [List.set_cons_succ, List.set_cons_zero]; rfl
  intro inv
  refine' take_atT 3 hT inv rfl (by omega) (by kernel_rfl) (by kernel_rfl) (fun _ _ _ h => h) (by rfl) hS ?_ ?_ ?_
  rotate_left 2
  · intro W hSW; go_simp; try with_reducible rfl
  · simp only [List.set_cons_succ, List.set_cons_zero]; rfl
  intro inv
  refine' take_atT 4 hT inv rfl (by omega) (by kernel_rfl) (by kernel_rfl) (fun _ _ _ h => h) (by rfl) hS ?_ ?_ ?_
  rotate_left 2
  · intro W hSW; exact run_loadP rfl rfl (HR0.out.below hSW).tail.head Try.underlying26 rfl (C.base.info Rb1.out) (pp_1 (fe5 C.base Ra1.out))
  · simp only [List.set_cons_succ, List.set_cons_zero]; rfl
  intro inv
  refine' take_atT 5 hT inv rfl (by omega) (by kernel_rfl) (by kernel_rfl) (fun _ _ _ h => h) (by rfl) hS ?_ ?_ ?_
  rotate_left 2
  · intro W hSW; go_simp; try with_reducible rfl
  · simp only [List.set_cons_succ, List.set_cons_zero]; rfl
  intro inv
  refine' take_atT 6 hT inv rfl (by omega) (by kernel_rfl) (by kernel_rfl) (fun _ _ _ h => h) (by rfl) hS ?_ ?_ ?_
  rotate_left 2
  · intro W hSW; exact run_loadP rfl rfl (HR0.out.below hSW).tail.head Try.underlying26 rfl (C.base.info Rd1.out) (pp_2 (fe5 C.base Ra1.out) (fe5 C.base Rb1.out))
  · simp only [List.set_cons_succ, List.set_cons_zero]; rfl
  intro inv
  refine' take_atT 7 hT inv rfl (by omega) (by kernel_rfl) (by kernel_rfl) (fun _ _ _ h => h) (by rfl) hS ?_ ?_ ?_
  rotate_left 2
  · intro W hSW; go_simp; try with_reducible rfl
  · simp only [List.set_cons_succ, List.set_cons_zero]; rfl
  intro inv
  refine' take_atT 8 hT inv rfl (by omega) (by kernel_rfl) (by kernel_rfl) (fun _ _ _ h => h) (by rfl) hS ?_ ?_ ?_
  rotate_left 2
  · intro W hSW; exact run_loadP rfl rfl (HR0.out.below hSW).tail.head Try.underlying26 rfl (C.base.info Rf1.out) (pp_3 (fe5 C.base Ra1.out) (fe5 C.base Rb1.out) (fe5 C.base Rd1.out))
  · simp only [List.set_cons_succ, List.set_cons_zero]; rfl
  intro inv
  refine call_atT 2 inv rfl (by omega) (by kernel_rfl) (by rfl) (fun K hK => ?_)
  go_simp
  obtain ⟨n1, hn1⟩ : ∃ x_ : Nat, (PP - X1) % PP = x_ := ⟨_, rfl⟩
  have Hn1 := Lib.hid hn1
  have HLn1 : Hid (n1 < PP) := Lib.hid (by rw [← hn1]; exact Nat.mod_lt _ (by decide))
  clear hn1
  with_reducible refine ((C.neg Ra1.out) _).mono ?_
  rintro e vq2 ⟨cq2, rfl, rq2, hbq2⟩
  rw [Hn1.out] at rq2
  have Rq2 := Lib.hid rq2
  clear rq2
  have kbq2 := below_next hS hbq2
  clear hS hbq2
  refine hK.out _ _ (by exact kbq2) (fun inv hS => ?_)
  clear hK K
  refine call_atT 9 inv rfl (by omega) (by kernel_rfl) (by rfl) (fun K hK => ?_)
  go_simp
  obtain ⟨n3, hn3⟩ : ∃ x_ : Nat, (PP - T1) % PP = x_ := ⟨_, rfl⟩
  have Hn3 := Lib.hid hn3
  have HLn3 : Hid (n3 < PP) := Lib.hid (by rw [← hn3]; exact Nat.mod_lt _ (by decide))
  clear hn3
  with_reducible refine ((C.neg Rf1.out) _).mono ?_
  rintro e vq4 ⟨cq4, rfl, rq4, hbq4⟩
  rw [Hn3.out] at rq4
  have Rq4 := Lib.hid rq4
  clear rq4
  have kbq4 := below_next kbq2 hbq4
  clear hS hbq4
  refine hK.out _ _ (by exact kbq4) (fun inv hS => ?_)
  clear hK K
  refine' take_atT 10 hT inv rfl (by omega) (by kernel_rfl) (by kernel_rfl) (fun _ _ _ h => h) (by rfl) hS ?_ ?_ ?_
  rotate_left 2
  · intro W hSW; exact run_buildF4 rfl rfl rfl rfl rfl (fe5 C.base Rq2.out) (fe5 C.base Rb1.out) (fe5 C.base Rd1.out) (fe5 C.base Rq4.out)
  · simp only [List.set_cons_succ, List.set_cons_zero]; rfl
  intro inv
  refine done_atT (by kernel_rfl) ?_
  simp only [List.drop_succ_cons, List.drop_zero]
  clear hS
  (try simp only [Act.put])
  have HRq5 := Lib.hid (HR0.out.below kbq4)
  have HBq5 := Lib.hid (below_next HB0.out kbq4)
  have lsq6 := HRq5.out.head
  have HRq6 : Hid (RowsW (vq4.setRow (g0 + 1) (quad cq2 b1 d1 cq4)) [((g0 + 1), (quad cq2 b1 d1 cq4), 28), (g0, (quad a1 b1 d1 f1), 28)]) := Lib.hid ⟨setRow_heap _ _ _ _ _ _ lsq6, (by rw [setRow_other _ _ _ _ (by omega)]; exact HRq5.out.tail.head), trivial⟩
  have HBq6 := Lib.hid (below_row (g := (g0 + 1)) (cs := (quad cq2 b1 d1 cq4)) HBq5.out (by have := HG0.out; omega))
  go_wp2_with (refine wpList_store_row rfl 28 (.tmp 2) (.tmp 13) rfl (g0 + 1) (quad cq2 b1 d1 cq4) rfl rfl 28 (quad Z Z Z Z) lsq6 (pp_info C.base Rq2.out Rb1.out Rd1.out Rq4.out) ((pp_size C.base RZZ.out RZZ.out RZZ.out RZZ.out).trans (pp_size C.base Rq2.out Rb1.out Rd1.out Rq4.out).symm) (pp_one C.base Rq2.out Rb1.out Rd1.out Rq4.out) ?_)
  obtain ⟨Wq6, hWq6⟩ : ∃ W, vq4.setRow (g0 + 1) (quad cq2 b1 d1 cq4) = W := ⟨_, rfl⟩
  rw [hWq6] at HRq6 HBq6
  (try rw [hWq6])
  clear hWq6 lsq6
  refine NoPanic.normal ?_
  go_wp2_with fail
  (try simp only [Exit.inBlock, Exit.then])
  refine bodyPost_ret (results_cell_row rfl _ _ (g0 + 1) _ (quad cq2 b1 d1 cq4) _ _ rfl HRq6.out.head Try.underlying28 rfl (pp_info C.base Rq2.out Rb1.out Rd1.out Rq4.out)) rfl ?_
  exact ⟨_, rfl, ⟨_, _, _, _, _, _, _, _, rfl, Rq2.out, Rb1.out, Rd1.out, Rq4.out, by rw [← Hn1.out, ← Hn3.out]; exact pq_neg HP1.out⟩, HBq6.out⟩
end Go.Proofs.Ytfejabfmhddepaa

