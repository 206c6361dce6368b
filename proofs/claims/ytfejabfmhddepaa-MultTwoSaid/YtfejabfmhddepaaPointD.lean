/- The landed package point: Decode, Encode. Written by wip/tools/mk_point12.py. -/
import Derived.Test.YtfejabfmhddepaaPointC
namespace Go.Proofs.Ytfejabfmhddepaa
open Go.RowKit
set_option linter.unusedVariables false
set_option maxRecDepth 100000

theorem or128 (t : Nat) (h : t < 128) : bits .or .u8 (t : Int) 128 = ((t + 128 : Nat) : Int) := by
  have : ∀ t : Fin 128, bits .or .u8 ((t.val : Nat) : Int) 128 = ((t.val + 128 : Nat) : Int) := by decide +kernel
  exact this ⟨t, h⟩
set_option maxHeartbeats 3200000 in
theorem ptdecode_any {R : Array Value → Nat → Prop} (C : FeC R) {l : List UInt8} (hl : l.length = 32) (w : World) : Calls Try.prog 29 #[.agg (arrB l)] w (RetPtB (ptRof R) w (decP l) (decF l)) := by
  have HL := Lib.hid hl
  clear hl
  obtain ⟨Z, hZ, rZ⟩ := C.base.zero
  have RZZ := Lib.hid rZ
  have hzP := zp_of hZ
  have hz32 := zero32_zero
  clear rZ
  have HR0 := Lib.hid (((RowsW.nil w).box (arrB l) 22).box (quad Z Z Z Z) 28)
  have HB0 := Lib.hid (below_box (below_box (Below.refl w.heap.size w) (arrB l) 22) (quad Z Z Z Z) 28)
  rw [World.size_alloc] at HR0
  go_enter Try.func29, Try.ntmps29
  go_upto_region 1 with fail
  obtain ⟨W0, hW0⟩ : ∃ W, ((w.alloc (.cells (arrB l) 22)).alloc (.cells (quad Z Z Z Z) 28)) = W := ⟨_, rfl⟩
  obtain ⟨g0, hg0⟩ : ∃ g, w.heap.size = g := ⟨_, rfl⟩
  rw [hW0] at HR0 HB0
  rw [hg0] at HR0
  rw [hW0, hg0]
  have HG0 := Lib.hid hg0
  clear hW0 hg0
  cases hcan : canN l
  · have HCA := Lib.hid hcan
    clear hcan
    have l1 := HR0.out.tail.head
    go_wp2_with (refine wpList_load_row rfl 22 (.tmp 1) rfl g0 rfl 22 (arrB l) (0, 0) _ l1 Try.underlying22 rfl (arr32_info HL.out) ?_)
    have kq2 := fun W : World => (C.can l HL.out) W
    rw [HCA.out] at kq2
    have Kq2 := Lib.hid kq2
    clear kq2
    with_reducible refine (Kq2.out _).mono ?_
    rintro e vq2 ⟨rfl, hbq2⟩
    have HRq2 := Lib.hid (HR0.out.below hbq2)
    have HBq2 := Lib.hid (below_next HB0.out hbq2)
    clear hbq2
    go_upto_region 2 with fail
    have lsq3 := HRq2.out.head
    have HRq3 : Hid (RowsW (vq2.setRow (g0 + 1) (quad Z Z Z Z)) [((g0 + 1), (quad Z Z Z Z), 28), (g0, (arrB l), 22)]) := Lib.hid ⟨setRow_heap _ _ _ _ _ _ lsq3, (by rw [setRow_other _ _ _ _ (by omega)]; exact HRq2.out.tail.head), trivial⟩
    have HBq3 := Lib.hid (below_row (g := (g0 + 1)) (cs := (quad Z Z Z Z)) HBq2.out (by have := HG0.out; omega))
    go_wp2_with (first
        | (refine wpList_runsV (o := ⟨some 12, _, _, _, _, _⟩) rfl (.agg (quad Z Z Z Z)) (run_buildF0 hzP rfl) ?_)
        | (refine wpList_store_row rfl 28 (.tmp 2) (.tmp 12) rfl (g0 + 1) (quad Z Z Z Z) rfl rfl 28 (quad Z Z Z Z) lsq3 (pp_info C.base RZZ.out RZZ.out RZZ.out RZZ.out) ((pp_size C.base RZZ.out RZZ.out RZZ.out RZZ.out).trans (pp_size C.base RZZ.out RZZ.out RZZ.out RZZ.out).symm) (pp_one C.base RZZ.out RZZ.out RZZ.out RZZ.out) ?_))
    obtain ⟨Wq3, hWq3⟩ : ∃ W, vq2.setRow (g0 + 1) (quad Z Z Z Z) = W := ⟨_, rfl⟩
    rw [hWq3] at HRq3 HBq3
    (try rw [hWq3])
    clear hWq3 lsq3
    (try simp only [Exit.inBlock, Exit.then])
    refine bodyPost_ret (results_ct rfl _ _ (g0 + 1) _ (quad Z Z Z Z) _ _ (.bool false) rfl rfl HRq3.out.head Try.underlying28 rfl (pp_info C.base RZZ.out RZZ.out RZZ.out RZZ.out)) rfl ?_
    have e2 : decF l = false := decF_can HCA.out
    have e1 := decP_no e2
    exact ⟨_, by rw [e2], by rw [e1]; exact ⟨_, _, _, _, _, _, _, _, rfl, RZZ.out, RZZ.out, RZZ.out, RZZ.out, pq_zero⟩, HBq3.out⟩
  · have HCA := Lib.hid hcan
    clear hcan
    have l4 := HR0.out.tail.head
    go_wp2_with (refine wpList_load_row rfl 22 (.tmp 1) rfl g0 rfl 22 (arrB l) (0, 0) _ l4 Try.underlying22 rfl (arr32_info HL.out) ?_)
    have kq5 := fun W : World => (C.can l HL.out) W
    rw [HCA.out] at kq5
    have Kq5 := Lib.hid kq5
    clear kq5
    with_reducible refine (Kq5.out _).mono ?_
    rintro e vq5 ⟨rfl, hbq5⟩
    have HRq5 := Lib.hid (HR0.out.below hbq5)
    have HBq5 := Lib.hid (below_next HB0.out hbq5)
    clear hbq5
    go_upto_region 3 with fail
    have l6 := HRq5.out.tail.head
    go_wp2_with (refine wpList_load_row rfl 22 (.tmp 1) rfl g0 rfl 22 (arrB l) (0, 0) _ l6 Try.underlying22 rfl (arr32_info HL.out) ?_)
    obtain ⟨n7, hn7⟩ : ∃ x_ : Nat, feN l = x_ := ⟨_, rfl⟩
    have Hn7 := Lib.hid hn7
    have HLn7 : Hid (n7 < PP) := Lib.hid (by rw [← hn7]; exact Nat.mod_lt _ (by decide))
    clear hn7
    with_reducible refine ((C.from_ l HL.out) _).mono ?_
    rintro e vq8 ⟨cq8, rfl, rq8, hbq8⟩
    rw [Hn7.out] at rq8
    have Rq8 := Lib.hid rq8
    clear rq8
    have HRq8 := Lib.hid (HRq5.out.below hbq8)
    have HBq8 := Lib.hid (below_next HBq5.out hbq8)
    clear hbq8
    go_wp2_with fail
    have s15_1 : ∀ W : World, Calls Try.prog 59 #[.int .u64 1] W (RetFe R W 1) := fun W => C.small 1 (by decide) W
    with_reducible refine (s15_1 _).mono ?_
    rintro e vq9 ⟨cq9, rfl, rq9, hbq9⟩
    have Rq9 := Lib.hid rq9
    clear rq9
    have HRq9 := Lib.hid (HRq8.out.below hbq9)
    have HBq9 := Lib.hid (below_next HBq8.out hbq9)
    clear hbq9
    have haq10 := heap_new2a vq9 Z Z 26 26
    have hbbq10 := heap_new2b vq9 Z Z cq8 26 26
    have HRq10 := Lib.hid (HRq9.out.new2 Z cq8 Z cq9 26 26)
    have HBq10 := Lib.hid (below_new2 HBq9.out Z cq8 Z cq9 26 26)
    have HNq10 := Lib.hid HRq9.out.ne
    have HGq10 := Lib.hid HBq9.out.size
    have HLq10_0 : Hid (g0 < vq9.heap.size) := Lib.hid (by have h := HRq9.out.lt (g0, (arrB l), 22) (by simp); exact h)
    have HLq10_1 : Hid ((g0 + 1) < vq9.heap.size) := Lib.hid (by have h := HRq9.out.lt ((g0 + 1), (quad Z Z Z Z), 28) (by simp); exact h)
    go_upto_region 4 with (first
        | (refine wpList_store_row rfl 26 (.tmp 4) (.tmp 14) rfl vq9.heap.size cq8 rfl rfl 26 Z haq10 (C.base.info Rq8.out) (C.base.size RZZ.out Rq8.out) (C.base.one Rq8.out) ?_)
        | (refine wpList_store_row rfl 26 (.tmp 5) (.tmp 15) rfl (vq9.heap.size + 1) cq9 rfl rfl 26 Z hbbq10 (C.base.info Rq9.out) (C.base.size RZZ.out Rq9.out) (C.base.one Rq9.out) ?_))
    obtain ⟨Wq10, hWq10⟩ : ∃ W, (((vq9.alloc (.cells Z 26)).alloc (.cells Z 26)).setRow vq9.heap.size cq8).setRow (vq9.heap.size + 1) cq9 = W := ⟨_, rfl⟩
    obtain ⟨gq11, hgq11⟩ : ∃ g, vq9.heap.size = g := ⟨_, rfl⟩
    obtain ⟨gq12, hgq12⟩ : ∃ g, gq11 + 1 = g := ⟨_, rfl⟩
    rw [hWq10, hgq11, hgq12] at HRq10
    rw [hWq10] at HBq10
    rw [hgq11] at HGq10 HNq10 HLq10_0 HLq10_1
    rw [hWq10, hgq11, hgq12]
    have NEq11_0 : Hid (g0 ≠ gq11) := Lib.hid (by have := HLq10_0.out; omega)
    have NEq12_0 : Hid (g0 ≠ gq12) := Lib.hid (by have := HLq10_0.out; omega)
    have NEq11_1 : Hid ((g0 + 1) ≠ gq11) := Lib.hid (by have := HLq10_1.out; omega)
    have NEq12_1 : Hid ((g0 + 1) ≠ gq12) := Lib.hid (by have := HLq10_1.out; omega)
    have NEq12_2 : Hid (gq11 ≠ gq12) := Lib.hid (by omega)
    have HGq11 : Hid (w.heap.size ≤ gq11) := Lib.hid HGq10.out
    have HGq12 : Hid (w.heap.size ≤ gq12) := Lib.hid (by have := HGq10.out; omega)
    clear hWq10 hgq11 hgq12 haq10 hbbq10 HNq10 HGq10 HLq10_0 HLq10_1
    have l13 := HRq10.out.tail.head
    go_wp2_with (refine wpList_load_row rfl 26 (.tmp 4) rfl gq11 rfl 26 cq8 (0, 0) _ l13 Try.underlying26 rfl (C.base.info Rq8.out) ?_)
    obtain ⟨n14, hn14⟩ : ∃ x_ : Nat, (n7 * n7) % PP = x_ := ⟨_, rfl⟩
    have Hn14 := Lib.hid hn14
    have HLn14 : Hid (n14 < PP) := Lib.hid (by rw [← hn14]; exact Nat.mod_lt _ (by decide))
    clear hn14
    with_reducible refine ((C.square Rq8.out) _).mono ?_
    rintro e vq15 ⟨cq15, rfl, rq15, hbq15⟩
    rw [Hn14.out] at rq15
    have Rq15 := Lib.hid rq15
    clear rq15
    have HRq15 := Lib.hid (HRq10.out.below hbq15)
    have HBq15 := Lib.hid (below_next HBq10.out hbq15)
    clear hbq15
    have h0q16 : (vq15.alloc (.cells Z 26)).heap[vq15.heap.size]? = some (.cells Z 26 (0, 0)) := heap_alloc_new _ _
    have HRq16 := Lib.hid (HRq15.out.new Z cq15 26)
    have HBq16 := Lib.hid (below_new HBq15.out Z cq15 26)
    have HNq16 := Lib.hid HRq15.out.ne
    have HGq16 := Lib.hid HBq15.out.size
    go_upto_region 5 with (refine wpList_store_row rfl 26 (.tmp 6) (.tmp 17) rfl vq15.heap.size cq15 rfl rfl 26 Z h0q16 (C.base.info Rq15.out) (C.base.size RZZ.out Rq15.out) (C.base.one Rq15.out) ?_)
    obtain ⟨Wq16, hWq16⟩ : ∃ W, (vq15.alloc (.cells Z 26)).setRow vq15.heap.size cq15 = W := ⟨_, rfl⟩
    obtain ⟨gq16, hgq16⟩ : ∃ g, vq15.heap.size = g := ⟨_, rfl⟩
    rw [hWq16, hgq16] at HRq16
    rw [hWq16] at HBq16
    rw [hgq16] at HNq16 HGq16
    rw [hWq16, hgq16]
    clear hWq16 hgq16 h0q16
    have NEq16_0 : Hid (g0 ≠ gq16) := Lib.hid (HNq16.out (g0, (arrB l), 22) (by simp))
    have NEq16_1 : Hid ((g0 + 1) ≠ gq16) := Lib.hid (HNq16.out ((g0 + 1), (quad Z Z Z Z), 28) (by simp))
    have NEq16_2 : Hid (gq11 ≠ gq16) := Lib.hid (HNq16.out (gq11, cq8, 26) (by simp))
    have NEq16_3 : Hid (gq12 ≠ gq16) := Lib.hid (HNq16.out (gq12, cq9, 26) (by simp))
    obtain ⟨n17, hn17⟩ : ∃ x_ : Nat, (n14 + (PP - 1)) % PP = x_ := ⟨_, rfl⟩
    have Hn17 := Lib.hid hn17
    have HLn17 : Hid (n17 < PP) := Lib.hid (by rw [← hn17]; exact Nat.mod_lt _ (by decide))
    clear hn17
    obtain ⟨n18, hn18⟩ : ∃ x_ : Nat, (edN * n14) % PP = x_ := ⟨_, rfl⟩
    have Hn18 := Lib.hid hn18
    have HLn18 : Hid (n18 < PP) := Lib.hid (by rw [← hn18]; exact Nat.mod_lt _ (by decide))
    clear hn18
    obtain ⟨n19, hn19⟩ : ∃ x_ : Nat, (n18 + 1) % PP = x_ := ⟨_, rfl⟩
    have Hn19 := Lib.hid hn19
    have HLn19 : Hid (n19 < PP) := Lib.hid (by rw [← hn19]; exact Nat.mod_lt _ (by decide))
    clear hn19
    obtain ⟨n20, hn20⟩ : ∃ y_ : Nat, ratN n17 n19 = y_ := ⟨_, rfl⟩
    have Hn20 := Lib.hid hn20
    have HLn20 : Hid (n20 < PP) := Lib.hid (by rw [← hn20]; exact ratN_lt _ _)
    clear hn20
    have EU : Hid (upN (feN l) = n17) := Lib.hid (by unfold upN; rw [Hn7.out, Hn14.out, Hn17.out])
    have ED : Hid (dnN (feN l) = n19) := Lib.hid (by unfold dnN; rw [Hn7.out, Hn14.out, Hn18.out, Hn19.out])
    cases hfi : fineN n17 n19
    · have HFI := Lib.hid hfi
      clear hfi
      refine wp_region_noPanic ?_
      refine wp_region_heldB 12 7 26 Z (by kernel_rfl) (by kernel_rfl) ⟨by kernel_rfl, by kernel_rfl, hZ, fun _ _ _ h => h⟩ (fun hA hS => ?_)
      refine' take_atB 0 hA rfl (by kernel_rfl) (by kernel_rfl) (by kernel_rfl) (by kernel_rfl) (by kernel_rfl) (by rfl) (by rfl) hS ?_ ?_ ?_
      rotate_left 2
      · intro W hSW; exact run_loadR rfl rfl (HRq16.out.below hSW).head Try.underlying26 rfl (C.base.info Rq15.out)
      · simp only [List.set_cons_succ, List.set_cons_zero]; rfl
      refine' take_atB 1 hA rfl (by kernel_rfl) (by kernel_rfl) (by kernel_rfl) (by kernel_rfl) (by kernel_rfl) (by rfl) (by rfl) hS ?_ ?_ ?_
      rotate_left 2
      · intro W hSW; exact run_loadR rfl rfl (HRq16.out.below hSW).tail.head Try.underlying26 rfl (C.base.info Rq9.out)
      · simp only [List.set_cons_succ, List.set_cons_zero]; rfl
      refine' take_atB 4 hA rfl (by kernel_rfl) (by kernel_rfl) (by kernel_rfl) (by kernel_rfl) (by kernel_rfl) (by rfl) (by rfl) hS ?_ ?_ ?_
      rotate_left 2
      · intro W hSW; exact run_loadR rfl rfl (HRq16.out.below hSW).head Try.underlying26 rfl (C.base.info Rq15.out)
      · simp only [List.set_cons_succ, List.set_cons_zero]; rfl
      refine' take_atB 6 hA rfl (by kernel_rfl) (by kernel_rfl) (by kernel_rfl) (by kernel_rfl) (by kernel_rfl) (by rfl) (by rfl) hS ?_ ?_ ?_
      rotate_left 2
      · intro W hSW; exact run_loadR rfl rfl (HRq16.out.below hSW).tail.head Try.underlying26 rfl (C.base.info Rq9.out)
      · simp only [List.set_cons_succ, List.set_cons_zero]; rfl
      refine call_atB 2 hA rfl (by kernel_rfl) (by kernel_rfl) (by kernel_rfl) (by kernel_rfl) (by rfl) (by rfl) hS (fun oq21 Xq21 hS K hK => ?_)
      go_simp
      with_reducible refine ((C.sub Rq15.out Rq9.out) _).mono ?_
      rintro e vq21 ⟨cq21, rfl, rq21, hbq21⟩
      rw [Hn17.out] at rq21
      have Rq21 := Lib.hid rq21
      clear rq21
      refine hK.out _ _ hbq21 (fun hS => ?_)
      clear hK K hbq21
      refine call_atB 3 hA rfl (by kernel_rfl) (by kernel_rfl) (by kernel_rfl) (by kernel_rfl) (by rfl) (by rfl) hS (fun oq22 Xq22 hS K hK => ?_)
      go_simp
      with_reducible refine ((ptd_any C) _).mono ?_
      rintro e vq22 ⟨cq22, rfl, rq22, hbq22⟩
      have Rq22 := Lib.hid rq22
      clear rq22
      refine hK.out _ _ hbq22 (fun hS => ?_)
      clear hK K hbq22
      refine call_atB 5 hA rfl (by kernel_rfl) (by kernel_rfl) (by kernel_rfl) (by kernel_rfl) (by rfl) (by rfl) hS (fun oq23 Xq23 hS K hK => ?_)
      go_simp
      with_reducible refine ((C.mul Rq22.out Rq15.out) _).mono ?_
      rintro e vq23 ⟨cq23, rfl, rq23, hbq23⟩
      rw [Hn18.out] at rq23
      have Rq23 := Lib.hid rq23
      clear rq23
      refine hK.out _ _ hbq23 (fun hS => ?_)
      clear hK K hbq23
      refine call_atB 7 hA rfl (by kernel_rfl) (by kernel_rfl) (by kernel_rfl) (by kernel_rfl) (by rfl) (by rfl) hS (fun oq24 Xq24 hS K hK => ?_)
      go_simp
      with_reducible refine ((C.add Rq23.out Rq9.out) _).mono ?_
      rintro e vq24 ⟨cq24, rfl, rq24, hbq24⟩
      rw [Hn19.out] at rq24
      have Rq24 := Lib.hid rq24
      clear rq24
      refine hK.out _ _ hbq24 (fun hS => ?_)
      clear hK K hbq24
      refine call_atB 8 hA rfl (by kernel_rfl) (by kernel_rfl) (by kernel_rfl) (by kernel_rfl) (by rfl) (by rfl) hS (fun oq26 Xq26 hS K hK => ?_)
      go_simp
      have Ht25 : Hid (fineN n17 n19 = false) := Lib.hid HFI.out
      have kq26 := fun W : World => (pratio_any C.pow Rq21.out Rq24.out) W
      rw [Hn20.out, Ht25.out] at kq26
      have Kq26 := Lib.hid kq26
      clear kq26
      with_reducible refine (Kq26.out _).mono ?_
      rintro e vq26 ⟨cq26, rfl, rq26, hbq26⟩
      have Rq26 := Lib.hid rq26
      clear rq26
      refine hK.out _ _ hbq26 (fun hS => ?_)
      clear hK K hbq26
      refine' take_atB 9 hA rfl (by kernel_rfl) (by kernel_rfl) (by kernel_rfl) (by kernel_rfl) (by kernel_rfl) (by rfl) (by rfl) hS ?_ ?_ ?_
      rotate_left 2
      · intro W hSW; go_simp; try with_reducible rfl
      · simp only [List.set_cons_succ, List.set_cons_zero]; rfl
      refine' take_atB 10 hA rfl (by kernel_rfl) (by kernel_rfl) (by kernel_rfl) (by kernel_rfl) (by kernel_rfl) (by rfl) (by rfl) hS ?_ ?_ ?_
      rotate_left 2
      · intro W hSW; go_simp; try with_reducible rfl
      · simp only [List.set_cons_succ, List.set_cons_zero]; rfl
      refine' take_atB 11 hA rfl (by kernel_rfl) (by kernel_rfl) (by kernel_rfl) (by kernel_rfl) (by kernel_rfl) (by rfl) (by rfl) hS ?_ ?_ ?_
      rotate_left 2
      · intro W hSW; go_simp; try with_reducible rfl
      · simp only [List.set_cons_succ, List.set_cons_zero]; rfl
      refine' store_atB 13 hA rfl (by kernel_rfl) (by kernel_rfl) (by kernel_rfl) hS (by kernel_rfl) rfl (by intro h; cases h) (C.base.info Rq26.out) (C.base.size RZZ.out Rq26.out) (C.base.one Rq26.out) ?_ ?_
      rotate_left 1
      · intro g; simp only [List.set_cons_succ, List.set_cons_zero]; rfl
      intro gq27 Wq27 hgq27 hbq27 hrowq27
      clear hA hS
      refine' take_at 14 rfl (by kernel_rfl) (by kernel_rfl) (by kernel_rfl) (fun _ _ _ h => h) (by rfl) hbq27 ?_ ?_ ?_
      rotate_left 2
      · intro W hSW; go_simp; try with_reducible rfl
      · simp only [List.set_cons_succ, List.set_cons_zero]; rfl
      refine wpAnyH_done (by kernel_rfl) ?_ _
      refine NoPanic.normal ?_
      (try simp only [Act.put])
      have HRq27 : Hid (RowsW Wq27 [(gq27, cq26, 26), (gq16, cq15, 26), (gq12, cq9, 26), (gq11, cq8, 26), ((g0 + 1), (quad Z Z Z Z), 28), (g0, (arrB l), 22)]) := Lib.hid ⟨hrowq27, HRq16.out.below hbq27⟩
      have HBq27 := Lib.hid (below_next HBq16.out hbq27)
      have NEq27_0 : Hid (g0 ≠ gq27) := Lib.hid (by have h := HRq16.out.lt (g0, (arrB l), 22) (by simp); have := hgq27; simp only at h; omega)
      have NEq27_1 : Hid ((g0 + 1) ≠ gq27) := Lib.hid (by have h := HRq16.out.lt ((g0 + 1), (quad Z Z Z Z), 28) (by simp); have := hgq27; simp only at h; omega)
      have NEq27_2 : Hid (gq11 ≠ gq27) := Lib.hid (by have h := HRq16.out.lt (gq11, cq8, 26) (by simp); have := hgq27; simp only at h; omega)
      have NEq27_3 : Hid (gq12 ≠ gq27) := Lib.hid (by have h := HRq16.out.lt (gq12, cq9, 26) (by simp); have := hgq27; simp only at h; omega)
      have NEq27_4 : Hid (gq16 ≠ gq27) := Lib.hid (by have h := HRq16.out.lt (gq16, cq15, 26) (by simp); have := hgq27; simp only at h; omega)
      have HGq27 := Lib.hid (Nat.le_trans HBq16.out.size hgq27)
      clear hrowq27 hbq27 hgq27
      go_upto_region 6 with fail
      go_upto_region 7 with fail
      have lsq28 := HRq27.out.tail.tail.tail.tail.head
      have HRq28 : Hid (RowsW (Wq27.setRow (g0 + 1) (quad Z Z Z Z)) [(gq27, cq26, 26), (gq16, cq15, 26), (gq12, cq9, 26), (gq11, cq8, 26), ((g0 + 1), (quad Z Z Z Z), 28), (g0, (arrB l), 22)]) := Lib.hid ⟨(by rw [setRow_other _ _ _ _ (Ne.symm NEq27_1.out)]; exact HRq27.out.head), (by rw [setRow_other _ _ _ _ (Ne.symm NEq16_1.out)]; exact HRq27.out.tail.head), (by rw [setRow_other _ _ _ _ (Ne.symm NEq12_1.out)]; exact HRq27.out.tail.tail.head), (by rw [setRow_other _ _ _ _ (Ne.symm NEq11_1.out)]; exact HRq27.out.tail.tail.tail.head), setRow_heap _ _ _ _ _ _ lsq28, (by rw [setRow_other _ _ _ _ (by omega)]; exact HRq27.out.tail.tail.tail.tail.tail.head), trivial⟩
      have HBq28 := Lib.hid (below_row (g := (g0 + 1)) (cs := (quad Z Z Z Z)) HBq27.out (by have := HG0.out; omega))
      go_wp2_with (first
          | (refine wpList_runsV (o := ⟨some 32, _, _, _, _, _⟩) rfl (.agg (quad Z Z Z Z)) (run_buildF0 hzP rfl) ?_)
          | (refine wpList_store_row rfl 28 (.tmp 2) (.tmp 32) rfl (g0 + 1) (quad Z Z Z Z) rfl rfl 28 (quad Z Z Z Z) lsq28 (pp_info C.base RZZ.out RZZ.out RZZ.out RZZ.out) ((pp_size C.base RZZ.out RZZ.out RZZ.out RZZ.out).trans (pp_size C.base RZZ.out RZZ.out RZZ.out RZZ.out).symm) (pp_one C.base RZZ.out RZZ.out RZZ.out RZZ.out) ?_))
      obtain ⟨Wq28, hWq28⟩ : ∃ W, Wq27.setRow (g0 + 1) (quad Z Z Z Z) = W := ⟨_, rfl⟩
      rw [hWq28] at HRq28 HBq28
      (try rw [hWq28])
      clear hWq28 lsq28
      (try simp only [Exit.inBlock, Exit.then])
      refine bodyPost_ret (results_ct rfl _ _ (g0 + 1) _ (quad Z Z Z Z) _ _ (.bool false) rfl rfl HRq28.out.tail.tail.tail.tail.head Try.underlying28 rfl (pp_info C.base RZZ.out RZZ.out RZZ.out RZZ.out)) rfl ?_
      have e2 : decF l = false := decF_fine (by rw [EU.out, ED.out]; exact HFI.out)
      have e1 := decP_no e2
      exact ⟨_, by rw [e2], by rw [e1]; exact ⟨_, _, _, _, _, _, _, _, rfl, RZZ.out, RZZ.out, RZZ.out, RZZ.out, pq_zero⟩, HBq28.out⟩
    · have HFI := Lib.hid hfi
      clear hfi
      refine wp_region_noPanic ?_
      refine wp_region_heldB 12 7 26 Z (by kernel_rfl) (by kernel_rfl) ⟨by kernel_rfl, by kernel_rfl, hZ, fun _ _ _ h => h⟩ (fun hA hS => ?_)
      refine' take_atB 0 hA rfl (by kernel_rfl) (by kernel_rfl) (by kernel_rfl) (by kernel_rfl) (by kernel_rfl) (by rfl) (by rfl) hS ?_ ?_ ?_
      rotate_left 2
      · intro W hSW; exact run_loadR rfl rfl (HRq16.out.below hSW).head Try.underlying26 rfl (C.base.info Rq15.out)
      · simp only [List.set_cons_succ, List.set_cons_zero]; rfl
      refine' take_atB 1 hA rfl (by kernel_rfl) (by kernel_rfl) (by kernel_rfl) (by kernel_rfl) (by kernel_rfl) (by rfl) (by rfl) hS ?_ ?_ ?_
      rotate_left 2
      · intro W hSW; exact run_loadR rfl rfl (HRq16.out.below hSW).tail.head Try.underlying26 rfl (C.base.info Rq9.out)
      · simp only [List.set_cons_succ, List.set_cons_zero]; rfl
      refine' take_atB 4 hA rfl (by kernel_rfl) (by kernel_rfl) (by kernel_rfl) (by kernel_rfl) (by kernel_rfl) (by rfl) (by rfl) hS ?_ ?_ ?_
      rotate_left 2
      · intro W hSW; exact run_loadR rfl rfl (HRq16.out.below hSW).head Try.underlying26 rfl (C.base.info Rq15.out)
      · simp only [List.set_cons_succ, List.set_cons_zero]; rfl
      refine' take_atB 6 hA rfl (by kernel_rfl) (by kernel_rfl) (by kernel_rfl) (by kernel_rfl) (by kernel_rfl) (by rfl) (by rfl) hS ?_ ?_ ?_
      rotate_left 2
      · intro W hSW; exact run_loadR rfl rfl (HRq16.out.below hSW).tail.head Try.underlying26 rfl (C.base.info Rq9.out)
      · simp only [List.set_cons_succ, List.set_cons_zero]; rfl
      refine call_atB 2 hA rfl (by kernel_rfl) (by kernel_rfl) (by kernel_rfl) (by kernel_rfl) (by rfl) (by rfl) hS (fun oq29 Xq29 hS K hK => ?_)
      go_simp
      with_reducible refine ((C.sub Rq15.out Rq9.out) _).mono ?_
      rintro e vq29 ⟨cq29, rfl, rq29, hbq29⟩
      rw [Hn17.out] at rq29
      have Rq29 := Lib.hid rq29
      clear rq29
      refine hK.out _ _ hbq29 (fun hS => ?_)
      clear hK K hbq29
      refine call_atB 3 hA rfl (by kernel_rfl) (by kernel_rfl) (by kernel_rfl) (by kernel_rfl) (by rfl) (by rfl) hS (fun oq30 Xq30 hS K hK => ?_)
      go_simp
      with_reducible refine ((ptd_any C) _).mono ?_
      rintro e vq30 ⟨cq30, rfl, rq30, hbq30⟩
      have Rq30 := Lib.hid rq30
      clear rq30
      refine hK.out _ _ hbq30 (fun hS => ?_)
      clear hK K hbq30
      refine call_atB 5 hA rfl (by kernel_rfl) (by kernel_rfl) (by kernel_rfl) (by kernel_rfl) (by rfl) (by rfl) hS (fun oq31 Xq31 hS K hK => ?_)
      go_simp
      with_reducible refine ((C.mul Rq30.out Rq15.out) _).mono ?_
      rintro e vq31 ⟨cq31, rfl, rq31, hbq31⟩
      rw [Hn18.out] at rq31
      have Rq31 := Lib.hid rq31
      clear rq31
      refine hK.out _ _ hbq31 (fun hS => ?_)
      clear hK K hbq31
      refine call_atB 7 hA rfl (by kernel_rfl) (by kernel_rfl) (by kernel_rfl) (by kernel_rfl) (by rfl) (by rfl) hS (fun oq32 Xq32 hS K hK => ?_)
      go_simp
      with_reducible refine ((C.add Rq31.out Rq9.out) _).mono ?_
      rintro e vq32 ⟨cq32, rfl, rq32, hbq32⟩
      rw [Hn19.out] at rq32
      have Rq32 := Lib.hid rq32
      clear rq32
      refine hK.out _ _ hbq32 (fun hS => ?_)
      clear hK K hbq32
      refine call_atB 8 hA rfl (by kernel_rfl) (by kernel_rfl) (by kernel_rfl) (by kernel_rfl) (by rfl) (by rfl) hS (fun oq34 Xq34 hS K hK => ?_)
      go_simp
      have Ht33 : Hid (fineN n17 n19 = true) := Lib.hid HFI.out
      have kq34 := fun W : World => (pratio_any C.pow Rq29.out Rq32.out) W
      rw [Hn20.out, Ht33.out] at kq34
      have Kq34 := Lib.hid kq34
      clear kq34
      with_reducible refine (Kq34.out _).mono ?_
      rintro e vq34 ⟨cq34, rfl, rq34, hbq34⟩
      have Rq34 := Lib.hid rq34
      clear rq34
      refine hK.out _ _ hbq34 (fun hS => ?_)
      clear hK K hbq34
      refine' take_atB 9 hA rfl (by kernel_rfl) (by kernel_rfl) (by kernel_rfl) (by kernel_rfl) (by kernel_rfl) (by rfl) (by rfl) hS ?_ ?_ ?_
      rotate_left 2
      · intro W hSW; go_simp; try with_reducible rfl
      · simp only [List.set_cons_succ, List.set_cons_zero]; rfl
      refine' take_atB 10 hA rfl (by kernel_rfl) (by kernel_rfl) (by kernel_rfl) (by kernel_rfl) (by kernel_rfl) (by rfl) (by rfl) hS ?_ ?_ ?_
      rotate_left 2
      · intro W hSW; go_simp; try with_reducible rfl
      · simp only [List.set_cons_succ, List.set_cons_zero]; rfl
      refine' take_atB 11 hA rfl (by kernel_rfl) (by kernel_rfl) (by kernel_rfl) (by kernel_rfl) (by kernel_rfl) (by rfl) (by rfl) hS ?_ ?_ ?_
      rotate_left 2
      · intro W hSW; go_simp; try with_reducible rfl
      · simp only [List.set_cons_succ, List.set_cons_zero]; rfl
      refine' store_atB 13 hA rfl (by kernel_rfl) (by kernel_rfl) (by kernel_rfl) hS (by kernel_rfl) rfl (by intro h; cases h) (C.base.info Rq34.out) (C.base.size RZZ.out Rq34.out) (C.base.one Rq34.out) ?_ ?_
      rotate_left 1
      · intro g; simp only [List.set_cons_succ, List.set_cons_zero]; rfl
      intro gq35 Wq35 hgq35 hbq35 hrowq35
      clear hA hS
      refine' take_at 14 rfl (by kernel_rfl) (by kernel_rfl) (by kernel_rfl) (fun _ _ _ h => h) (by rfl) hbq35 ?_ ?_ ?_
      rotate_left 2
      · intro W hSW; go_simp; try with_reducible rfl
      · simp only [List.set_cons_succ, List.set_cons_zero]; rfl
      refine wpAnyH_done (by kernel_rfl) ?_ _
      refine NoPanic.normal ?_
      (try simp only [Act.put])
      have HRq35 : Hid (RowsW Wq35 [(gq35, cq34, 26), (gq16, cq15, 26), (gq12, cq9, 26), (gq11, cq8, 26), ((g0 + 1), (quad Z Z Z Z), 28), (g0, (arrB l), 22)]) := Lib.hid ⟨hrowq35, HRq16.out.below hbq35⟩
      have HBq35 := Lib.hid (below_next HBq16.out hbq35)
      have NEq35_0 : Hid (g0 ≠ gq35) := Lib.hid (by have h := HRq16.out.lt (g0, (arrB l), 22) (by simp); have := hgq35; simp only at h; omega)
      have NEq35_1 : Hid ((g0 + 1) ≠ gq35) := Lib.hid (by have h := HRq16.out.lt ((g0 + 1), (quad Z Z Z Z), 28) (by simp); have := hgq35; simp only at h; omega)
      have NEq35_2 : Hid (gq11 ≠ gq35) := Lib.hid (by have h := HRq16.out.lt (gq11, cq8, 26) (by simp); have := hgq35; simp only at h; omega)
      have NEq35_3 : Hid (gq12 ≠ gq35) := Lib.hid (by have h := HRq16.out.lt (gq12, cq9, 26) (by simp); have := hgq35; simp only at h; omega)
      have NEq35_4 : Hid (gq16 ≠ gq35) := Lib.hid (by have h := HRq16.out.lt (gq16, cq15, 26) (by simp); have := hgq35; simp only at h; omega)
      have HGq35 := Lib.hid (Nat.le_trans HBq16.out.size hgq35)
      clear hrowq35 hbq35 hgq35
      go_upto_region 6 with fail
      go_upto_region 8 with fail
      obtain ⟨t, ht⟩ : ∃ t, (l.getD 31 0).toNat = t := ⟨_, rfl⟩
      have htl : t < 256 := by rw [← ht]; exact (l.getD 31 0).toNat_lt
      have HS : Hid (decS l = decide (127 < t)) := Lib.hid (by unfold decS; rw [ht])
      have cx : Wq35.cell? ⟨g0, 31, none⟩ = some (.int .u8 (t : Int)) := by rw [cell_of_row _ _ _ _ _ _ HRq35.out.tail.tail.tail.tail.tail.head, arrB_get _ _ (by rw [HL.out]; omega), ht]
      clear ht
      by_cases ho : 127 < t
      · have HOD : Hid (decS l = true) := Lib.hid (by rw [HS.out]; exact decide_eq_true ho)
        have t1 : (t : Int) / 128 = 1 := by omega
        clear ho HS
        go_upto_region 9 with fail
        clear cx t1
        by_cases hx0 : n20 = 0
        · have HX0 := Lib.hid hx0
          clear hx0
          have l36 := HRq35.out.head
          go_wp2_with (refine wpList_load_row rfl 26 (.tmp 7) rfl gq35 rfl 26 cq34 (0, 0) _ l36 Try.underlying26 rfl (C.base.info Rq34.out) ?_)
          have kq37 := fun W : World => (C.isZero Rq34.out) W
          rw [decide_eq_true (show n20 = 0 from HX0.out)] at kq37
          have Kq37 := Lib.hid kq37
          clear kq37
          with_reducible refine (Kq37.out _).mono ?_
          rintro e vq37 ⟨rfl, hbq37⟩
          have HRq37 := Lib.hid (HRq35.out.below hbq37)
          have HBq37 := Lib.hid (below_next HBq35.out hbq37)
          clear hbq37
          go_upto_region 10 with fail
          have lsq38 := HRq37.out.tail.tail.tail.tail.head
          have HRq38 : Hid (RowsW (vq37.setRow (g0 + 1) (quad Z Z Z Z)) [(gq35, cq34, 26), (gq16, cq15, 26), (gq12, cq9, 26), (gq11, cq8, 26), ((g0 + 1), (quad Z Z Z Z), 28), (g0, (arrB l), 22)]) := Lib.hid ⟨(by rw [setRow_other _ _ _ _ (Ne.symm NEq35_1.out)]; exact HRq37.out.head), (by rw [setRow_other _ _ _ _ (Ne.symm NEq16_1.out)]; exact HRq37.out.tail.head), (by rw [setRow_other _ _ _ _ (Ne.symm NEq12_1.out)]; exact HRq37.out.tail.tail.head), (by rw [setRow_other _ _ _ _ (Ne.symm NEq11_1.out)]; exact HRq37.out.tail.tail.tail.head), setRow_heap _ _ _ _ _ _ lsq38, (by rw [setRow_other _ _ _ _ (by omega)]; exact HRq37.out.tail.tail.tail.tail.tail.head), trivial⟩
          have HBq38 := Lib.hid (below_row (g := (g0 + 1)) (cs := (quad Z Z Z Z)) HBq37.out (by have := HG0.out; omega))
          go_wp2_with (first
              | (refine wpList_runsV (o := ⟨some 39, _, _, _, _, _⟩) rfl (.agg (quad Z Z Z Z)) (run_buildF0 hzP rfl) ?_)
              | (refine wpList_store_row rfl 28 (.tmp 2) (.tmp 39) rfl (g0 + 1) (quad Z Z Z Z) rfl rfl 28 (quad Z Z Z Z) lsq38 (pp_info C.base RZZ.out RZZ.out RZZ.out RZZ.out) ((pp_size C.base RZZ.out RZZ.out RZZ.out RZZ.out).trans (pp_size C.base RZZ.out RZZ.out RZZ.out RZZ.out).symm) (pp_one C.base RZZ.out RZZ.out RZZ.out RZZ.out) ?_))
          obtain ⟨Wq38, hWq38⟩ : ∃ W, vq37.setRow (g0 + 1) (quad Z Z Z Z) = W := ⟨_, rfl⟩
          rw [hWq38] at HRq38 HBq38
          (try rw [hWq38])
          clear hWq38 lsq38
          (try simp only [Exit.inBlock, Exit.then])
          refine bodyPost_ret (results_ct rfl _ _ (g0 + 1) _ (quad Z Z Z Z) _ _ (.bool false) rfl rfl HRq38.out.tail.tail.tail.tail.head Try.underlying28 rfl (pp_info C.base RZZ.out RZZ.out RZZ.out RZZ.out)) rfl ?_
          have e2 : decF l = false := decF_sign (by rw [(show ratN (upN (feN l)) (dnN (feN l)) = n20 by rw [EU.out, ED.out, Hn20.out])]; exact HX0.out) HOD.out
          have e1 := decP_no e2
          exact ⟨_, by rw [e2], by rw [e1]; exact ⟨_, _, _, _, _, _, _, _, rfl, RZZ.out, RZZ.out, RZZ.out, RZZ.out, pq_zero⟩, HBq38.out⟩
        · have HX0 := Lib.hid hx0
          clear hx0
          have l39 := HRq35.out.head
          go_wp2_with (refine wpList_load_row rfl 26 (.tmp 7) rfl gq35 rfl 26 cq34 (0, 0) _ l39 Try.underlying26 rfl (C.base.info Rq34.out) ?_)
          have kq40 := fun W : World => (C.isZero Rq34.out) W
          rw [decide_eq_false (show ¬ n20 = 0 from HX0.out)] at kq40
          have Kq40 := Lib.hid kq40
          clear kq40
          with_reducible refine (Kq40.out _).mono ?_
          rintro e vq40 ⟨rfl, hbq40⟩
          have HRq40 := Lib.hid (HRq35.out.below hbq40)
          have HBq40 := Lib.hid (below_next HBq35.out hbq40)
          clear hbq40
          go_upto_region 11 with fail
          have l41 := HRq40.out.head
          go_wp2_with (refine wpList_load_row rfl 26 (.tmp 7) rfl gq35 rfl 26 cq34 (0, 0) _ l41 Try.underlying26 rfl (C.base.info Rq34.out) ?_)
          obtain ⟨n42, hn42⟩ : ∃ x_ : Nat, (PP - n20) % PP = x_ := ⟨_, rfl⟩
          have Hn42 := Lib.hid hn42
          have HLn42 : Hid (n42 < PP) := Lib.hid (by rw [← hn42]; exact Nat.mod_lt _ (by decide))
          clear hn42
          with_reducible refine ((C.neg Rq34.out) _).mono ?_
          rintro e vq43 ⟨cq43, rfl, rq43, hbq43⟩
          rw [Hn42.out] at rq43
          have Rq43 := Lib.hid rq43
          clear rq43
          have HRq43 := Lib.hid (HRq40.out.below hbq43)
          have HBq43 := Lib.hid (below_next HBq40.out hbq43)
          clear hbq43
          have lsq44 := HRq43.out.head
          have HRq44 : Hid (RowsW (vq43.setRow gq35 cq43) [(gq35, cq43, 26), (gq16, cq15, 26), (gq12, cq9, 26), (gq11, cq8, 26), ((g0 + 1), (quad Z Z Z Z), 28), (g0, (arrB l), 22)]) := Lib.hid ⟨setRow_heap _ _ _ _ _ _ lsq44, (by rw [setRow_other _ _ _ _ NEq35_4.out]; exact HRq43.out.tail.head), (by rw [setRow_other _ _ _ _ NEq35_3.out]; exact HRq43.out.tail.tail.head), (by rw [setRow_other _ _ _ _ NEq35_2.out]; exact HRq43.out.tail.tail.tail.head), (by rw [setRow_other _ _ _ _ NEq35_1.out]; exact HRq43.out.tail.tail.tail.tail.head), (by rw [setRow_other _ _ _ _ NEq35_0.out]; exact HRq43.out.tail.tail.tail.tail.tail.head), trivial⟩
          have HBq44 := Lib.hid (below_row (g := gq35) (cs := cq43) HBq43.out HGq35.out)
          go_upto_region 12 with (refine wpList_store_row rfl 26 (.tmp 7) (.tmp 41) rfl gq35 cq43 rfl rfl 26 cq34 lsq44 (C.base.info Rq43.out) (C.base.size Rq34.out Rq43.out) (C.base.one Rq43.out) ?_)
          obtain ⟨Wq44, hWq44⟩ : ∃ W, vq43.setRow gq35 cq43 = W := ⟨_, rfl⟩
          rw [hWq44] at HRq44 HBq44
          (try rw [hWq44])
          clear hWq44 lsq44
          have l45 := HRq44.out.head
          have l46 := HRq44.out.tail.tail.tail.head
          go_wp2_with (first
              | (refine wpList_load_row rfl 26 (.tmp 7) rfl gq35 rfl 26 cq43 (0, 0) _ l45 Try.underlying26 rfl (C.base.info Rq43.out) ?_)
              | (refine wpList_load_row rfl 26 (.tmp 4) rfl gq11 rfl 26 cq8 (0, 0) _ l46 Try.underlying26 rfl (C.base.info Rq8.out) ?_))
          obtain ⟨n47, hn47⟩ : ∃ x_ : Nat, (n42 * n7) % PP = x_ := ⟨_, rfl⟩
          have Hn47 := Lib.hid hn47
          have HLn47 : Hid (n47 < PP) := Lib.hid (by rw [← hn47]; exact Nat.mod_lt _ (by decide))
          clear hn47
          have kq48 := fun W : World => (ptof_any C Rq43.out Rq8.out) W
          rw [Hn47.out] at kq48
          have Kq48 := Lib.hid kq48
          clear kq48
          with_reducible refine (Kq48.out _).mono ?_
          rintro e vq48 ⟨aq48, bq48, dq48, fq48, rfl, hRaq48, hRbq48, hRdq48, hRfq48, hbq48⟩
          have Raq48 := Lib.hid hRaq48
          have Rbq48 := Lib.hid hRbq48
          have Rdq48 := Lib.hid hRdq48
          have Rfq48 := Lib.hid hRfq48
          clear hRaq48 hRbq48 hRdq48 hRfq48
          have HRq48 := Lib.hid (HRq44.out.below hbq48)
          have HBq48 := Lib.hid (below_next HBq44.out hbq48)
          clear hbq48
          have lsq49 := HRq48.out.tail.tail.tail.tail.head
          have HRq49 : Hid (RowsW (vq48.setRow (g0 + 1) (quad aq48 bq48 dq48 fq48)) [(gq35, cq43, 26), (gq16, cq15, 26), (gq12, cq9, 26), (gq11, cq8, 26), ((g0 + 1), (quad aq48 bq48 dq48 fq48), 28), (g0, (arrB l), 22)]) := Lib.hid ⟨(by rw [setRow_other _ _ _ _ (Ne.symm NEq35_1.out)]; exact HRq48.out.head), (by rw [setRow_other _ _ _ _ (Ne.symm NEq16_1.out)]; exact HRq48.out.tail.head), (by rw [setRow_other _ _ _ _ (Ne.symm NEq12_1.out)]; exact HRq48.out.tail.tail.head), (by rw [setRow_other _ _ _ _ (Ne.symm NEq11_1.out)]; exact HRq48.out.tail.tail.tail.head), setRow_heap _ _ _ _ _ _ lsq49, (by rw [setRow_other _ _ _ _ (by omega)]; exact HRq48.out.tail.tail.tail.tail.tail.head), trivial⟩
          have HBq49 := Lib.hid (below_row (g := (g0 + 1)) (cs := (quad aq48 bq48 dq48 fq48)) HBq48.out (by have := HG0.out; omega))
          go_wp2_with (refine wpList_store_row rfl 28 (.tmp 2) (.tmp 44) rfl (g0 + 1) (quad aq48 bq48 dq48 fq48) rfl rfl 28 (quad Z Z Z Z) lsq49 (pp_info C.base Raq48.out Rbq48.out Rdq48.out Rfq48.out) ((pp_size C.base RZZ.out RZZ.out RZZ.out RZZ.out).trans (pp_size C.base Raq48.out Rbq48.out Rdq48.out Rfq48.out).symm) (pp_one C.base Raq48.out Rbq48.out Rdq48.out Rfq48.out) ?_)
          obtain ⟨Wq49, hWq49⟩ : ∃ W, vq48.setRow (g0 + 1) (quad aq48 bq48 dq48 fq48) = W := ⟨_, rfl⟩
          rw [hWq49] at HRq49 HBq49
          (try rw [hWq49])
          clear hWq49 lsq49
          (try simp only [Exit.inBlock, Exit.then])
          refine bodyPost_ret (results_ct rfl _ _ (g0 + 1) _ (quad aq48 bq48 dq48 fq48) _ _ (.bool true) rfl rfl HRq49.out.tail.tail.tail.tail.head Try.underlying28 rfl (pp_info C.base Raq48.out Rbq48.out Rdq48.out Rfq48.out)) rfl ?_
          have e2 : decF l = true := decF_of HCA.out (by rw [EU.out, ED.out]; exact HFI.out) (by rw [(show ratN (upN (feN l)) (dnN (feN l)) = n20 by rw [EU.out, ED.out, Hn20.out])]; intro e; exact absurd e HX0.out)
          have ex : decX l = n42 := by unfold decX; rw [(show ratN (upN (feN l)) (dnN (feN l)) = n20 by rw [EU.out, ED.out, Hn20.out]), HOD.out, ← Hn42.out]; rfl
          obtain ⟨ea, eb⟩ := decP_xy e2
          rw [ex] at ea
          rw [Hn7.out] at eb
          exact ⟨_, by rw [e2], ⟨_, _, _, _, _, _, _, _, rfl, Raq48.out, Rbq48.out, Rdq48.out, Rfq48.out, .inl (by rw [← Hn47.out]; exact co_of ea eb)⟩, HBq49.out⟩
      · have HOD : Hid (decS l = false) := Lib.hid (by rw [HS.out]; exact decide_eq_false ho)
        have t1 : (t : Int) / 128 = 0 := by omega
        clear ho HS
        go_upto_region 12 with fail
        clear cx t1
        have l50 := HRq35.out.head
        have l51 := HRq35.out.tail.tail.tail.head
        go_wp2_with (first
            | (refine wpList_load_row rfl 26 (.tmp 7) rfl gq35 rfl 26 cq34 (0, 0) _ l50 Try.underlying26 rfl (C.base.info Rq34.out) ?_)
            | (refine wpList_load_row rfl 26 (.tmp 4) rfl gq11 rfl 26 cq8 (0, 0) _ l51 Try.underlying26 rfl (C.base.info Rq8.out) ?_))
        obtain ⟨n52, hn52⟩ : ∃ x_ : Nat, (n20 * n7) % PP = x_ := ⟨_, rfl⟩
        have Hn52 := Lib.hid hn52
        have HLn52 : Hid (n52 < PP) := Lib.hid (by rw [← hn52]; exact Nat.mod_lt _ (by decide))
        clear hn52
        have kq53 := fun W : World => (ptof_any C Rq34.out Rq8.out) W
        rw [Hn52.out] at kq53
        have Kq53 := Lib.hid kq53
        clear kq53
        with_reducible refine (Kq53.out _).mono ?_
        rintro e vq53 ⟨aq53, bq53, dq53, fq53, rfl, hRaq53, hRbq53, hRdq53, hRfq53, hbq53⟩
        have Raq53 := Lib.hid hRaq53
        have Rbq53 := Lib.hid hRbq53
        have Rdq53 := Lib.hid hRdq53
        have Rfq53 := Lib.hid hRfq53
        clear hRaq53 hRbq53 hRdq53 hRfq53
        have HRq53 := Lib.hid (HRq35.out.below hbq53)
        have HBq53 := Lib.hid (below_next HBq35.out hbq53)
        clear hbq53
        have lsq54 := HRq53.out.tail.tail.tail.tail.head
        have HRq54 : Hid (RowsW (vq53.setRow (g0 + 1) (quad aq53 bq53 dq53 fq53)) [(gq35, cq34, 26), (gq16, cq15, 26), (gq12, cq9, 26), (gq11, cq8, 26), ((g0 + 1), (quad aq53 bq53 dq53 fq53), 28), (g0, (arrB l), 22)]) := Lib.hid ⟨(by rw [setRow_other _ _ _ _ (Ne.symm NEq35_1.out)]; exact HRq53.out.head), (by rw [setRow_other _ _ _ _ (Ne.symm NEq16_1.out)]; exact HRq53.out.tail.head), (by rw [setRow_other _ _ _ _ (Ne.symm NEq12_1.out)]; exact HRq53.out.tail.tail.head), (by rw [setRow_other _ _ _ _ (Ne.symm NEq11_1.out)]; exact HRq53.out.tail.tail.tail.head), setRow_heap _ _ _ _ _ _ lsq54, (by rw [setRow_other _ _ _ _ (by omega)]; exact HRq53.out.tail.tail.tail.tail.tail.head), trivial⟩
        have HBq54 := Lib.hid (below_row (g := (g0 + 1)) (cs := (quad aq53 bq53 dq53 fq53)) HBq53.out (by have := HG0.out; omega))
        go_wp2_with (refine wpList_store_row rfl 28 (.tmp 2) (.tmp 44) rfl (g0 + 1) (quad aq53 bq53 dq53 fq53) rfl rfl 28 (quad Z Z Z Z) lsq54 (pp_info C.base Raq53.out Rbq53.out Rdq53.out Rfq53.out) ((pp_size C.base RZZ.out RZZ.out RZZ.out RZZ.out).trans (pp_size C.base Raq53.out Rbq53.out Rdq53.out Rfq53.out).symm) (pp_one C.base Raq53.out Rbq53.out Rdq53.out Rfq53.out) ?_)
        obtain ⟨Wq54, hWq54⟩ : ∃ W, vq53.setRow (g0 + 1) (quad aq53 bq53 dq53 fq53) = W := ⟨_, rfl⟩
        rw [hWq54] at HRq54 HBq54
        (try rw [hWq54])
        clear hWq54 lsq54
        (try simp only [Exit.inBlock, Exit.then])
        refine bodyPost_ret (results_ct rfl _ _ (g0 + 1) _ (quad aq53 bq53 dq53 fq53) _ _ (.bool true) rfl rfl HRq54.out.tail.tail.tail.tail.head Try.underlying28 rfl (pp_info C.base Raq53.out Rbq53.out Rdq53.out Rfq53.out)) rfl ?_
        have e2 : decF l = true := decF_of HCA.out (by rw [EU.out, ED.out]; exact HFI.out) (by rw [(show ratN (upN (feN l)) (dnN (feN l)) = n20 by rw [EU.out, ED.out, Hn20.out])]; intro _; exact HOD.out)
        have ex : decX l = n20 := by unfold decX; rw [(show ratN (upN (feN l)) (dnN (feN l)) = n20 by rw [EU.out, ED.out, Hn20.out]), HOD.out]; rfl
        obtain ⟨ea, eb⟩ := decP_xy e2
        rw [ex] at ea
        rw [Hn7.out] at eb
        exact ⟨_, by rw [e2], ⟨_, _, _, _, _, _, _, _, rfl, Raq53.out, Rbq53.out, Rdq53.out, Rfq53.out, .inl (by rw [← Hn52.out]; exact co_of ea eb)⟩, HBq54.out⟩
set_option maxHeartbeats 3200000 in
theorem ptencode_any {R : Array Value → Nat → Prop} (C : FeC R) {a1 b1 d1 f1 : Array Value} {X1 Y1 Z1 T1 : Nat} {p1 : PtD} (ha1 : R a1 X1) (hb1 : R b1 Y1) (hd1 : R d1 Z1) (hf1 : R f1 T1) (hP1 : Pq X1 Y1 Z1 T1 p1) (w : World) : Calls Try.prog 11 #[.agg (quad a1 b1 d1 f1)] w (RetV w (.agg (bytT (F25519.encN p1)))) := by
  have Ra1 := Lib.hid ha1
  have Rb1 := Lib.hid hb1
  have Rd1 := Lib.hid hd1
  have Rf1 := Lib.hid hf1
  clear ha1 hb1 hd1 hf1
  have LX1 : Hid (X1 < PP) := Lib.hid (C.base.lt Ra1.out)
  have LY1 : Hid (Y1 < PP) := Lib.hid (C.base.lt Rb1.out)
  have LZ1 : Hid (Z1 < PP) := Lib.hid (C.base.lt Rd1.out)
  have LT1 : Hid (T1 < PP) := Lib.hid (C.base.lt Rf1.out)
  have HP1 := Lib.hid hP1
  clear hP1
  obtain ⟨Z, hZ, rZ⟩ := C.base.zero
  have RZZ := Lib.hid rZ
  have hzP := zp_of hZ
  have hz32 := zero32_zero
  clear rZ
  have HR0 := Lib.hid (((RowsW.nil w).box (quad a1 b1 d1 f1) 28).box zero32 22)
  have HB0 := Lib.hid (below_box (below_box (Below.refl w.heap.size w) (quad a1 b1 d1 f1) 28) zero32 22)
  rw [World.size_alloc] at HR0
  go_enter Try.func11, Try.ntmps11
  go_upto_region 1 with fail
  obtain ⟨W0, hW0⟩ : ∃ W, ((w.alloc (.cells (quad a1 b1 d1 f1) 28)).alloc (.cells zero32 22)) = W := ⟨_, rfl⟩
  obtain ⟨g0, hg0⟩ : ∃ g, w.heap.size = g := ⟨_, rfl⟩
  rw [hW0] at HR0 HB0
  rw [hg0] at HR0
  rw [hW0, hg0]
  have HG0 := Lib.hid hg0
  clear hW0 hg0
  have l1 := HR0.out.tail.head
  go_wp2_with (refine wpList_load_row rfl 28 (.tmp 1) rfl g0 rfl 28 (quad a1 b1 d1 f1) (0, 0) _ l1 Try.underlying28 rfl (pp_info C.base Ra1.out Rb1.out Rd1.out Rf1.out) ?_)
  have kq2 := fun W : World => (ptfilled_any C Ra1.out Rb1.out Rd1.out Rf1.out HP1.out) W
  have Kq2 := Lib.hid kq2
  clear kq2
  with_reducible refine (Kq2.out _).mono ?_
  rintro e vq2 ⟨aq2, bq2, dq2, fq2, Xq2, Yq2, Zq2, Tq2, rfl, hRaq2, hRbq2, hRdq2, hRfq2, hCq2, hbq2⟩
  have Raq2 := Lib.hid hRaq2
  have Rbq2 := Lib.hid hRbq2
  have Rdq2 := Lib.hid hRdq2
  have Rfq2 := Lib.hid hRfq2
  clear hRaq2 hRbq2 hRdq2 hRfq2
  have HCq2 := Lib.hid hCq2
  clear hCq2
  have HRq2 := Lib.hid (HR0.out.below hbq2)
  have HBq2 := Lib.hid (below_next HB0.out hbq2)
  clear hbq2
  have lsq3 := HRq2.out.tail.head
  have HRq3 : Hid (RowsW (vq2.setRow g0 (quad aq2 bq2 dq2 fq2)) [((g0 + 1), zero32, 22), (g0, (quad aq2 bq2 dq2 fq2), 28)]) := Lib.hid ⟨(by rw [setRow_other _ _ _ _ (Ne.symm (by omega))]; exact HRq2.out.head), setRow_heap _ _ _ _ _ _ lsq3, trivial⟩
  have HBq3 := Lib.hid (below_row (g := g0) (cs := (quad aq2 bq2 dq2 fq2)) HBq2.out (by have := HG0.out; omega))
  go_upto_region 2 with (refine wpList_store_row rfl 28 (.tmp 1) (.tmp 6) rfl g0 (quad aq2 bq2 dq2 fq2) rfl rfl 28 (quad a1 b1 d1 f1) lsq3 (pp_info C.base Raq2.out Rbq2.out Rdq2.out Rfq2.out) ((pp_size C.base Ra1.out Rb1.out Rd1.out Rf1.out).trans (pp_size C.base Raq2.out Rbq2.out Rdq2.out Rfq2.out).symm) (pp_one C.base Raq2.out Rbq2.out Rdq2.out Rfq2.out) ?_)
  obtain ⟨Wq3, hWq3⟩ : ∃ W, vq2.setRow g0 (quad aq2 bq2 dq2 fq2) = W := ⟨_, rfl⟩
  rw [hWq3] at HRq3 HBq3
  (try rw [hWq3])
  clear hWq3 lsq3
  obtain ⟨CX, CY⟩ := co_enc HCq2.out
  have l4 := HRq3.out.tail.head
  go_wp2_with (refine wpList_runsV (o := ⟨some 8, _, _, _, _, _⟩) rfl (.agg dq2) (run_loadP rfl rfl l4 Try.underlying26 rfl (C.base.info Rdq2.out) (pp_2 (fe5 C.base Raq2.out) (fe5 C.base Rbq2.out))) ?_)
  obtain ⟨n5, hn5⟩ : ∃ y_ : Nat, invN Zq2 = y_ := ⟨_, rfl⟩
  have Hn5 := Lib.hid hn5
  have HLn5 : Hid (n5 < PP) := Lib.hid (by rw [← hn5]; exact invN_lt _)
  clear hn5
  with_reducible refine ((pinvert_any C.pow Rdq2.out) _).mono ?_
  rintro e vq6 ⟨cq6, rfl, rq6, hbq6⟩
  rw [Hn5.out] at rq6
  have Rq6 := Lib.hid rq6
  clear rq6
  have HRq6 := Lib.hid (HRq3.out.below hbq6)
  have HBq6 := Lib.hid (below_next HBq3.out hbq6)
  clear hbq6
  have h0q7 : (vq6.alloc (.cells Z 26)).heap[vq6.heap.size]? = some (.cells Z 26 (0, 0)) := heap_alloc_new _ _
  have HRq7 := Lib.hid (HRq6.out.new Z cq6 26)
  have HBq7 := Lib.hid (below_new HBq6.out Z cq6 26)
  have HNq7 := Lib.hid HRq6.out.ne
  have HGq7 := Lib.hid HBq6.out.size
  go_upto_region 3 with (refine wpList_store_row rfl 26 (.tmp 3) (.tmp 9) rfl vq6.heap.size cq6 rfl rfl 26 Z h0q7 (C.base.info Rq6.out) (C.base.size RZZ.out Rq6.out) (C.base.one Rq6.out) ?_)
  obtain ⟨Wq7, hWq7⟩ : ∃ W, (vq6.alloc (.cells Z 26)).setRow vq6.heap.size cq6 = W := ⟨_, rfl⟩
  obtain ⟨gq7, hgq7⟩ : ∃ g, vq6.heap.size = g := ⟨_, rfl⟩
  rw [hWq7, hgq7] at HRq7
  rw [hWq7] at HBq7
  rw [hgq7] at HNq7 HGq7
  rw [hWq7, hgq7]
  clear hWq7 hgq7 h0q7
  have NEq7_0 : Hid (g0 ≠ gq7) := Lib.hid (HNq7.out (g0, (quad aq2 bq2 dq2 fq2), 28) (by simp))
  have NEq7_1 : Hid ((g0 + 1) ≠ gq7) := Lib.hid (HNq7.out ((g0 + 1), zero32, 22) (by simp))
  have l8 := HRq7.out.tail.tail.head
  have l9 := HRq7.out.head
  go_wp2_with (first
      | (refine wpList_runsV (o := ⟨some 11, _, _, _, _, _⟩) rfl (.agg bq2) (run_loadP rfl rfl l8 Try.underlying26 rfl (C.base.info Rbq2.out) (pp_1 (fe5 C.base Raq2.out))) ?_)
      | (refine wpList_load_row rfl 26 (.tmp 3) rfl gq7 rfl 26 cq6 (0, 0) _ l9 Try.underlying26 rfl (C.base.info Rq6.out) ?_))
  obtain ⟨n10, hn10⟩ : ∃ x_ : Nat, (Yq2 * n5) % PP = x_ := ⟨_, rfl⟩
  have Hn10 := Lib.hid hn10
  have HLn10 : Hid (n10 < PP) := Lib.hid (by rw [← hn10]; exact Nat.mod_lt _ (by decide))
  clear hn10
  with_reducible refine ((C.mul Rbq2.out Rq6.out) _).mono ?_
  rintro e vq11 ⟨cq11, rfl, rq11, hbq11⟩
  rw [Hn10.out] at rq11
  have Rq11 := Lib.hid rq11
  clear rq11
  have HRq11 := Lib.hid (HRq7.out.below hbq11)
  have HBq11 := Lib.hid (below_next HBq7.out hbq11)
  clear hbq11
  go_wp2_with fail
  with_reducible refine ((C.bytes Rq11.out) _).mono ?_
  rintro e vq12 ⟨rfl, hbq12⟩
  have HRq12 := Lib.hid (HRq11.out.below hbq12)
  have HBq12 := Lib.hid (below_next HBq11.out hbq12)
  clear hbq12
  have h0q13 : (vq12.alloc (.cells zero32 22)).heap[vq12.heap.size]? = some (.cells zero32 22 (0, 0)) := heap_alloc_new _ _
  have HRq13 := Lib.hid (HRq12.out.new zero32 (bytT n10) 22)
  have HBq13 := Lib.hid (below_new HBq12.out zero32 (bytT n10) 22)
  have HNq13 := Lib.hid HRq12.out.ne
  have HGq13 := Lib.hid HBq12.out.size
  go_upto_region 4 with (refine wpList_store_row rfl 22 (.tmp 4) (.tmp 14) rfl vq12.heap.size (bytT n10) rfl rfl 22 zero32 h0q13 (bytT_info _) (zero32_byt _) (bytT_one _) ?_)
  obtain ⟨Wq13, hWq13⟩ : ∃ W, (vq12.alloc (.cells zero32 22)).setRow vq12.heap.size (bytT n10) = W := ⟨_, rfl⟩
  obtain ⟨gq13, hgq13⟩ : ∃ g, vq12.heap.size = g := ⟨_, rfl⟩
  rw [hWq13, hgq13] at HRq13
  rw [hWq13] at HBq13
  rw [hgq13] at HNq13 HGq13
  rw [hWq13, hgq13]
  clear hWq13 hgq13 h0q13
  have NEq13_0 : Hid (g0 ≠ gq13) := Lib.hid (HNq13.out (g0, (quad aq2 bq2 dq2 fq2), 28) (by simp))
  have NEq13_1 : Hid ((g0 + 1) ≠ gq13) := Lib.hid (HNq13.out ((g0 + 1), zero32, 22) (by simp))
  have NEq13_2 : Hid (gq7 ≠ gq13) := Lib.hid (HNq13.out (gq7, cq6, 26) (by simp))
  obtain ⟨n14, hn14⟩ : ∃ x_ : Nat, (Xq2 * n5) % PP = x_ := ⟨_, rfl⟩
  have Hn14 := Lib.hid hn14
  have HLn14 : Hid (n14 < PP) := Lib.hid (by rw [← hn14]; exact Nat.mod_lt _ (by decide))
  clear hn14
  have HX : Hid (n14 = p1.x.val) := Lib.hid (by rw [← Hn14.out, ← Hn5.out]; exact CX)
  have HY : Hid (n10 = p1.y.val) := Lib.hid (by rw [← Hn10.out, ← Hn5.out]; exact CY)
  clear CX CY
  by_cases ho : n14 % 2 = 1
  · have HO := Lib.hid ho
    clear ho
    have l15 := HRq13.out.tail.tail.tail.head
    have l16 := HRq13.out.tail.head
    go_wp2_with (first
        | (refine wpList_runsV (o := ⟨some 16, _, _, _, _, _⟩) rfl (.agg aq2) (run_loadP rfl rfl l15 Try.underlying26 rfl (C.base.info Raq2.out) pp_0) ?_)
        | (refine wpList_load_row rfl 26 (.tmp 3) rfl gq7 rfl 26 cq6 (0, 0) _ l16 Try.underlying26 rfl (C.base.info Rq6.out) ?_))
    with_reducible refine ((C.mul Raq2.out Rq6.out) _).mono ?_
    rintro e vq17 ⟨cq17, rfl, rq17, hbq17⟩
    rw [Hn14.out] at rq17
    have Rq17 := Lib.hid rq17
    clear rq17
    have HRq17 := Lib.hid (HRq13.out.below hbq17)
    have HBq17 := Lib.hid (below_next HBq13.out hbq17)
    clear hbq17
    go_wp2_with fail
    have Ht18 : Hid (decide (n14 % 2 = 1) = true) := Lib.hid (decide_eq_true HO.out)
    have kq19 := fun W : World => (C.odd Rq17.out) W
    rw [Ht18.out] at kq19
    have Kq19 := Lib.hid kq19
    clear kq19
    with_reducible refine (Kq19.out _).mono ?_
    rintro e vq19 ⟨rfl, hbq19⟩
    have HRq19 := Lib.hid (HRq17.out.below hbq19)
    have HBq19 := Lib.hid (below_next HBq17.out hbq19)
    clear hbq19
    go_upto_region 5 with fail
    obtain ⟨t, ht⟩ : ∃ t, ((leB 32 n10).getD 31 0).toNat = t := ⟨_, rfl⟩
    have htl : t < 128 := by rw [← ht, leB_get 32 n10 31 (by omega)]; have h := HLn10.out; rw [P31]; unfold PP at h; simp; omega
    have cx : vq19.cell? ⟨gq13, 31, none⟩ = some (.int .u8 (t : Int)) := by rw [cell_of_row _ _ _ _ _ _ HRq19.out.head, bytT_get _ _ (by omega), ht]
    have fx := frozen_row HRq19.out.head 31
    have e128 : (((leB 32 n10).getD 31 0 + 128).toNat : Int) = ((t + 128 : Nat) : Int) := by rw [UInt8.toNat_add, ht]; simp; omega
    have hor : bits .or .u8 (t : Int) 128 = ((t + 128 : Nat) : Int) := or128 t htl
    have hs := HRq19.out.set HNq13.out 31 (.int .u8 (((leB 32 n10).getD 31 0 + 128).toNat : Int))
    rw [show bytT n10 = arrB (leB 32 n10) from rfl, arrB_set, e128] at hs
    have hb9 := HBq19.out.setCell (p := ⟨gq13, 31, none⟩) (by show w.heap.size ≤ gq13; exact HGq13.out) (.int .u8 ((t + 128 : Nat) : Int))
    obtain ⟨t9, ht9⟩ : ∃ t9 : Nat, t + 128 = t9 := ⟨_, rfl⟩
    rw [ht9] at hs hb9 hor
    have HE9 : Hid (arrB (leB 32 (F25519.encN p1)) = arrB ((leB 32 n10).set 31 ((leB 32 n10).getD 31 0 + 128))) := Lib.hid (by rw [enc_bytes, if_pos (by rw [← HX.out]; exact HO.out), ← HY.out])
    have iA : (Try.prog.info? 22).map (·.size) = some (arrB ((leB 32 n10).set 31 ((leB 32 n10).getD 31 0 + 128))).size := arr32_info (by rw [List.length_set, leB_len])
    have zA : zero32.size = (arrB ((leB 32 n10).set 31 ((leB 32 n10).getD 31 0 + 128))).size := zero32_size (by rw [List.length_set, leB_len])
    have oA := arrB_one ((leB 32 n10).set 31 ((leB 32 n10).getD 31 0 + 128))
    generalize arrB ((leB 32 n10).set 31 ((leB 32 n10).getD 31 0 + 128)) = A9 at *
    obtain ⟨W9, hW9⟩ : ∃ W9, vq19.setCell ⟨gq13, 31, none⟩ (.int .u8 (t9 : Int)) = W9 := ⟨_, rfl⟩
    rw [hW9] at hs hb9
    have HR9 := Lib.hid hs
    have HB9 := Lib.hid hb9
    have HW9 := Lib.hid hW9
    have h9 : t9 < 256 := by omega
    clear hs hb9 hW9 ht e128 ht9
    go_upto_region 6 with fail
    rw [HW9.out]
    clear HW9 cx fx hor htl
    have l20 := HR9.out.head
    have lsq21 := HR9.out.tail.tail.head
    have HRq21 : Hid (RowsW (W9.setRow (g0 + 1) A9) [(gq13, A9, 22), (gq7, cq6, 26), ((g0 + 1), A9, 22), (g0, (quad aq2 bq2 dq2 fq2), 28)]) := Lib.hid ⟨(by rw [setRow_other _ _ _ _ (Ne.symm NEq13_1.out)]; exact HR9.out.head), (by rw [setRow_other _ _ _ _ (Ne.symm NEq7_1.out)]; exact HR9.out.tail.head), setRow_heap _ _ _ _ _ _ lsq21, (by rw [setRow_other _ _ _ _ (by omega)]; exact HR9.out.tail.tail.tail.head), trivial⟩
    have HBq21 := Lib.hid (below_row (g := (g0 + 1)) (cs := A9) HB9.out (by have := HG0.out; omega))
    go_wp2_with (first
        | (refine wpList_load_row rfl 22 (.tmp 4) rfl gq13 rfl 22 A9 (0, 0) _ l20 Try.underlying22 rfl iA ?_)
        | (refine wpList_store_row rfl 22 (.tmp 2) (.tmp 24) rfl (g0 + 1) A9 rfl rfl 22 zero32 lsq21 iA zA oA ?_))
    obtain ⟨Wq21, hWq21⟩ : ∃ W, W9.setRow (g0 + 1) A9 = W := ⟨_, rfl⟩
    rw [hWq21] at HRq21 HBq21
    (try rw [hWq21])
    clear hWq21 lsq21
    (try simp only [Exit.inBlock, Exit.then])
    refine bodyPost_ret (results_cell_row rfl _ _ (g0 + 1) _ A9 _ _ rfl HRq21.out.tail.tail.head Try.underlying22 rfl iA) rfl ?_
    exact ⟨by rw [show bytT (F25519.encN p1) = A9 from HE9.out], HBq21.out⟩
  · have HO := Lib.hid ho
    clear ho
    have l22 := HRq13.out.tail.tail.tail.head
    have l23 := HRq13.out.tail.head
    go_wp2_with (first
        | (refine wpList_runsV (o := ⟨some 16, _, _, _, _, _⟩) rfl (.agg aq2) (run_loadP rfl rfl l22 Try.underlying26 rfl (C.base.info Raq2.out) pp_0) ?_)
        | (refine wpList_load_row rfl 26 (.tmp 3) rfl gq7 rfl 26 cq6 (0, 0) _ l23 Try.underlying26 rfl (C.base.info Rq6.out) ?_))
    with_reducible refine ((C.mul Raq2.out Rq6.out) _).mono ?_
    rintro e vq24 ⟨cq24, rfl, rq24, hbq24⟩
    rw [Hn14.out] at rq24
    have Rq24 := Lib.hid rq24
    clear rq24
    have HRq24 := Lib.hid (HRq13.out.below hbq24)
    have HBq24 := Lib.hid (below_next HBq13.out hbq24)
    clear hbq24
    go_wp2_with fail
    have Ht25 : Hid (decide (n14 % 2 = 1) = false) := Lib.hid (decide_eq_false HO.out)
    have kq26 := fun W : World => (C.odd Rq24.out) W
    rw [Ht25.out] at kq26
    have Kq26 := Lib.hid kq26
    clear kq26
    with_reducible refine (Kq26.out _).mono ?_
    rintro e vq26 ⟨rfl, hbq26⟩
    have HRq26 := Lib.hid (HRq24.out.below hbq26)
    have HBq26 := Lib.hid (below_next HBq24.out hbq26)
    clear hbq26
    go_upto_region 6 with fail
    have l27 := HRq26.out.head
    have lsq28 := HRq26.out.tail.tail.head
    have HRq28 : Hid (RowsW (vq26.setRow (g0 + 1) (bytT n10)) [(gq13, (bytT n10), 22), (gq7, cq6, 26), ((g0 + 1), (bytT n10), 22), (g0, (quad aq2 bq2 dq2 fq2), 28)]) := Lib.hid ⟨(by rw [setRow_other _ _ _ _ (Ne.symm NEq13_1.out)]; exact HRq26.out.head), (by rw [setRow_other _ _ _ _ (Ne.symm NEq7_1.out)]; exact HRq26.out.tail.head), setRow_heap _ _ _ _ _ _ lsq28, (by rw [setRow_other _ _ _ _ (by omega)]; exact HRq26.out.tail.tail.tail.head), trivial⟩
    have HBq28 := Lib.hid (below_row (g := (g0 + 1)) (cs := (bytT n10)) HBq26.out (by have := HG0.out; omega))
    go_wp2_with (first
        | (refine wpList_load_row rfl 22 (.tmp 4) rfl gq13 rfl 22 (bytT n10) (0, 0) _ l27 Try.underlying22 rfl (bytT_info _) ?_)
        | (refine wpList_store_row rfl 22 (.tmp 2) (.tmp 24) rfl (g0 + 1) (bytT n10) rfl rfl 22 zero32 lsq28 (bytT_info _) (zero32_byt _) (bytT_one _) ?_))
    obtain ⟨Wq28, hWq28⟩ : ∃ W, vq26.setRow (g0 + 1) (bytT n10) = W := ⟨_, rfl⟩
    rw [hWq28] at HRq28 HBq28
    (try rw [hWq28])
    clear hWq28 lsq28
    (try simp only [Exit.inBlock, Exit.then])
    refine bodyPost_ret (results_cell_row rfl _ _ (g0 + 1) _ (bytT n10) _ _ rfl HRq28.out.tail.tail.head Try.underlying22 rfl (bytT_info _)) rfl ?_
    exact ⟨by rw [show bytT (F25519.encN p1) = (bytT n10) from by { unfold bytT; rw [enc_bytes, if_neg (by rw [← HX.out]; exact HO.out), ← HY.out] }], HBq28.out⟩
end Go.Proofs.Ytfejabfmhddepaa

