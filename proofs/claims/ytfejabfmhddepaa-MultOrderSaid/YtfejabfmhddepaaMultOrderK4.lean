/-
  A part of what the proof of MultOrder rests on: plain lemmas and contracts of the functions that it calls. No conditions but what each theorem states.
-/
import Derived.Test.YtfejabfmhddepaaMultOrderK3
import Derived.Deep.QuietTactic
import Derived.BigQuiet
import Derived.StillTailTactics
import Derived.Laws.CopyOwn
namespace Go.Proofs.Ytfejabfmhddepaa
open Go.RowKit
set_option linter.unusedVariables false
set_option maxRecDepth 100000
theorem or128 (t : Nat) (h : t < 128) : bits .or .u8 (t : Int) 128 = ((t + 128 : Nat) : Int) := by
  have : ∀ t : Fin 128, bits .or .u8 ((t.val : Nat) : Int) 128 = ((t.val + 128 : Nat) : Int) := by decide +kernel
  exact this ⟨t, h⟩
set_option maxHeartbeats 3200000 in
theorem ptdecode_any {R : Array Value → Nat → Prop} (C : FeC R) {l : List UInt8} (hl : l.length = 32) (w : World) : Calls Try.prog 29 #[.agg (arrB l)] w (RetPtB (ptRof R) w (decP l) (decF l)) := by
  have HL := Lib.hid hl
  clear hl
  obtain ⟨Z, hZ, rZ⟩ := C.base.zero
  have RZZ := Lib.hid rZ
  have hzP := zp_of hZ
  have hz32 := zero32_zero
  clear rZ
  have HR0 := Lib.hid (((RowsW.nil w).box (arrB l) 22).box (quad Z Z Z Z) 28)
  have HB0 := Lib.hid (below_box (below_box (Below.refl w.heap.size w) (arrB l) 22) (quad Z Z Z Z) 28)
  rw [World.size_alloc] at HR0
  go_enter Try.func29, Try.ntmps29
  go_upto_region 1 with fail
  obtain ⟨W0, hW0⟩ : ∃ W, ((w.alloc (.cells (arrB l) 22)).alloc (.cells (quad Z Z Z Z) 28)) = W := ⟨_, rfl⟩
  obtain ⟨g0, hg0⟩ : ∃ g, w.heap.size = g := ⟨_, rfl⟩
  rw [hW0] at HR0 HB0
  rw [hg0] at HR0
  rw [hW0, hg0]
  have HG0 := Lib.hid hg0
  clear hW0 hg0
  cases hcan : canN l
  · have HCA := Lib.hid hcan
    clear hcan
    have l1 := HR0.out.tail.head
    go_wp2_with (refine wpList_load_row rfl 22 (.tmp 1) rfl g0 rfl 22 (arrB l) (0, 0) _ l1 Try.underlying22 rfl (arr32_info HL.out) ?_)
    have kq2 := fun W : World => (C.can l HL.out) W
    rw [HCA.out] at kq2
    have Kq2 := Lib.hid kq2
    clear kq2
    with_reducible refine (Kq2.out _).mono ?_
    rintro e vq2 ⟨rfl, hbq2⟩
    have HRq2 := Lib.hid (HR0.out.below hbq2)
    have HBq2 := Lib.hid (below_next HB0.out hbq2)
    clear hbq2
    go_upto_region 2 with fail
    have lsq3 := HRq2.out.head
    have HRq3 : Hid (RowsW (vq2.setRow (g0 + 1) (quad Z Z Z Z)) [((g0 + 1), (quad Z Z Z Z), 28), (g0, (arrB l), 22)]) := Lib.hid ⟨setRow_heap _ _ _ _ _ _ lsq3, (by rw [setRow_other _ _ _ _ (by omega)]; exact HRq2.out.tail.head), trivial⟩
    have HBq3 := Lib.hid (below_row (g := (g0 + 1)) (cs := (quad Z Z Z Z)) HBq2.out (by have := HG0.out; omega))
    go_wp2_with (first
        | (refine wpList_runsV (o := ⟨some 12, _, _, _, _, _⟩) rfl (.agg (quad Z Z Z Z)) (run_buildF0 hzP rfl) ?_)
        | (refine wpList_store_row rfl 28 (.tmp 2) (.tmp 12) rfl (g0 + 1) (quad Z Z Z Z) rfl rfl 28 (quad Z Z Z Z) lsq3 (pp_info C.base RZZ.out RZZ.out RZZ.out RZZ.out) ((pp_size C.base RZZ.out RZZ.out RZZ.out RZZ.out).trans (pp_size C.base RZZ.out RZZ.out RZZ.out RZZ.out).symm) (pp_one C.base RZZ.out RZZ.out RZZ.out RZZ.out) ?_))
    obtain ⟨Wq3, hWq3⟩ : ∃ W, vq2.setRow (g0 + 1) (quad Z Z Z Z) = W := ⟨_, rfl⟩
    rw [hWq3] at HRq3 HBq3
    (try rw [hWq3])
    clear hWq3 lsq3
    (try simp only [Exit.inBlock, Exit.then])
    refine bodyPost_ret (results_ct rfl _ _ (g0 + 1) _ (quad Z Z Z Z) _ _ (.bool false) rfl rfl HRq3.out.head Try.underlying28 rfl (pp_info C.base RZZ.out RZZ.out RZZ.out RZZ.out)) rfl ?_
    have e2 : decF l = false := decF_can HCA.out
    have e1 := decP_no e2
    exact ⟨_, by rw [e2], by rw [e1]; exact ⟨_, _, _, _, _, _, _, _, rfl, RZZ.out, RZZ.out, RZZ.out, RZZ.out, pq_zero⟩, HBq3.out⟩
  · have HCA := Lib.hid hcan
    clear hcan
    have l4 := HR0.out.tail.head
    go_wp2_with (refine wpList_load_row rfl 22 (.tmp 1) rfl g0 rfl 22 (arrB l) (0, 0) _ l4 Try.underlying22 rfl (arr32_info HL.out) ?_)
    have kq5 := fun W : World => (C.can l HL.out) W
    rw [HCA.out] at kq5
    have Kq5 := Lib.hid kq5
    clear kq5
    with_reducible refine (Kq5.out _).mono ?_
    rintro e vq5 ⟨rfl, hbq5⟩
    have HRq5 := Lib.hid (HR0.out.below hbq5)
    have HBq5 := Lib.hid (below_next HB0.out hbq5)
    clear hbq5
    go_upto_region 3 with fail
    have l6 := HRq5.out.tail.head
    go_wp2_with (refine wpList_load_row rfl 22 (.tmp 1) rfl g0 rfl 22 (arrB l) (0, 0) _ l6 Try.underlying22 rfl (arr32_info HL.out) ?_)
    obtain ⟨n7, hn7⟩ : ∃ x_ : Nat, feN l = x_ := ⟨_, rfl⟩
    have Hn7 := Lib.hid hn7
    have HLn7 : Hid (n7 < PP) := Lib.hid (by rw [← hn7]; exact Nat.mod_lt _ (by decide))
    clear hn7
    with_reducible refine ((C.from_ l HL.out) _).mono ?_
    rintro e vq8 ⟨cq8, rfl, rq8, hbq8⟩
    rw [Hn7.out] at rq8
    have Rq8 := Lib.hid rq8
    clear rq8
    have HRq8 := Lib.hid (HRq5.out.below hbq8)
    have HBq8 := Lib.hid (below_next HBq5.out hbq8)
    clear hbq8
    go_wp2_with fail
    have s15_1 : ∀ W : World, Calls Try.prog 59 #[.int .u64 1] W (RetFe R W 1) := fun W => C.small 1 (by decide) W
    with_reducible refine (s15_1 _).mono ?_
    rintro e vq9 ⟨cq9, rfl, rq9, hbq9⟩
    have Rq9 := Lib.hid rq9
    clear rq9
    have HRq9 := Lib.hid (HRq8.out.below hbq9)
    have HBq9 := Lib.hid (below_next HBq8.out hbq9)
    clear hbq9
    have haq10 := heap_new2a vq9 Z Z 26 26
    have hbbq10 := heap_new2b vq9 Z Z cq8 26 26
    have HRq10 := Lib.hid (HRq9.out.new2 Z cq8 Z cq9 26 26)
    have HBq10 := Lib.hid (below_new2 HBq9.out Z cq8 Z cq9 26 26)
    have HNq10 := Lib.hid HRq9.out.ne
    have HGq10 := Lib.hid HBq9.out.size
    have HLq10_0 : Hid (g0 < vq9.heap.size) := Lib.hid (by have h := HRq9.out.lt (g0, (arrB l), 22) (by simp); exact h)
    have HLq10_1 : Hid ((g0 + 1) < vq9.heap.size) := Lib.hid (by have h := HRq9.out.lt ((g0 + 1), (quad Z Z Z Z), 28) (by simp); exact h)
    go_upto_region 4 with (first
        | (refine wpList_store_row rfl 26 (.tmp 4) (.tmp 14) rfl vq9.heap.size cq8 rfl rfl 26 Z haq10 (C.base.info Rq8.out) (C.base.size RZZ.out Rq8.out) (C.base.one Rq8.out) ?_)
        | (refine wpList_store_row rfl 26 (.tmp 5) (.tmp 15) rfl (vq9.heap.size + 1) cq9 rfl rfl 26 Z hbbq10 (C.base.info Rq9.out) (C.base.size RZZ.out Rq9.out) (C.base.one Rq9.out) ?_))
    obtain ⟨Wq10, hWq10⟩ : ∃ W, (((vq9.alloc (.cells Z 26)).alloc (.cells Z 26)).setRow vq9.heap.size cq8).setRow (vq9.heap.size + 1) cq9 = W := ⟨_, rfl⟩
    obtain ⟨gq11, hgq11⟩ : ∃ g, vq9.heap.size = g := ⟨_, rfl⟩
    obtain ⟨gq12, hgq12⟩ : ∃ g, gq11 + 1 = g := ⟨_, rfl⟩
    rw [hWq10, hgq11, hgq12] at HRq10
    rw [hWq10] at HBq10
    rw [hgq11] at HGq10 HNq10 HLq10_0 HLq10_1
    rw [hWq10, hgq11, hgq12]
    have NEq11_0 : Hid (g0 ≠ gq11) := Lib.hid (by have := HLq10_0.out; omega)
    have NEq12_0 : Hid (g0 ≠ gq12) := Lib.hid (by have := HLq10_0.out; omega)
    have NEq11_1 : Hid ((g0 + 1) ≠ gq11) := Lib.hid (by have := HLq10_1.out; omega)
    have NEq12_1 : Hid ((g0 + 1) ≠ gq12) := Lib.hid (by have := HLq10_1.out; omega)
    have NEq12_2 : Hid (gq11 ≠ gq12) := Lib.hid (by omega)
    have HGq11 : Hid (w.heap.size ≤ gq11) := Lib.hid HGq10.out
    have HGq12 : Hid (w.heap.size ≤ gq12) := Lib.hid (by have := HGq10.out; omega)
    clear hWq10 hgq11 hgq12 haq10 hbbq10 HNq10 HGq10 HLq10_0 HLq10_1
    have l13 := HRq10.out.tail.head
    go_wp2_with (refine wpList_load_row rfl 26 (.tmp 4) rfl gq11 rfl 26 cq8 (0, 0) _ l13 Try.underlying26 rfl (C.base.info Rq8.out) ?_)
    obtain ⟨n14, hn14⟩ : ∃ x_ : Nat, (n7 * n7) % PP = x_ := ⟨_, rfl⟩
    have Hn14 := Lib.hid hn14
    have HLn14 : Hid (n14 < PP) := Lib.hid (by rw [← hn14]; exact Nat.mod_lt _ (by decide))
    clear hn14
    with_reducible refine ((C.square Rq8.out) _).mono ?_
    rintro e vq15 ⟨cq15, rfl, rq15, hbq15⟩
    rw [Hn14.out] at rq15
    have Rq15 := Lib.hid rq15
    clear rq15
    have HRq15 := Lib.hid (HRq10.out.below hbq15)
    have HBq15 := Lib.hid (below_next HBq10.out hbq15)
    clear hbq15
    have h0q16 : (vq15.alloc (.cells Z 26)).heap[vq15.heap.size]? = some (.cells Z 26 (0, 0)) := heap_alloc_new _ _
    have HRq16 := Lib.hid (HRq15.out.new Z cq15 26)
    have HBq16 := Lib.hid (below_new HBq15.out Z cq15 26)
    have HNq16 := Lib.hid HRq15.out.ne
    have HGq16 := Lib.hid HBq15.out.size
    go_upto_region 5 with (refine wpList_store_row rfl 26 (.tmp 6) (.tmp 17) rfl vq15.heap.size cq15 rfl rfl 26 Z h0q16 (C.base.info Rq15.out) (C.base.size RZZ.out Rq15.out) (C.base.one Rq15.out) ?_)
    obtain ⟨Wq16, hWq16⟩ : ∃ W, (vq15.alloc (.cells Z 26)).setRow vq15.heap.size cq15 = W := ⟨_, rfl⟩
    obtain ⟨gq16, hgq16⟩ : ∃ g, vq15.heap.size = g := ⟨_, rfl⟩
    rw [hWq16, hgq16] at HRq16
    rw [hWq16] at HBq16
    rw [hgq16] at HNq16 HGq16
    rw [hWq16, hgq16]
    clear hWq16 hgq16 h0q16
    have NEq16_0 : Hid (g0 ≠ gq16) := Lib.hid (HNq16.out (g0, (arrB l), 22) (by simp))
    have NEq16_1 : Hid ((g0 + 1) ≠ gq16) := Lib.hid (HNq16.out ((g0 + 1), (quad Z Z Z Z), 28) (by simp))
    have NEq16_2 : Hid (gq11 ≠ gq16) := Lib.hid (HNq16.out (gq11, cq8, 26) (by simp))
    have NEq16_3 : Hid (gq12 ≠ gq16) := Lib.hid (HNq16.out (gq12, cq9, 26) (by simp))
    obtain ⟨n17, hn17⟩ : ∃ x_ : Nat, (n14 + (PP - 1)) % PP = x_ := ⟨_, rfl⟩
    have Hn17 := Lib.hid hn17
    have HLn17 : Hid (n17 < PP) := Lib.hid (by rw [← hn17]; exact Nat.mod_lt _ (by decide))
    clear hn17
    obtain ⟨n18, hn18⟩ : ∃ x_ : Nat, (edN * n14) % PP = x_ := ⟨_, rfl⟩
    have Hn18 := Lib.hid hn18
    have HLn18 : Hid (n18 < PP) := Lib.hid (by rw [← hn18]; exact Nat.mod_lt _ (by decide))
    clear hn18
    obtain ⟨n19, hn19⟩ : ∃ x_ : Nat, (n18 + 1) % PP = x_ := ⟨_, rfl⟩
    have Hn19 := Lib.hid hn19
    have HLn19 : Hid (n19 < PP) := Lib.hid (by rw [← hn19]; exact Nat.mod_lt _ (by decide))
    clear hn19
    obtain ⟨n20, hn20⟩ : ∃ y_ : Nat, ratN n17 n19 = y_ := ⟨_, rfl⟩
    have Hn20 := Lib.hid hn20
    have HLn20 : Hid (n20 < PP) := Lib.hid (by rw [← hn20]; exact ratN_lt _ _)
    clear hn20
    have EU : Hid (upN (feN l) = n17) := Lib.hid (by unfold upN; rw [Hn7.out, Hn14.out, Hn17.out])
    have ED : Hid (dnN (feN l) = n19) := Lib.hid (by unfold dnN; rw [Hn7.out, Hn14.out, Hn18.out, Hn19.out])
    cases hfi : fineN n17 n19
    · have HFI := Lib.hid hfi
      clear hfi
      refine wp_region_noPanic ?_
      refine wp_region_heldB 12 7 26 Z (by kernel_rfl) (by kernel_rfl) ⟨by kernel_rfl, by kernel_rfl, hZ, fun _ _ _ h => h⟩ (fun hA hS => ?_)
      refine' take_atB 0 hA rfl (by kernel_rfl) (by kernel_rfl) (by kernel_rfl) (by kernel_rfl) (by kernel_rfl) (by rfl) (by rfl) hS ?_ ?_ ?_
      rotate_left 2
      · intro W hSW; exact run_loadR rfl rfl (HRq16.out.below hSW).head Try.underlying26 rfl (C.base.info Rq15.out)
      · simp only [List.set_cons_succ, List.set_cons_zero]; rfl
      refine' take_atB 1 hA rfl (by kernel_rfl) (by kernel_rfl) (by kernel_rfl) (by kernel_rfl) (by kernel_rfl) (by rfl) (by rfl) hS ?_ ?_ ?_
      rotate_left 2
      · intro W hSW; exact run_loadR rfl rfl (HRq16.out.below hSW).tail.head Try.underlying26 rfl (C.base.info Rq9.out)
      · simp only [List.set_cons_succ, List.set_cons_zero]; rfl
      refine' take_atB 4 hA rfl (by kernel_rfl) (by kernel_rfl) (by kernel_rfl) (by kernel_rfl) (by kernel_rfl) (by rfl) (by rfl) hS ?_ ?_ ?_
      rotate_left 2
      · intro W hSW; exact run_loadR rfl rfl (HRq16.out.below hSW).head Try.underlying26 rfl (C.base.info Rq15.out)
      · simp only [List.set_cons_succ, List.set_cons_zero]; rfl
      refine' take_atB 6 hA rfl (by kernel_rfl) (by kernel_rfl) (by kernel_rfl) (by kernel_rfl) (by kernel_rfl) (by rfl) (by rfl) hS ?_ ?_ ?_
      rotate_left 2
      · intro W hSW; exact run_loadR rfl rfl (HRq16.out.below hSW).tail.head Try.underlying26 rfl (C.base.info Rq9.out)
      · simp only [List.set_cons_succ, List.set_cons_zero]; rfl
      refine call_atB 2 hA rfl (by kernel_rfl) (by kernel_rfl) (by kernel_rfl) (by kernel_rfl) (by rfl) (by rfl) hS (fun oq21 Xq21 hS K hK => ?_)
      go_simp
      with_reducible refine ((C.sub Rq15.out Rq9.out) _).mono ?_
      rintro e vq21 ⟨cq21, rfl, rq21, hbq21⟩
      rw [Hn17.out] at rq21
      have Rq21 := Lib.hid rq21
      clear rq21
      refine hK.out _ _ hbq21 (fun hS => ?_)
      clear hK K hbq21
      refine call_atB 3 hA rfl (by kernel_rfl) (by kernel_rfl) (by kernel_rfl) (by kernel_rfl) (by rfl) (by rfl) hS (fun oq22 Xq22 hS K hK => ?_)
      go_simp
      with_reducible refine ((ptd_any C) _).mono ?_
      rintro e vq22 ⟨cq22, rfl, rq22, hbq22⟩
      have Rq22 := Lib.hid rq22
      clear rq22
      refine hK.out _ _ hbq22 (fun hS => ?_)
      clear hK K hbq22
      refine call_atB 5 hA rfl (by kernel_rfl) (by kernel_rfl) (by kernel_rfl) (by kernel_rfl) (by rfl) (by rfl) hS (fun oq23 Xq23 hS K hK => ?_)
      go_simp
      with_reducible refine ((C.mul Rq22.out Rq15.out) _).mono ?_
      rintro e vq23 ⟨cq23, rfl, rq23, hbq23⟩
      rw [Hn18.out] at rq23
      have Rq23 := Lib.hid rq23
      clear rq23
      refine hK.out _ _ hbq23 (fun hS => ?_)
      clear hK K hbq23
      refine call_atB 7 hA rfl (by kernel_rfl) (by kernel_rfl) (by kernel_rfl) (by kernel_rfl) (by rfl) (by rfl) hS (fun oq24 Xq24 hS K hK => ?_)
      go_simp
      with_reducible refine ((C.add Rq23.out Rq9.out) _).mono ?_
      rintro e vq24 ⟨cq24, rfl, rq24, hbq24⟩
      rw [Hn19.out] at rq24
      have Rq24 := Lib.hid rq24
      clear rq24
      refine hK.out _ _ hbq24 (fun hS => ?_)
      clear hK K hbq24
      refine call_atB 8 hA rfl (by kernel_rfl) (by kernel_rfl) (by kernel_rfl) (by kernel_rfl) (by rfl) (by rfl) hS (fun oq26 Xq26 hS K hK => ?_)
      go_simp
      have Ht25 : Hid (fineN n17 n19 = false) := Lib.hid HFI.out
      have kq26 := fun W : World => (pratio_any C.pow Rq21.out Rq24.out) W
      rw [Hn20.out, Ht25.out] at kq26
      have Kq26 := Lib.hid kq26
      clear kq26
      with_reducible refine (Kq26.out _).mono ?_
      rintro e vq26 ⟨cq26, rfl, rq26, hbq26⟩
      have Rq26 := Lib.hid rq26
      clear rq26
      refine hK.out _ _ hbq26 (fun hS => ?_)
      clear hK K hbq26
      refine' take_atB 9 hA rfl (by kernel_rfl) (by kernel_rfl) (by kernel_rfl) (by kernel_rfl) (by kernel_rfl) (by rfl) (by rfl) hS ?_ ?_ ?_
      rotate_left 2
      · intro W hSW; go_simp; try with_reducible rfl
      · simp only [List.set_cons_succ, List.set_cons_zero]; rfl
      refine' take_atB 10 hA rfl (by kernel_rfl) (by kernel_rfl) (by kernel_rfl) (by kernel_rfl) (by kernel_rfl) (by rfl) (by rfl) hS ?_ ?_ ?_
      rotate_left 2
      · intro W hSW; go_simp; try with_reducible rfl
      · simp only [List.set_cons_succ, List.set_cons_zero]; rfl
      refine' take_atB 11 hA rfl (by kernel_rfl) (by kernel_rfl) (by kernel_rfl) (by kernel_rfl) (by kernel_rfl) (by rfl) (by rfl) hS ?_ ?_ ?_
      rotate_left 2
      · intro W hSW; go_simp; try with_reducible rfl
      · simp only [List.set_cons_succ, List.set_cons_zero]; rfl
      refine' store_atB 13 hA rfl (by kernel_rfl) (by kernel_rfl) (by kernel_rfl) hS (by kernel_rfl) rfl (by intro h; cases h) (C.base.info Rq26.out) (C.base.size RZZ.out Rq26.out) (C.base.one Rq26.out) ?_ ?_
      rotate_left 1
      · intro g; simp only [List.set_cons_succ, List.set_cons_zero]; rfl
      intro gq27 Wq27 hgq27 hbq27 hrowq27
      clear hA hS
      refine' take_at 14 rfl (by kernel_rfl) (by kernel_rfl) (by kernel_rfl) (fun _ _ _ h => h) (by rfl) hbq27 ?_ ?_ ?_
      rotate_left 2
      · intro W hSW; go_simp; try with_reducible rfl
      · simp only [List.set_cons_succ, List.set_cons_zero]; rfl
      refine wpAnyH_done (by kernel_rfl) ?_ _
      refine NoPanic.normal ?_
      (try simp only [Act.put])
      have HRq27 : Hid (RowsW Wq27 [(gq27, cq26, 26), (gq16, cq15, 26), (gq12, cq9, 26), (gq11, cq8, 26), ((g0 + 1), (quad Z Z Z Z), 28), (g0, (arrB l), 22)]) := Lib.hid ⟨hrowq27, HRq16.out.below hbq27⟩
      have HBq27 := Lib.hid (below_next HBq16.out hbq27)
      have NEq27_0 : Hid (g0 ≠ gq27) := Lib.hid (by have h := HRq16.out.lt (g0, (arrB l), 22) (by simp); have := hgq27; simp only at h; omega)
      have NEq27_1 : Hid ((g0 + 1) ≠ gq27) := Lib.hid (by have h := HRq16.out.lt ((g0 + 1), (quad Z Z Z Z), 28) (by simp); have := hgq27; simp only at h; omega)
      have NEq27_2 : Hid (gq11 ≠ gq27) := Lib.hid (by have h := HRq16.out.lt (gq11, cq8, 26) (by simp); have := hgq27; simp only at h; omega)
      have NEq27_3 : Hid (gq12 ≠ gq27) := Lib.hid (by have h := HRq16.out.lt (gq12, cq9, 26) (by simp); have := hgq27; simp only at h; omega)
      have NEq27_4 : Hid (gq16 ≠ gq27) := Lib.hid (by have h := HRq16.out.lt (gq16, cq15, 26) (by simp); have := hgq27; simp only at h; omega)
      have HGq27 := Lib.hid (Nat.le_trans HBq16.out.size hgq27)
      clear hrowq27 hbq27 hgq27
      go_upto_region 6 with fail
      go_upto_region 7 with fail
      have lsq28 := HRq27.out.tail.tail.tail.tail.head
      have HRq28 : Hid (RowsW (Wq27.setRow (g0 + 1) (quad Z Z Z Z)) [(gq27, cq26, 26), (gq16, cq15, 26), (gq12, cq9, 26), (gq11, cq8, 26), ((g0 + 1), (quad Z Z Z Z), 28), (g0, (arrB l), 22)]) := Lib.hid ⟨(by rw [setRow_other _ _ _ _ (Ne.symm NEq27_1.out)]; exact HRq27.out.head), (by rw [setRow_other _ _ _ _ (Ne.symm NEq16_1.out)]; exact HRq27.out.tail.head), (by rw [setRow_other _ _ _ _ (Ne.symm NEq12_1.out)]; exact HRq27.out.tail.tail.head), (by rw [setRow_other _ _ _ _ (Ne.symm NEq11_1.out)]; exact HRq27.out.tail.tail.tail.head), setRow_heap _ _ _ _ _ _ lsq28, (by rw [setRow_other _ _ _ _ (by omega)]; exact HRq27.out.tail.tail.tail.tail.tail.head), trivial⟩
      have HBq28 := Lib.hid (below_row (g := (g0 + 1)) (cs := (quad Z Z Z Z)) HBq27.out (by have := HG0.out; omega))
      go_wp2_with (first
          | (refine wpList_runsV (o := ⟨some 32, _, _, _, _, _⟩) rfl (.agg (quad Z Z Z Z)) (run_buildF0 hzP rfl) ?_)
          | (refine wpList_store_row rfl 28 (.tmp 2) (.tmp 32) rfl (g0 + 1) (quad Z Z Z Z) rfl rfl 28 (quad Z Z Z Z) lsq28 (pp_info C.base RZZ.out RZZ.out RZZ.out RZZ.out) ((pp_size C.base RZZ.out RZZ.out RZZ.out RZZ.out).trans (pp_size C.base RZZ.out RZZ.out RZZ.out RZZ.out).symm) (pp_one C.base RZZ.out RZZ.out RZZ.out RZZ.out) ?_))
      obtain ⟨Wq28, hWq28⟩ : ∃ W, Wq27.setRow (g0 + 1) (quad Z Z Z Z) = W := ⟨_, rfl⟩
      rw [hWq28] at HRq28 HBq28
      (try rw [hWq28])
      clear hWq28 lsq28
      (try simp only [Exit.inBlock, Exit.then])
      refine bodyPost_ret (results_ct rfl _ _ (g0 + 1) _ (quad Z Z Z Z) _ _ (.bool false) rfl rfl HRq28.out.tail.tail.tail.tail.head Try.underlying28 rfl (pp_info C.base RZZ.out RZZ.out RZZ.out RZZ.out)) rfl ?_
      have e2 : decF l = false := decF_fine (by rw [EU.out, ED.out]; exact HFI.out)
      have e1 := decP_no e2
      exact ⟨_, by rw [e2], by rw [e1]; exact ⟨_, _, _, _, _, _, _, _, rfl, RZZ.out, RZZ.out, RZZ.out, RZZ.out, pq_zero⟩, HBq28.out⟩
    · have HFI := Lib.hid hfi
      clear hfi
      refine wp_region_noPanic ?_
      refine wp_region_heldB 12 7 26 Z (by kernel_rfl) (by kernel_rfl) ⟨by kernel_rfl, by kernel_rfl, hZ, fun _ _ _ h => h⟩ (fun hA hS => ?_)
      refine' take_atB 0 hA rfl (by kernel_rfl) (by kernel_rfl) (by kernel_rfl) (by kernel_rfl) (by kernel_rfl) (by rfl) (by rfl) hS ?_ ?_ ?_
      rotate_left 2
      · intro W hSW; exact run_loadR rfl rfl (HRq16.out.below hSW).head Try.underlying26 rfl (C.base.info Rq15.out)
      · simp only [List.set_cons_succ, List.set_cons_zero]; rfl
      refine' take_atB 1 hA rfl (by kernel_rfl) (by kernel_rfl) (by kernel_rfl) (by kernel_rfl) (by kernel_rfl) (by rfl) (by rfl) hS ?_ ?_ ?_
      rotate_left 2
      · intro W hSW; exact run_loadR rfl rfl (HRq16.out.below hSW).tail.head Try.underlying26 rfl (C.base.info Rq9.out)
      · simp only [List.set_cons_succ, List.set_cons_zero]; rfl
      refine' take_atB 4 hA rfl (by kernel_rfl) (by kernel_rfl) (by kernel_rfl) (by kernel_rfl) (by kernel_rfl) (by rfl) (by rfl) hS ?_ ?_ ?_
      rotate_left 2
      · intro W hSW; exact run_loadR rfl rfl (HRq16.out.below hSW).head Try.underlying26 rfl (C.base.info Rq15.out)
      · simp only [List.set_cons_succ, List.set_cons_zero]; rfl
      refine' take_atB 6 hA rfl (by kernel_rfl) (by kernel_rfl) (by kernel_rfl) (by kernel_rfl) (by kernel_rfl) (by rfl) (by rfl) hS ?_ ?_ ?_
      rotate_left 2
      · intro W hSW; exact run_loadR rfl rfl (HRq16.out.below hSW).tail.head Try.underlying26 rfl (C.base.info Rq9.out)
      · simp only [List.set_cons_succ, List.set_cons_zero]; rfl
      refine call_atB 2 hA rfl (by kernel_rfl) (by kernel_rfl) (by kernel_rfl) (by kernel_rfl) (by rfl) (by rfl) hS (fun oq29 Xq29 hS K hK => ?_)
      go_simp
      with_reducible refine ((C.sub Rq15.out Rq9.out) _).mono ?_
      rintro e vq29 ⟨cq29, rfl, rq29, hbq29⟩
      rw [Hn17.out] at rq29
      have Rq29 := Lib.hid rq29
      clear rq29
      refine hK.out _ _ hbq29 (fun hS => ?_)
      clear hK K hbq29
      refine call_atB 3 hA rfl (by kernel_rfl) (by kernel_rfl) (by kernel_rfl) (by kernel_rfl) (by rfl) (by rfl) hS (fun oq30 Xq30 hS K hK => ?_)
      go_simp
      with_reducible refine ((ptd_any C) _).mono ?_
      rintro e vq30 ⟨cq30, rfl, rq30, hbq30⟩
      have Rq30 := Lib.hid rq30
      clear rq30
      refine hK.out _ _ hbq30 (fun hS => ?_)
      clear hK K hbq30
      refine call_atB 5 hA rfl (by kernel_rfl) (by kernel_rfl) (by kernel_rfl) (by kernel_rfl) (by rfl) (by rfl) hS (fun oq31 Xq31 hS K hK => ?_)
      go_simp
      with_reducible refine ((C.mul Rq30.out Rq15.out) _).mono ?_
      rintro e vq31 ⟨cq31, rfl, rq31, hbq31⟩
      rw [Hn18.out] at rq31
      have Rq31 := Lib.hid rq31
      clear rq31
      refine hK.out _ _ hbq31 (fun hS => ?_)
      clear hK K hbq31
      refine call_atB 7 hA rfl (by kernel_rfl) (by kernel_rfl) (by kernel_rfl) (by kernel_rfl) (by rfl) (by rfl) hS (fun oq32 Xq32 hS K hK => ?_)
      go_simp
      with_reducible refine ((C.add Rq31.out Rq9.out) _).mono ?_
      rintro e vq32 ⟨cq32, rfl, rq32, hbq32⟩
      rw [Hn19.out] at rq32
      have Rq32 := Lib.hid rq32
      clear rq32
      refine hK.out _ _ hbq32 (fun hS => ?_)
      clear hK K hbq32
      refine call_atB 8 hA rfl (by kernel_rfl) (by kernel_rfl) (by kernel_rfl) (by kernel_rfl) (by rfl) (by rfl) hS (fun oq34 Xq34 hS K hK => ?_)
      go_simp
      have Ht33 : Hid (fineN n17 n19 = true) := Lib.hid HFI.out
      have kq34 := fun W : World => (pratio_any C.pow Rq29.out Rq32.out) W
      rw [Hn20.out, Ht33.out] at kq34
      have Kq34 := Lib.hid kq34
      clear kq34
      with_reducible refine (Kq34.out _).mono ?_
      rintro e vq34 ⟨cq34, rfl, rq34, hbq34⟩
      have Rq34 := Lib.hid rq34
      clear rq34
      refine hK.out _ _ hbq34 (fun hS => ?_)
      clear hK K hbq34
      refine' take_atB 9 hA rfl (by kernel_rfl) (by kernel_rfl) (by kernel_rfl) (by kernel_rfl) (by kernel_rfl) (by rfl) (by rfl) hS ?_ ?_ ?_
      rotate_left 2
      · intro W hSW; go_simp; try with_reducible rfl
      · simp only [List.set_cons_succ, List.set_cons_zero]; rfl
      refine' take_atB 10 hA rfl (by kernel_rfl) (by kernel_rfl) (by kernel_rfl) (by kernel_rfl) (by kernel_rfl) (by rfl) (by rfl) hS ?_ ?_ ?_
      rotate_left 2
      · intro W hSW; go_simp; try with_reducible rfl
      · simp only [List.set_cons_succ, List.set_cons_zero]; rfl
      refine' take_atB 11 hA rfl (by kernel_rfl) (by kernel_rfl) (by kernel_rfl) (by kernel_rfl) (by kernel_rfl) (by rfl) (by rfl) hS ?_ ?_ ?_
      rotate_left 2
      · intro W hSW; go_simp; try with_reducible rfl
      · simp only [List.set_cons_succ, List.set_cons_zero]; rfl
      refine' store_atB 13 hA rfl (by kernel_rfl) (by kernel_rfl) (by kernel_rfl) hS (by kernel_rfl) rfl (by intro h; cases h) (C.base.info Rq34.out) (C.base.size RZZ.out Rq34.out) (C.base.one Rq34.out) ?_ ?_
      rotate_left 1
      · intro g; simp only [List.set_cons_succ, List.set_cons_zero]; rfl
      intro gq35 Wq35 hgq35 hbq35 hrowq35
      clear hA hS
      refine' take_at 14 rfl (by kernel_rfl) (by kernel_rfl) (by kernel_rfl) (fun _ _ _ h => h) (by rfl) hbq35 ?_ ?_ ?_
      rotate_left 2
      · intro W hSW; go_simp; try with_reducible rfl
      · simp only [List.set_cons_succ, List.set_cons_zero]; rfl
      refine wpAnyH_done (by kernel_rfl) ?_ _
      refine NoPanic.normal ?_
      (try simp only [Act.put])
      have HRq35 : Hid (RowsW Wq35 [(gq35, cq34, 26), (gq16, cq15, 26), (gq12, cq9, 26), (gq11, cq8, 26), ((g0 + 1), (quad Z Z Z Z), 28), (g0, (arrB l), 22)]) := Lib.hid ⟨hrowq35, HRq16.out.below hbq35⟩
      have HBq35 := Lib.hid (below_next HBq16.out hbq35)
      have NEq35_0 : Hid (g0 ≠ gq35) := Lib.hid (by have h := HRq16.out.lt (g0, (arrB l), 22) (by simp); have := hgq35; simp only at h; omega)
      have NEq35_1 : Hid ((g0 + 1) ≠ gq35) := Lib.hid (by have h := HRq16.out.lt ((g0 + 1), (quad Z Z Z Z), 28) (by simp); have := hgq35; simp only at h; omega)
      have NEq35_2 : Hid (gq11 ≠ gq35) := Lib.hid (by have h := HRq16.out.lt (gq11, cq8, 26) (by simp); have := hgq35; simp only at h; omega)
      have NEq35_3 : Hid (gq12 ≠ gq35) := Lib.hid (by have h := HRq16.out.lt (gq12, cq9, 26) (by simp); have := hgq35; simp only at h; omega)
      have NEq35_4 : Hid (gq16 ≠ gq35) := Lib.hid (by have h := HRq16.out.lt (gq16, cq15, 26) (by simp); have := hgq35; simp only at h; omega)
      have HGq35 := Lib.hid (Nat.le_trans HBq16.out.size hgq35)
      clear hrowq35 hbq35 hgq35
      go_upto_region 6 with fail
      go_upto_region 8 with fail
      obtain ⟨t, ht⟩ : ∃ t, (l.getD 31 0).toNat = t := ⟨_, rfl⟩
      have htl : t < 256 := by rw [← ht]; exact (l.getD 31 0).toNat_lt
      have HS : Hid (decS l = decide (127 < t)) := Lib.hid (by unfold decS; rw [ht])
      have cx : Wq35.cell? ⟨g0, 31, none⟩ = some (.int .u8 (t : Int)) := by rw [cell_of_row _ _ _ _ _ _ HRq35.out.tail.tail.tail.tail.tail.head, arrB_get _ _ (by rw [HL.out]; omega), ht]
      clear ht
      by_cases ho : 127 < t
      · have HOD : Hid (decS l = true) := Lib.hid (by rw [HS.out]; exact decide_eq_true ho)
        have t1 : (t : Int) / 128 = 1 := by omega
        clear ho HS
        go_upto_region 9 with fail
        clear cx t1
        by_cases hx0 : n20 = 0
        · have HX0 := Lib.hid hx0
          clear hx0
          have l36 := HRq35.out.head
          go_wp2_with (refine wpList_load_row rfl 26 (.tmp 7) rfl gq35 rfl 26 cq34 (0, 0) _ l36 Try.underlying26 rfl (C.base.info Rq34.out) ?_)
          have kq37 := fun W : World => (C.isZero Rq34.out) W
          rw [decide_eq_true (show n20 = 0 from HX0.out)] at kq37
          have Kq37 := Lib.hid kq37
          clear kq37
          with_reducible refine (Kq37.out _).mono ?_
          rintro e vq37 ⟨rfl, hbq37⟩
          have HRq37 := Lib.hid (HRq35.out.below hbq37)
          have HBq37 := Lib.hid (below_next HBq35.out hbq37)
          clear hbq37
          go_upto_region 10 with fail
          have lsq38 := HRq37.out.tail.tail.tail.tail.head
          have HRq38 : Hid (RowsW (vq37.setRow (g0 + 1) (quad Z Z Z Z)) [(gq35, cq34, 26), (gq16, cq15, 26), (gq12, cq9, 26), (gq11, cq8, 26), ((g0 + 1), (quad Z Z Z Z), 28), (g0, (arrB l), 22)]) := Lib.hid ⟨(by rw [setRow_other _ _ _ _ (Ne.symm NEq35_1.out)]; exact HRq37.out.head), (by rw [setRow_other _ _ _ _ (Ne.symm NEq16_1.out)]; exact HRq37.out.tail.head), (by rw [setRow_other _ _ _ _ (Ne.symm NEq12_1.out)]; exact HRq37.out.tail.tail.head), (by rw [setRow_other _ _ _ _ (Ne.symm NEq11_1.out)]; exact HRq37.out.tail.tail.tail.head), setRow_heap _ _ _ _ _ _ lsq38, (by rw [setRow_other _ _ _ _ (by omega)]; exact HRq37.out.tail.tail.tail.tail.tail.head), trivial⟩
          have HBq38 := Lib.hid (below_row (g := (g0 + 1)) (cs := (quad Z Z Z Z)) HBq37.out (by have := HG0.out; omega))
          go_wp2_with (first
              | (refine wpList_runsV (o := ⟨some 39, _, _, _, _, _⟩) rfl (.agg (quad Z Z Z Z)) (run_buildF0 hzP rfl) ?_)
              | (refine wpList_store_row rfl 28 (.tmp 2) (.tmp 39) rfl (g0 + 1) (quad Z Z Z Z) rfl rfl 28 (quad Z Z Z Z) lsq38 (pp_info C.base RZZ.out RZZ.out RZZ.out RZZ.out) ((pp_size C.base RZZ.out RZZ.out RZZ.out RZZ.out).trans (pp_size C.base RZZ.out RZZ.out RZZ.out RZZ.out).symm) (pp_one C.base RZZ.out RZZ.out RZZ.out RZZ.out) ?_))
          obtain ⟨Wq38, hWq38⟩ : ∃ W, vq37.setRow (g0 + 1) (quad Z Z Z Z) = W := ⟨_, rfl⟩
          rw [hWq38] at HRq38 HBq38
          (try rw [hWq38])
          clear hWq38 lsq38
          (try simp only [Exit.inBlock, Exit.then])
          refine bodyPost_ret (results_ct rfl _ _ (g0 + 1) _ (quad Z Z Z Z) _ _ (.bool false) rfl rfl HRq38.out.tail.tail.tail.tail.head Try.underlying28 rfl (pp_info C.base RZZ.out RZZ.out RZZ.out RZZ.out)) rfl ?_
          have e2 : decF l = false := decF_sign (by rw [(show ratN (upN (feN l)) (dnN (feN l)) = n20 by rw [EU.out, ED.out, Hn20.out])]; exact HX0.out) HOD.out
          have e1 := decP_no e2
          exact ⟨_, by rw [e2], by rw [e1]; exact ⟨_, _, _, _, _, _, _, _, rfl, RZZ.out, RZZ.out, RZZ.out, RZZ.out, pq_zero⟩, HBq38.out⟩
        · have HX0 := Lib.hid hx0
          clear hx0
          have l39 := HRq35.out.head
          go_wp2_with (refine wpList_load_row rfl 26 (.tmp 7) rfl gq35 rfl 26 cq34 (0, 0) _ l39 Try.underlying26 rfl (C.base.info Rq34.out) ?_)
          have kq40 := fun W : World => (C.isZero Rq34.out) W
          rw [decide_eq_false (show ¬ n20 = 0 from HX0.out)] at kq40
          have Kq40 := Lib.hid kq40
          clear kq40
          with_reducible refine (Kq40.out _).mono ?_
          rintro e vq40 ⟨rfl, hbq40⟩
          have HRq40 := Lib.hid (HRq35.out.below hbq40)
          have HBq40 := Lib.hid (below_next HBq35.out hbq40)
          clear hbq40
          go_upto_region 11 with fail
          have l41 := HRq40.out.head
          go_wp2_with (refine wpList_load_row rfl 26 (.tmp 7) rfl gq35 rfl 26 cq34 (0, 0) _ l41 Try.underlying26 rfl (C.base.info Rq34.out) ?_)
          obtain ⟨n42, hn42⟩ : ∃ x_ : Nat, (PP - n20) % PP = x_ := ⟨_, rfl⟩
          have Hn42 := Lib.hid hn42
          have HLn42 : Hid (n42 < PP) := Lib.hid (by rw [← hn42]; exact Nat.mod_lt _ (by decide))
          clear hn42
          with_reducible refine ((C.neg Rq34.out) _).mono ?_
          rintro e vq43 ⟨cq43, rfl, rq43, hbq43⟩
          rw [Hn42.out] at rq43
          have Rq43 := Lib.hid rq43
          clear rq43
          have HRq43 := Lib.hid (HRq40.out.below hbq43)
          have HBq43 := Lib.hid (below_next HBq40.out hbq43)
          clear hbq43
          have lsq44 := HRq43.out.head
          have HRq44 : Hid (RowsW (vq43.setRow gq35 cq43) [(gq35, cq43, 26), (gq16, cq15, 26), (gq12, cq9, 26), (gq11, cq8, 26), ((g0 + 1), (quad Z Z Z Z), 28), (g0, (arrB l), 22)]) := Lib.hid ⟨setRow_heap _ _ _ _ _ _ lsq44, (by rw [setRow_other _ _ _ _ NEq35_4.out]; exact HRq43.out.tail.head), (by rw [setRow_other _ _ _ _ NEq35_3.out]; exact HRq43.out.tail.tail.head), (by rw [setRow_other _ _ _ _ NEq35_2.out]; exact HRq43.out.tail.tail.tail.head), (by rw [setRow_other _ _ _ _ NEq35_1.out]; exact HRq43.out.tail.tail.tail.tail.head), (by rw [setRow_other _ _ _ _ NEq35_0.out]; exact HRq43.out.tail.tail.tail.tail.tail.head), trivial⟩
          have HBq44 := Lib.hid (below_row (g := gq35) (cs := cq43) HBq43.out HGq35.out)
          go_upto_region 12 with (refine wpList_store_row rfl 26 (.tmp 7) (.tmp 41) rfl gq35 cq43 rfl rfl 26 cq34 lsq44 (C.base.info Rq43.out) (C.base.size Rq34.out Rq43.out) (C.base.one Rq43.out) ?_)
          obtain ⟨Wq44, hWq44⟩ : ∃ W, vq43.setRow gq35 cq43 = W := ⟨_, rfl⟩
          rw [hWq44] at HRq44 HBq44
          (try rw [hWq44])
          clear hWq44 lsq44
          have l45 := HRq44.out.head
          have l46 := HRq44.out.tail.tail.tail.head
          go_wp2_with (first
              | (refine wpList_load_row rfl 26 (.tmp 7) rfl gq35 rfl 26 cq43 (0, 0) _ l45 Try.underlying26 rfl (C.base.info Rq43.out) ?_)
              | (refine wpList_load_row rfl 26 (.tmp 4) rfl gq11 rfl 26 cq8 (0, 0) _ l46 Try.underlying26 rfl (C.base.info Rq8.out) ?_))
          obtain ⟨n47, hn47⟩ : ∃ x_ : Nat, (n42 * n7) % PP = x_ := ⟨_, rfl⟩
          have Hn47 := Lib.hid hn47
          have HLn47 : Hid (n47 < PP) := Lib.hid (by rw [← hn47]; exact Nat.mod_lt _ (by decide))
          clear hn47
          have kq48 := fun W : World => (ptof_any C Rq43.out Rq8.out) W
          rw [Hn47.out] at kq48
          have Kq48 := Lib.hid kq48
          clear kq48
          with_reducible refine (Kq48.out _).mono ?_
          rintro e vq48 ⟨aq48, bq48, dq48, fq48, rfl, hRaq48, hRbq48, hRdq48, hRfq48, hbq48⟩
          have Raq48 := Lib.hid hRaq48
          have Rbq48 := Lib.hid hRbq48
          have Rdq48 := Lib.hid hRdq48
          have Rfq48 := Lib.hid hRfq48
          clear hRaq48 hRbq48 hRdq48 hRfq48
          have HRq48 := Lib.hid (HRq44.out.below hbq48)
          have HBq48 := Lib.hid (below_next HBq44.out hbq48)
          clear hbq48
          have lsq49 := HRq48.out.tail.tail.tail.tail.head
          have HRq49 : Hid (RowsW (vq48.setRow (g0 + 1) (quad aq48 bq48 dq48 fq48)) [(gq35, cq43, 26), (gq16, cq15, 26), (gq12, cq9, 26), (gq11, cq8, 26), ((g0 + 1), (quad aq48 bq48 dq48 fq48), 28), (g0, (arrB l), 22)]) := Lib.hid ⟨(by rw [setRow_other _ _ _ _ (Ne.symm NEq35_1.out)]; exact HRq48.out.head), (by rw [setRow_other _ _ _ _ (Ne.symm NEq16_1.out)]; exact HRq48.out.tail.head), (by rw [setRow_other _ _ _ _ (Ne.symm NEq12_1.out)]; exact HRq48.out.tail.tail.head), (by rw [setRow_other _ _ _ _ (Ne.symm NEq11_1.out)]; exact HRq48.out.tail.tail.tail.head), setRow_heap _ _ _ _ _ _ lsq49, (by rw [setRow_other _ _ _ _ (by omega)]; exact HRq48.out.tail.tail.tail.tail.tail.head), trivial⟩
          have HBq49 := Lib.hid (below_row (g := (g0 + 1)) (cs := (quad aq48 bq48 dq48 fq48)) HBq48.out (by have := HG0.out; omega))
          go_wp2_with (refine wpList_store_row rfl 28 (.tmp 2) (.tmp 44) rfl (g0 + 1) (quad aq48 bq48 dq48 fq48) rfl rfl 28 (quad Z Z Z Z) lsq49 (pp_info C.base Raq48.out Rbq48.out Rdq48.out Rfq48.out) ((pp_size C.base RZZ.out RZZ.out RZZ.out RZZ.out).trans (pp_size C.base Raq48.out Rbq48.out Rdq48.out Rfq48.out).symm) (pp_one C.base Raq48.out Rbq48.out Rdq48.out Rfq48.out) ?_)
          obtain ⟨Wq49, hWq49⟩ : ∃ W, vq48.setRow (g0 + 1) (quad aq48 bq48 dq48 fq48) = W := ⟨_, rfl⟩
          rw [hWq49] at HRq49 HBq49
          (try rw [hWq49])
          clear hWq49 lsq49
          (try simp only [Exit.inBlock, Exit.then])
          refine bodyPost_ret (results_ct rfl _ _ (g0 + 1) _ (quad aq48 bq48 dq48 fq48) _ _ (.bool true) rfl rfl HRq49.out.tail.tail.tail.tail.head Try.underlying28 rfl (pp_info C.base Raq48.out Rbq48.out Rdq48.out Rfq48.out)) rfl ?_
          have e2 : decF l = true := decF_of HCA.out (by rw [EU.out, ED.out]; exact HFI.out) (by rw [(show ratN (upN (feN l)) (dnN (feN l)) = n20 by rw [EU.out, ED.out, Hn20.out])]; intro e; exact absurd e HX0.out)
          have ex : decX l = n42 := by unfold decX; rw [(show ratN (upN (feN l)) (dnN (feN l)) = n20 by rw [EU.out, ED.out, Hn20.out]), HOD.out, ← Hn42.out]; rfl
          obtain ⟨ea, eb⟩ := decP_xy e2
          rw [ex] at ea
          rw [Hn7.out] at eb
          exact ⟨_, by rw [e2], ⟨_, _, _, _, _, _, _, _, rfl, Raq48.out, Rbq48.out, Rdq48.out, Rfq48.out, .inl (by rw [← Hn47.out]; exact co_of ea eb)⟩, HBq49.out⟩
      · have HOD : Hid (decS l = false) := Lib.hid (by rw [HS.out]; exact decide_eq_false ho)
        have t1 : (t : Int) / 128 = 0 := by omega
        clear ho HS
        go_upto_region 12 with fail
        clear cx t1
        have l50 := HRq35.out.head
        have l51 := HRq35.out.tail.tail.tail.head
        go_wp2_with (first
            | (refine wpList_load_row rfl 26 (.tmp 7) rfl gq35 rfl 26 cq34 (0, 0) _ l50 Try.underlying26 rfl (C.base.info Rq34.out) ?_)
            | (refine wpList_load_row rfl 26 (.tmp 4) rfl gq11 rfl 26 cq8 (0, 0) _ l51 Try.underlying26 rfl (C.base.info Rq8.out) ?_))
        obtain ⟨n52, hn52⟩ : ∃ x_ : Nat, (n20 * n7) % PP = x_ := ⟨_, rfl⟩
        have Hn52 := Lib.hid hn52
        have HLn52 : Hid (n52 < PP) := Lib.hid (by rw [← hn52]; exact Nat.mod_lt _ (by decide))
        clear hn52
        have kq53 := fun W : World => (ptof_any C Rq34.out Rq8.out) W
        rw [Hn52.out] at kq53
        have Kq53 := Lib.hid kq53
        clear kq53
        with_reducible refine (Kq53.out _).mono ?_
        rintro e vq53 ⟨aq53, bq53, dq53, fq53, rfl, hRaq53, hRbq53, hRdq53, hRfq53, hbq53⟩
        have Raq53 := Lib.hid hRaq53
        have Rbq53 := Lib.hid hRbq53
        have Rdq53 := Lib.hid hRdq53
        have Rfq53 := Lib.hid hRfq53
        clear hRaq53 hRbq53 hRdq53 hRfq53
        have HRq53 := Lib.hid (HRq35.out.below hbq53)
        have HBq53 := Lib.hid (below_next HBq35.out hbq53)
        clear hbq53
        have lsq54 := HRq53.out.tail.tail.tail.tail.head
        have HRq54 : Hid (RowsW (vq53.setRow (g0 + 1) (quad aq53 bq53 dq53 fq53)) [(gq35, cq34, 26), (gq16, cq15, 26), (gq12, cq9, 26), (gq11, cq8, 26), ((g0 + 1), (quad aq53 bq53 dq53 fq53), 28), (g0, (arrB l), 22)]) := Lib.hid ⟨(by rw [setRow_other _ _ _ _ (Ne.symm NEq35_1.out)]; exact HRq53.out.head), (by rw [setRow_other _ _ _ _ (Ne.symm NEq16_1.out)]; exact HRq53.out.tail.head), (by rw [setRow_other _ _ _ _ (Ne.symm NEq12_1.out)]; exact HRq53.out.tail.tail.head), (by rw [setRow_other _ _ _ _ (Ne.symm NEq11_1.out)]; exact HRq53.out.tail.tail.tail.head), setRow_heap _ _ _ _ _ _ lsq54, (by rw [setRow_other _ _ _ _ (by omega)]; exact HRq53.out.tail.tail.tail.tail.tail.head), trivial⟩
        have HBq54 := Lib.hid (below_row (g := (g0 + 1)) (cs := (quad aq53 bq53 dq53 fq53)) HBq53.out (by have := HG0.out; omega))
        go_wp2_with (refine wpList_store_row rfl 28 (.tmp 2) (.tmp 44) rfl (g0 + 1) (quad aq53 bq53 dq53 fq53) rfl rfl 28 (quad Z Z Z Z) lsq54 (pp_info C.base Raq53.out Rbq53.out Rdq53.out Rfq53.out) ((pp_size C.base RZZ.out RZZ.out RZZ.out RZZ.out).trans (pp_size C.base Raq53.out Rbq53.out Rdq53.out Rfq53.out).symm) (pp_one C.base Raq53.out Rbq53.out Rdq53.out Rfq53.out) ?_)
        obtain ⟨Wq54, hWq54⟩ : ∃ W, vq53.setRow (g0 + 1) (quad aq53 bq53 dq53 fq53) = W := ⟨_, rfl⟩
        rw [hWq54] at HRq54 HBq54
        (try rw [hWq54])
        clear hWq54 lsq54
        (try simp only [Exit.inBlock, Exit.then])
        refine bodyPost_ret (results_ct rfl _ _ (g0 + 1) _ (quad aq53 bq53 dq53 fq53) _ _ (.bool true) rfl rfl HRq54.out.tail.tail.tail.tail.head Try.underlying28 rfl (pp_info C.base Raq53.out Rbq53.out Rdq53.out Rfq53.out)) rfl ?_
        have e2 : decF l = true := decF_of HCA.out (by rw [EU.out, ED.out]; exact HFI.out) (by rw [(show ratN (upN (feN l)) (dnN (feN l)) = n20 by rw [EU.out, ED.out, Hn20.out])]; intro _; exact HOD.out)
        have ex : decX l = n20 := by unfold decX; rw [(show ratN (upN (feN l)) (dnN (feN l)) = n20 by rw [EU.out, ED.out, Hn20.out]), HOD.out]; rfl
        obtain ⟨ea, eb⟩ := decP_xy e2
        rw [ex] at ea
        rw [Hn7.out] at eb
        exact ⟨_, by rw [e2], ⟨_, _, _, _, _, _, _, _, rfl, Raq53.out, Rbq53.out, Rdq53.out, Rfq53.out, .inl (by rw [← Hn52.out]; exact co_of ea eb)⟩, HBq54.out⟩
set_option maxHeartbeats 3200000 in
theorem ptencode_any {R : Array Value → Nat → Prop} (C : FeC R) {a1 b1 d1 f1 : Array Value} {X1 Y1 Z1 T1 : Nat} {p1 : PtD} (ha1 : R a1 X1) (hb1 : R b1 Y1) (hd1 : R d1 Z1) (hf1 : R f1 T1) (hP1 : Pq X1 Y1 Z1 T1 p1) (w : World) : Calls Try.prog 11 #[.agg (quad a1 b1 d1 f1)] w (RetV w (.agg (bytT (F25519.encN p1)))) := by
  have Ra1 := Lib.hid ha1
  have Rb1 := Lib.hid hb1
  have Rd1 := Lib.hid hd1
  have Rf1 := Lib.hid hf1
  clear ha1 hb1 hd1 hf1
  have LX1 : Hid (X1 < PP) := Lib.hid (C.base.lt Ra1.out)
  have LY1 : Hid (Y1 < PP) := Lib.hid (C.base.lt Rb1.out)
  have LZ1 : Hid (Z1 < PP) := Lib.hid (C.base.lt Rd1.out)
  have LT1 : Hid (T1 < PP) := Lib.hid (C.base.lt Rf1.out)
  have HP1 := Lib.hid hP1
  clear hP1
  obtain ⟨Z, hZ, rZ⟩ := C.base.zero
  have RZZ := Lib.hid rZ
  have hzP := zp_of hZ
  have hz32 := zero32_zero
  clear rZ
  have HR0 := Lib.hid (((RowsW.nil w).box (quad a1 b1 d1 f1) 28).box zero32 22)
  have HB0 := Lib.hid (below_box (below_box (Below.refl w.heap.size w) (quad a1 b1 d1 f1) 28) zero32 22)
  rw [World.size_alloc] at HR0
  go_enter Try.func11, Try.ntmps11
  go_upto_region 1 with fail
  obtain ⟨W0, hW0⟩ : ∃ W, ((w.alloc (.cells (quad a1 b1 d1 f1) 28)).alloc (.cells zero32 22)) = W := ⟨_, rfl⟩
  obtain ⟨g0, hg0⟩ : ∃ g, w.heap.size = g := ⟨_, rfl⟩
  rw [hW0] at HR0 HB0
  rw [hg0] at HR0
  rw [hW0, hg0]
  have HG0 := Lib.hid hg0
  clear hW0 hg0
  have l1 := HR0.out.tail.head
  go_wp2_with (refine wpList_load_row rfl 28 (.tmp 1) rfl g0 rfl 28 (quad a1 b1 d1 f1) (0, 0) _ l1 Try.underlying28 rfl (pp_info C.base Ra1.out Rb1.out Rd1.out Rf1.out) ?_)
  have kq2 := fun W : World => (ptfilled_any C Ra1.out Rb1.out Rd1.out Rf1.out HP1.out) W
  have Kq2 := Lib.hid kq2
  clear kq2
  with_reducible refine (Kq2.out _).mono ?_
  rintro e vq2 ⟨aq2, bq2, dq2, fq2, Xq2, Yq2, Zq2, Tq2, rfl, hRaq2, hRbq2, hRdq2, hRfq2, hCq2, hbq2⟩
  have Raq2 := Lib.hid hRaq2
  have Rbq2 := Lib.hid hRbq2
  have Rdq2 := Lib.hid hRdq2
  have Rfq2 := Lib.hid hRfq2
  clear hRaq2 hRbq2 hRdq2 hRfq2
  have HCq2 := Lib.hid hCq2
  clear hCq2
  have HRq2 := Lib.hid (HR0.out.below hbq2)
  have HBq2 := Lib.hid (below_next HB0.out hbq2)
  clear hbq2
  have lsq3 := HRq2.out.tail.head
  have HRq3 : Hid (RowsW (vq2.setRow g0 (quad aq2 bq2 dq2 fq2)) [((g0 + 1), zero32, 22), (g0, (quad aq2 bq2 dq2 fq2), 28)]) := Lib.hid ⟨(by rw [setRow_other _ _ _ _ (Ne.symm (by omega))]; exact HRq2.out.head), setRow_heap _ _ _ _ _ _ lsq3, trivial⟩
  have HBq3 := Lib.hid (below_row (g := g0) (cs := (quad aq2 bq2 dq2 fq2)) HBq2.out (by have := HG0.out; omega))
  go_upto_region 2 with (refine wpList_store_row rfl 28 (.tmp 1) (.tmp 6) rfl g0 (quad aq2 bq2 dq2 fq2) rfl rfl 28 (quad a1 b1 d1 f1) lsq3 (pp_info C.base Raq2.out Rbq2.out Rdq2.out Rfq2.out) ((pp_size C.base Ra1.out Rb1.out Rd1.out Rf1.out).trans (pp_size C.base Raq2.out Rbq2.out Rdq2.out Rfq2.out).symm) (pp_one C.base Raq2.out Rbq2.out Rdq2.out Rfq2.out) ?_)
  obtain ⟨Wq3, hWq3⟩ : ∃ W, vq2.setRow g0 (quad aq2 bq2 dq2 fq2) = W := ⟨_, rfl⟩
  rw [hWq3] at HRq3 HBq3
  (try rw [hWq3])
  clear hWq3 lsq3
  obtain ⟨CX, CY⟩ := co_enc HCq2.out
  have l4 := HRq3.out.tail.head
  go_wp2_with (refine wpList_runsV (o := ⟨some 8, _, _, _, _, _⟩) rfl (.agg dq2) (run_loadP rfl rfl l4 Try.underlying26 rfl (C.base.info Rdq2.out) (pp_2 (fe5 C.base Raq2.out) (fe5 C.base Rbq2.out))) ?_)
  obtain ⟨n5, hn5⟩ : ∃ y_ : Nat, invN Zq2 = y_ := ⟨_, rfl⟩
  have Hn5 := Lib.hid hn5
  have HLn5 : Hid (n5 < PP) := Lib.hid (by rw [← hn5]; exact invN_lt _)
  clear hn5
  with_reducible refine ((pinvert_any C.pow Rdq2.out) _).mono ?_
  rintro e vq6 ⟨cq6, rfl, rq6, hbq6⟩
  rw [Hn5.out] at rq6
  have Rq6 := Lib.hid rq6
  clear rq6
  have HRq6 := Lib.hid (HRq3.out.below hbq6)
  have HBq6 := Lib.hid (below_next HBq3.out hbq6)
  clear hbq6
  have h0q7 : (vq6.alloc (.cells Z 26)).heap[vq6.heap.size]? = some (.cells Z 26 (0, 0)) := heap_alloc_new _ _
  have HRq7 := Lib.hid (HRq6.out.new Z cq6 26)
  have HBq7 := Lib.hid (below_new HBq6.out Z cq6 26)
  have HNq7 := Lib.hid HRq6.out.ne
  have HGq7 := Lib.hid HBq6.out.size
  go_upto_region 3 with (refine wpList_store_row rfl 26 (.tmp 3) (.tmp 9) rfl vq6.heap.size cq6 rfl rfl 26 Z h0q7 (C.base.info Rq6.out) (C.base.size RZZ.out Rq6.out) (C.base.one Rq6.out) ?_)
  obtain ⟨Wq7, hWq7⟩ : ∃ W, (vq6.alloc (.cells Z 26)).setRow vq6.heap.size cq6 = W := ⟨_, rfl⟩
  obtain ⟨gq7, hgq7⟩ : ∃ g, vq6.heap.size = g := ⟨_, rfl⟩
  rw [hWq7, hgq7] at HRq7
  rw [hWq7] at HBq7
  rw [hgq7] at HNq7 HGq7
  rw [hWq7, hgq7]
  clear hWq7 hgq7 h0q7
  have NEq7_0 : Hid (g0 ≠ gq7) := Lib.hid (HNq7.out (g0, (quad aq2 bq2 dq2 fq2), 28) (by simp))
  have NEq7_1 : Hid ((g0 + 1) ≠ gq7) := Lib.hid (HNq7.out ((g0 + 1), zero32, 22) (by simp))
  have l8 := HRq7.out.tail.tail.head
  have l9 := HRq7.out.head
  go_wp2_with (first
      | (refine wpList_runsV (o := ⟨some 11, _, _, _, _, _⟩) rfl (.agg bq2) (run_loadP rfl rfl l8 Try.underlying26 rfl (C.base.info Rbq2.out) (pp_1 (fe5 C.base Raq2.out))) ?_)
      | (refine wpList_load_row rfl 26 (.tmp 3) rfl gq7 rfl 26 cq6 (0, 0) _ l9 Try.underlying26 rfl (C.base.info Rq6.out) ?_))
  obtain ⟨n10, hn10⟩ : ∃ x_ : Nat, (Yq2 * n5) % PP = x_ := ⟨_, rfl⟩
  have Hn10 := Lib.hid hn10
  have HLn10 : Hid (n10 < PP) := Lib.hid (by rw [← hn10]; exact Nat.mod_lt _ (by decide))
  clear hn10
  with_reducible refine ((C.mul Rbq2.out Rq6.out) _).mono ?_
  rintro e vq11 ⟨cq11, rfl, rq11, hbq11⟩
  rw [Hn10.out] at rq11
  have Rq11 := Lib.hid rq11
  clear rq11
  have HRq11 := Lib.hid (HRq7.out.below hbq11)
  have HBq11 := Lib.hid (below_next HBq7.out hbq11)
  clear hbq11
  go_wp2_with fail
  with_reducible refine ((C.bytes Rq11.out) _).mono ?_
  rintro e vq12 ⟨rfl, hbq12⟩
  have HRq12 := Lib.hid (HRq11.out.below hbq12)
  have HBq12 := Lib.hid (below_next HBq11.out hbq12)
  clear hbq12
  have h0q13 : (vq12.alloc (.cells zero32 22)).heap[vq12.heap.size]? = some (.cells zero32 22 (0, 0)) := heap_alloc_new _ _
  have HRq13 := Lib.hid (HRq12.out.new zero32 (bytT n10) 22)
  have HBq13 := Lib.hid (below_new HBq12.out zero32 (bytT n10) 22)
  have HNq13 := Lib.hid HRq12.out.ne
  have HGq13 := Lib.hid HBq12.out.size
  go_upto_region 4 with (refine wpList_store_row rfl 22 (.tmp 4) (.tmp 14) rfl vq12.heap.size (bytT n10) rfl rfl 22 zero32 h0q13 (bytT_info _) (zero32_byt _) (bytT_one _) ?_)
  obtain ⟨Wq13, hWq13⟩ : ∃ W, (vq12.alloc (.cells zero32 22)).setRow vq12.heap.size (bytT n10) = W := ⟨_, rfl⟩
  obtain ⟨gq13, hgq13⟩ : ∃ g, vq12.heap.size = g := ⟨_, rfl⟩
  rw [hWq13, hgq13] at HRq13
  rw [hWq13] at HBq13
  rw [hgq13] at HNq13 HGq13
  rw [hWq13, hgq13]
  clear hWq13 hgq13 h0q13
  have NEq13_0 : Hid (g0 ≠ gq13) := Lib.hid (HNq13.out (g0, (quad aq2 bq2 dq2 fq2), 28) (by simp))
  have NEq13_1 : Hid ((g0 + 1) ≠ gq13) := Lib.hid (HNq13.out ((g0 + 1), zero32, 22) (by simp))
  have NEq13_2 : Hid (gq7 ≠ gq13) := Lib.hid (HNq13.out (gq7, cq6, 26) (by simp))
  obtain ⟨n14, hn14⟩ : ∃ x_ : Nat, (Xq2 * n5) % PP = x_ := ⟨_, rfl⟩
  have Hn14 := Lib.hid hn14
  have HLn14 : Hid (n14 < PP) := Lib.hid (by rw [← hn14]; exact Nat.mod_lt _ (by decide))
  clear hn14
  have HX : Hid (n14 = p1.x.val) := Lib.hid (by rw [← Hn14.out, ← Hn5.out]; exact CX)
  have HY : Hid (n10 = p1.y.val) := Lib.hid (by rw [← Hn10.out, ← Hn5.out]; exact CY)
  clear CX CY
  by_cases ho : n14 % 2 = 1
  · have HO := Lib.hid ho
    clear ho
    have l15 := HRq13.out.tail.tail.tail.head
    have l16 := HRq13.out.tail.head
    go_wp2_with (first
        | (refine wpList_runsV (o := ⟨some 16, _, _, _, _, _⟩) rfl (.agg aq2) (run_loadP rfl rfl l15 Try.underlying26 rfl (C.base.info Raq2.out) pp_0) ?_)
        | (refine wpList_load_row rfl 26 (.tmp 3) rfl gq7 rfl 26 cq6 (0, 0) _ l16 Try.underlying26 rfl (C.base.info Rq6.out) ?_))
    with_reducible refine ((C.mul Raq2.out Rq6.out) _).mono ?_
    rintro e vq17 ⟨cq17, rfl, rq17, hbq17⟩
    rw [Hn14.out] at rq17
    have Rq17 := Lib.hid rq17
    clear rq17
    have HRq17 := Lib.hid (HRq13.out.below hbq17)
    have HBq17 := Lib.hid (below_next HBq13.out hbq17)
    clear hbq17
    go_wp2_with fail
    have Ht18 : Hid (decide (n14 % 2 = 1) = true) := Lib.hid (decide_eq_true HO.out)
    have kq19 := fun W : World => (C.odd Rq17.out) W
    rw [Ht18.out] at kq19
    have Kq19 := Lib.hid kq19
    clear kq19
    with_reducible refine (Kq19.out _).mono ?_
    rintro e vq19 ⟨rfl, hbq19⟩
    have HRq19 := Lib.hid (HRq17.out.below hbq19)
    have HBq19 := Lib.hid (below_next HBq17.out hbq19)
    clear hbq19
    go_upto_region 5 with fail
    obtain ⟨t, ht⟩ : ∃ t, ((leB 32 n10).getD 31 0).toNat = t := ⟨_, rfl⟩
    have htl : t < 128 := by rw [← ht, leB_get 32 n10 31 (by omega)]; have h := HLn10.out; rw [P31]; unfold PP at h; simp; omega
    have cx : vq19.cell? ⟨gq13, 31, none⟩ = some (.int .u8 (t : Int)) := by rw [cell_of_row _ _ _ _ _ _ HRq19.out.head, bytT_get _ _ (by omega), ht]
    have fx := frozen_row HRq19.out.head 31
    have e128 : (((leB 32 n10).getD 31 0 + 128).toNat : Int) = ((t + 128 : Nat) : Int) := by rw [UInt8.toNat_add, ht]; simp; omega
    have hor : bits .or .u8 (t : Int) 128 = ((t + 128 : Nat) : Int) := or128 t htl
    have hs := HRq19.out.set HNq13.out 31 (.int .u8 (((leB 32 n10).getD 31 0 + 128).toNat : Int))
    rw [show bytT n10 = arrB (leB 32 n10) from rfl, arrB_set, e128] at hs
    have hb9 := HBq19.out.setCell (p := ⟨gq13, 31, none⟩) (by show w.heap.size ≤ gq13; exact HGq13.out) (.int .u8 ((t + 128 : Nat) : Int))
    obtain ⟨t9, ht9⟩ : ∃ t9 : Nat, t + 128 = t9 := ⟨_, rfl⟩
    rw [ht9] at hs hb9 hor
    have HE9 : Hid (arrB (leB 32 (F25519.encN p1)) = arrB ((leB 32 n10).set 31 ((leB 32 n10).getD 31 0 + 128))) := Lib.hid (by rw [enc_bytes, if_pos (by rw [← HX.out]; exact HO.out), ← HY.out])
    have iA : (Try.prog.info? 22).map (·.size) = some (arrB ((leB 32 n10).set 31 ((leB 32 n10).getD 31 0 + 128))).size := arr32_info (by rw [List.length_set, leB_len])
    have zA : zero32.size = (arrB ((leB 32 n10).set 31 ((leB 32 n10).getD 31 0 + 128))).size := zero32_size (by rw [List.length_set, leB_len])
    have oA := arrB_one ((leB 32 n10).set 31 ((leB 32 n10).getD 31 0 + 128))
    generalize arrB ((leB 32 n10).set 31 ((leB 32 n10).getD 31 0 + 128)) = A9 at *
    obtain ⟨W9, hW9⟩ : ∃ W9, vq19.setCell ⟨gq13, 31, none⟩ (.int .u8 (t9 : Int)) = W9 := ⟨_, rfl⟩
    rw [hW9] at hs hb9
    have HR9 := Lib.hid hs
    have HB9 := Lib.hid hb9
    have HW9 := Lib.hid hW9
    have h9 : t9 < 256 := by omega
    clear hs hb9 hW9 ht e128 ht9
    go_upto_region 6 with fail
    rw [HW9.out]
    clear HW9 cx fx hor htl
    have l20 := HR9.out.head
    have lsq21 := HR9.out.tail.tail.head
    have HRq21 : Hid (RowsW (W9.setRow (g0 + 1) A9) [(gq13, A9, 22), (gq7, cq6, 26), ((g0 + 1), A9, 22), (g0, (quad aq2 bq2 dq2 fq2), 28)]) := Lib.hid ⟨(by rw [setRow_other _ _ _ _ (Ne.symm NEq13_1.out)]; exact HR9.out.head), (by rw [setRow_other _ _ _ _ (Ne.symm NEq7_1.out)]; exact HR9.out.tail.head), setRow_heap _ _ _ _ _ _ lsq21, (by rw [setRow_other _ _ _ _ (by omega)]; exact HR9.out.tail.tail.tail.head), trivial⟩
    have HBq21 := Lib.hid (below_row (g := (g0 + 1)) (cs := A9) HB9.out (by have := HG0.out; omega))
    go_wp2_with (first
        | (refine wpList_load_row rfl 22 (.tmp 4) rfl gq13 rfl 22 A9 (0, 0) _ l20 Try.underlying22 rfl iA ?_)
        | (refine wpList_store_row rfl 22 (.tmp 2) (.tmp 24) rfl (g0 + 1) A9 rfl rfl 22 zero32 lsq21 iA zA oA ?_))
    obtain ⟨Wq21, hWq21⟩ : ∃ W, W9.setRow (g0 + 1) A9 = W := ⟨_, rfl⟩
    rw [hWq21] at HRq21 HBq21
    (try rw [hWq21])
    clear hWq21 lsq21
    (try simp only [Exit.inBlock, Exit.then])
    refine bodyPost_ret (results_cell_row rfl _ _ (g0 + 1) _ A9 _ _ rfl HRq21.out.tail.tail.head Try.underlying22 rfl iA) rfl ?_
    exact ⟨by rw [show bytT (F25519.encN p1) = A9 from HE9.out], HBq21.out⟩
  · have HO := Lib.hid ho
    clear ho
    have l22 := HRq13.out.tail.tail.tail.head
    have l23 := HRq13.out.tail.head
    go_wp2_with (first
        | (refine wpList_runsV (o := ⟨some 16, _, _, _, _, _⟩) rfl (.agg aq2) (run_loadP rfl rfl l22 Try.underlying26 rfl (C.base.info Raq2.out) pp_0) ?_)
        | (refine wpList_load_row rfl 26 (.tmp 3) rfl gq7 rfl 26 cq6 (0, 0) _ l23 Try.underlying26 rfl (C.base.info Rq6.out) ?_))
    with_reducible refine ((C.mul Raq2.out Rq6.out) _).mono ?_
    rintro e vq24 ⟨cq24, rfl, rq24, hbq24⟩
    rw [Hn14.out] at rq24
    have Rq24 := Lib.hid rq24
    clear rq24
    have HRq24 := Lib.hid (HRq13.out.below hbq24)
    have HBq24 := Lib.hid (below_next HBq13.out hbq24)
    clear hbq24
    go_wp2_with fail
    have Ht25 : Hid (decide (n14 % 2 = 1) = false) := Lib.hid (decide_eq_false HO.out)
    have kq26 := fun W : World => (C.odd Rq24.out) W
    rw [Ht25.out] at kq26
    have Kq26 := Lib.hid kq26
    clear kq26
    with_reducible refine (Kq26.out _).mono ?_
    rintro e vq26 ⟨rfl, hbq26⟩
    have HRq26 := Lib.hid (HRq24.out.below hbq26)
    have HBq26 := Lib.hid (below_next HBq24.out hbq26)
    clear hbq26
    go_upto_region 6 with fail
    have l27 := HRq26.out.head
    have lsq28 := HRq26.out.tail.tail.head
    have HRq28 : Hid (RowsW (vq26.setRow (g0 + 1) (bytT n10)) [(gq13, (bytT n10), 22), (gq7, cq6, 26), ((g0 + 1), (bytT n10), 22), (g0, (quad aq2 bq2 dq2 fq2), 28)]) := Lib.hid ⟨(by rw [setRow_other _ _ _ _ (Ne.symm NEq13_1.out)]; exact HRq26.out.head), (by rw [setRow_other _ _ _ _ (Ne.symm NEq7_1.out)]; exact HRq26.out.tail.head), setRow_heap _ _ _ _ _ _ lsq28, (by rw [setRow_other _ _ _ _ (by omega)]; exact HRq26.out.tail.tail.tail.head), trivial⟩
    have HBq28 := Lib.hid (below_row (g := (g0 + 1)) (cs := (bytT n10)) HBq26.out (by have := HG0.out; omega))
    go_wp2_with (first
        | (refine wpList_load_row rfl 22 (.tmp 4) rfl gq13 rfl 22 (bytT n10) (0, 0) _ l27 Try.underlying22 rfl (bytT_info _) ?_)
        | (refine wpList_store_row rfl 22 (.tmp 2) (.tmp 24) rfl (g0 + 1) (bytT n10) rfl rfl 22 zero32 lsq28 (bytT_info _) (zero32_byt _) (bytT_one _) ?_))
    obtain ⟨Wq28, hWq28⟩ : ∃ W, vq26.setRow (g0 + 1) (bytT n10) = W := ⟨_, rfl⟩
    rw [hWq28] at HRq28 HBq28
    (try rw [hWq28])
    clear hWq28 lsq28
    (try simp only [Exit.inBlock, Exit.then])
    refine bodyPost_ret (results_cell_row rfl _ _ (g0 + 1) _ (bytT n10) _ _ rfl HRq28.out.tail.tail.head Try.underlying22 rfl (bytT_info _)) rfl ?_
    exact ⟨by rw [show bytT (F25519.encN p1) = (bytT n10) from by { unfold bytT; rw [enc_bytes, if_neg (by rw [← HX.out]; exact HO.out), ← HY.out] }], HBq28.out⟩
end Go.Proofs.Ytfejabfmhddepaa

namespace Go.Proofs.Ytfejabfmhddepaa
open Go.RowKit
set_option linter.unusedVariables false
set_option maxRecDepth 100000
abbrev ptR : Array Value → PtD → Prop := ptRof feR
theorem ptB : PtB ptR where
  info := fun {c p} h => by obtain ⟨a, b, d, f, X, Y, Z, T, rfl, ha, hb, hd, hf, _⟩ := h; exact pp_info feC.base ha hb hd hf
  one := fun {c p} h => by obtain ⟨a, b, d, f, X, Y, Z, T, rfl, ha, hb, hd, hf, _⟩ := h; exact pp_one feC.base ha hb hd hf
  zero := ⟨_, zp_zero, fun {c p} h => by obtain ⟨a, b, d, f, X, Y, Z, T, rfl, ha, hb, hd, hf, _⟩ := h; rw [pp_size feC.base ha hb hd hf]; rfl⟩
theorem ptC : PtC ptR where
  base := ptB
  zero := fun W => (ptzero_any feC W).mono (fun e w' h => by
    obtain ⟨a, b, d, f, rfl, ha, hb, hd, hf, hw⟩ := h
    exact ⟨_, rfl, ⟨_, _, _, _, _, _, _, _, rfl, ha, hb, hd, hf, .inl co_zero⟩, hw⟩)
  basep := fun W => ptbase_any feC W
  decode := fun l hl W => ptdecode_any feC hl W
  encode := fun {c p} h W => by
    obtain ⟨a, b, d, f, X, Y, Z, T, rfl, ha, hb, hd, hf, hp⟩ := h
    exact ptencode_any feC ha hb hd hf hp W
  double := fun {c p} h W => by
    obtain ⟨a, b, d, f, X, Y, Z, T, rfl, ha, hb, hd, hf, hp⟩ := h
    exact ptdouble_any feC ha hb hd hf hp W
  add := fun {c p c' p'} h k W => by
    obtain ⟨a, b, d, f, X, Y, Z, T, rfl, ha, hb, hd, hf, hp⟩ := h
    obtain ⟨a', b', d', f', X', Y', Z', T', rfl, ha', hb', hd', hf', hp'⟩ := k
    exact ptadd_any feC ha hb hd hf hp ha' hb' hd' hf' hp' W
  neg := fun {c p} h W => by
    obtain ⟨a, b, d, f, X, Y, Z, T, rfl, ha, hb, hd, hf, hp⟩ := h
    exact ptneg_any feC ha hb hd hf hp W
  equal := fun {c p c' p'} h k W => by
    obtain ⟨a, b, d, f, X, Y, Z, T, rfl, ha, hb, hd, hf, hp⟩ := h
    obtain ⟨a', b', d', f', X', Y', Z', T', rfl, ha', hb', hd', hf', hp'⟩ := k
    exact ptequal_any feC ha hb hd hf hp ha' hb' hd' hf' hp' W
end Go.Proofs.Ytfejabfmhddepaa

namespace Go.Proofs.Ytfejabfmhddepaa
open Go.RowKit
set_option linter.unusedVariables false
set_option maxRecDepth 100000
theorem run_bldSlice (w : World) (len : Nat) (parts : Array (Nat × Value)) (cells : Array Value) (h0 : len * 352 ≠ 0) (h1 : len * 352 ≤ 2 ^ 24)
    (hf : Instr.fill (fun i => some (i * 352, 352)) ((Array.range (len * 352)).map (zProd[· % zProd.size]!)) parts.toList = some cells) :
    (Instr.buildSlice 95 len parts).run Try.prog w = .ok (.slice (some ⟨w.heap.size, 0, none⟩) len len) (w.alloc (.cells cells 64)) := by
  have hs : (sizeOf 64).run Try.prog w = .ok 352 w := by kernel_rfl
  have hzv := zProd_zero w
  unfold Instr.buildSlice
  simp only [Sem.run_bind, run_underlying Try.underlying95 w, Result.andThen_ok, hs]
  rw [if_neg (by omega), if_neg h0]
  simp only [Sem.run_bind, Sem.run_pure, Result.andThen_ok, hzv]
  have hc : (Value.agg zProd).cells = zProd := rfl
  rw [hc, hf]
  simp only [newRow, Sem.run_bind, Sem.run_pure, Result.andThen_ok, run_newObj_alloc]
theorem lay_one {z v : Array Value} (hs : z.size = v.size) : v.zipIdx.foldl (fun cs (p : Value × Nat) => cs.setIfInBounds (0 + p.2) p.1) z = v := by
  have h := lay_mid (x := #[]) (y := z) (z := #[]) (v := v) (off := 0) rfl hs
  simpa using h
theorem lay_fst {z v : Array Value} {n : Nat} (hz : z.size = n + n) (hv : v.size = n) : v.zipIdx.foldl (fun cs (p : Value × Nat) => cs.setIfInBounds (0 + p.2) p.1) z = v ++ z.extract n z.size := by
  rw [lay_part v 0 z (by omega), Nat.zero_add, hv]
  simp
theorem run_bld1 (w : World) {a : Array Value} (ha : a.size = 352) : (Instr.buildSlice 95 1 #[(0, .agg a)]).run Try.prog w = .ok (.slice (some ⟨w.heap.size, 0, none⟩) 1 1) (w.alloc (.cells (flatC [a]) 64)) := by
  refine run_bldSlice w 1 _ _ (by omega) (by omega) ?_
  have hz : ((Array.range (1 * 352)).map (zProd[· % zProd.size]!)).size = 352 := by simp
  generalize (Array.range (1 * 352)).map (zProd[· % zProd.size]!) = z at *
  rw [show (#[(0, Value.agg a)] : Array (Nat × Value)).toList = [(0, Value.agg a)] from rfl, fill_part (off := 0) (cs' := a) (by rw [ha]) (by omega) (lay_one (by omega))]
  show some a = some (flatC [a])
  simp [flatC]
theorem run_bld2 (w : World) {a b : Array Value} (ha : a.size = 352) (hb : b.size = 352) : (Instr.buildSlice 95 2 #[(0, .agg a), (1, .agg b)]).run Try.prog w = .ok (.slice (some ⟨w.heap.size, 0, none⟩) 2 2) (w.alloc (.cells (flatC [a, b]) 64)) := by
  refine run_bldSlice w 2 _ _ (by omega) (by omega) ?_
  have hz : ((Array.range (2 * 352)).map (zProd[· % zProd.size]!)).size = 352 + 352 := by simp
  generalize (Array.range (2 * 352)).map (zProd[· % zProd.size]!) = z at *
  have h2 := lay_mid (x := a) (y := z.extract 352 z.size) (z := #[]) (v := b) (off := 352) ha (by simp; omega)
  rw [Array.append_empty, Array.append_empty] at h2
  rw [show (#[(0, Value.agg a), (1, Value.agg b)] : Array (Nat × Value)).toList = [(0, Value.agg a), (1, Value.agg b)] from rfl, fill_part (off := 0) (cs' := a ++ z.extract 352 z.size) (by rw [ha]) (by omega) (lay_fst hz ha), fill_part (off := 352) (cs' := a ++ b) (by rw [hb]) (by simp; omega) h2]
  show some (a ++ b) = some (flatC [a, b])
  simp [flatC]
theorem wp_bld2 {o : Oper} {a : Act} {w : World} {K : Act → World → Prop} {Q : Exit → Act → World → Prop} {x y : Operand} (ho : o.op = .buildSlice 95 2 #[(0, x), (1, y)]) {A B : Array Value}
    (hx : a.eval x = .agg A) (hy : a.eval y = .agg B) (sA : A.size = 352) (sB : B.size = 352) (h : K (a.put o.dst (.slice (some ⟨w.heap.size, 0, none⟩) 2 2)) (w.alloc (.cells (flatC [A, B]) 64))) : o.wp Try.prog a w K Q := by
  unfold Oper.wp execOp
  simp only [ho, List.map_toArray, List.map_cons, List.map_nil, hx, hy, Sem.run_bind, run_bld2 w sA sB, Result.andThen_ok]
  exact h
theorem wpList_bld1 {ops : Array Oper} {rest : List Oper} {o : Oper} {a : Act} {w : World} {Q : Exit → Act → World → Prop} {x : Operand} (hgd : o.guard = none) (ho : o.op = .buildSlice 95 1 #[(0, x)]) {A : Array Value}
    (hx : a.eval x = .agg A) (sA : A.size = 352) (h : wpList Try.prog ops Q rest (a.put o.dst (.slice (some ⟨w.heap.size, 0, none⟩) 1 1)) (w.alloc (.cells (flatC [A]) 64))) : wpList Try.prog ops Q (o :: rest) a w := by
  refine wpList_plain hgd fun K hK => ?_
  unfold Oper.wp execOp
  simp only [ho, List.map_toArray, List.map_cons, List.map_nil, hx, Sem.run_bind, run_bld1 w sA, Result.andThen_ok]
  exact hK _ _ h
theorem prL1 {R : Array Value → PtD → Prop} {l : List UInt8} (hl : l.length = 32) {ms : List (Array Value)} {p : PtD} (h : Mup R p 15 ms) : PrL R [(l, ms, p)] := by
  intro q hq
  rw [List.mem_singleton] at hq
  subst hq
  exact ⟨hl, h⟩
theorem prL2 {R : Array Value → PtD → Prop} {l m : List UInt8} (hl : l.length = 32) (hm : m.length = 32) {ms ns : List (Array Value)} {p q : PtD} (h : Mup R p 15 ms) (k : Mup R q 15 ns) : PrL R [(l, ms, p), (m, ns, q)] := by
  intro x hx
  rcases List.mem_cons.1 hx with rfl | hx
  · exact ⟨hl, h⟩
  · rw [List.mem_singleton] at hx
    subst hx
    exact ⟨hm, k⟩
theorem sumP1 (l : List UInt8) (ms : List (Array Value)) (p : PtD) : sumP (fun n => n) ([(l, ms, p)].map numP) = pmul (leN l) p := by
  show padd (pmul (leN l) p) pzero = _
  rw [padd_z]
theorem sumP2 (l m : List UInt8) (ms ns : List (Array Value)) (p q : PtD) : sumP (fun n => n) ([(l, ms, p), (m, ns, q)].map numP) = padd (pmul (leN l) p) (pmul (leN m) q) := by
  show padd (pmul (leN l) p) (padd (pmul (leN m) q) pzero) = _
  rw [padd_z]
set_option maxHeartbeats 1600000 in
theorem mmult_any {R : Array Value → PtD → Prop} (C : PtC R) (hz : R z20 pzero) {l : List UInt8} (hl : l.length = 32) {c : Array Value} {p : PtD} (hc : R c p) (w : World) :
    Calls Try.prog 12 #[.agg (arrB l), .agg c] w (RetPt R w (pmul (leN l) p)) := by
  have HL := Lib.hid hl
  have HC := Lib.hid hc
  have hBB : (Try.prog.info? 22).map (·.size) = some (arrB l).size := by rw [arrB_size, hl]; kernel_rfl
  have HBB := Lib.hid hBB
  clear hl hc hBB
  have hz20 : ∀ u, (zeroValue 28).run Try.prog u = .ok (.agg z20) u := zp_zero
  have hzs := z20_size
  obtain ⟨Z, hZ⟩ : ∃ Z, z20 = Z := ⟨_, rfl⟩
  have hz' := hz
  rw [hZ] at hz20 hzs hz'
  have HZS := Lib.hid hzs
  clear hzs hz' hZ
  have HR0 := Lib.hid ((((RowsW.nil w).box (arrB l) 22).box c 28).box Z 28)
  have HB0 := Lib.hid (below_box (below_box (below_box (Below.refl w.heap.size w) (arrB l) 22) c 28) Z 28)
  rw [World.size_alloc] at HR0
  rw [World.size_alloc] at HR0
  go_enter Try.func12, Try.ntmps12
  go_upto_region 1 with fail
  obtain ⟨W0, hW0⟩ : ∃ W, (((w.alloc (.cells (arrB l) 22)).alloc (.cells c 28)).alloc (.cells Z 28)) = W := ⟨_, rfl⟩
  obtain ⟨g0, hg0⟩ : ∃ g, w.heap.size = g := ⟨_, rfl⟩
  rw [hW0] at HR0 HB0
  rw [hg0] at HR0
  rw [hW0]
  (try rw [hg0])
  have HG0 := Lib.hid hg0
  clear hW0 hg0
  have l1 := HR0.out.tail.tail.head
  have l2 := HR0.out.tail.head
  go_wp2_with (first
    | (refine wpList_load_row rfl 22 (.tmp 2) rfl g0 rfl 22 (arrB l) (0, 0) _ l1 Try.underlying22 rfl HBB.out ?_)
    | (refine wpList_load_row rfl 28 (.tmp 3) rfl (g0 + 1) rfl 28 c (0, 0) _ l2 Try.underlying28 rfl (C.base.info HC.out) ?_))
  with_reducible refine (mtimes_any C hz HL.out HC.out _).mono ?_
  rintro e v2 ⟨ms, rfl, r2, hv2⟩
  have HSA : Hid ((prC l ms).size = 352) := Lib.hid (prC_size HL.out (r2.size C.base) r2.len)
  have hb6 : Below W0.heap.size W0 (v2.alloc (.cells (flatC [prC l ms]) 64)) := hv2.alloc hv2.size _
  have hg6 : (v2.alloc (.cells (flatC [prC l ms]) 64)).heap[v2.heap.size]? = some (.cells (flatC [prC l ms]) 64 (0, 0)) := heap_alloc_new _ _
  have hsum := msum_any C hz (L := [(l, ms, p)]) (n := 1) (cap := 1) (prL1 HL.out r2) hg6 rfl (by omega)
  rw [sumP1] at hsum
  have HSM := Lib.hid hsum
  clear hsum hg6 r2 l1 l2
  go_wp2_with (refine wpList_bld1 rfl rfl rfl HSA.out ?_)
  with_reducible refine HSM.out.mono ?_
  rintro e v7 ⟨c7, rfl, r7, hv7⟩
  have R7 := Lib.hid r7
  have hb7 := below_next hb6 hv7
  clear r7 hv7 hb6 hv2 HSM
  have hst := (HR0.out.below hb7).head
  have hf : (v7.setRow (g0 + 1 + 1) c7).heap[(g0 + 1 + 1)]? = some (.cells c7 28 (0, 0)) := setRow_heap _ _ _ _ _ _ hst
  have hB9 : Below w.heap.size w (v7.setRow (g0 + 1 + 1) c7) := below_row (below_then HB0.out hb7) (by have := HG0.out; omega)
  go_wp2_with (refine wpList_store_row rfl 28 (.tmp 4) (.tmp 9) rfl (g0 + 1 + 1) c7 rfl rfl 28 Z hst (C.base.info R7.out) (by rw [HZS.out, pt20 C.base R7.out]) (C.base.one R7.out) ?_)
  (try simp only [Exit.inBlock, Exit.then])
  refine bodyPost_ret (results_cell_row rfl _ _ (g0 + 1 + 1) _ c7 _ _ rfl hf Try.underlying28 rfl (C.base.info R7.out)) rfl ?_
  exact ⟨c7, rfl, R7.out, hB9⟩
set_option maxHeartbeats 1600000 in
theorem mbase_any {R : Array Value → PtD → Prop} (C : PtC R) (hz : R z20 pzero) {l : List UInt8} (hl : l.length = 32) (w : World) :
    Calls Try.prog 15 #[.agg (arrB l)] w (RetPt R w (pmul (leN l) F25519.base)) := by
  have HL := Lib.hid hl
  have hBB : (Try.prog.info? 22).map (·.size) = some (arrB l).size := by rw [arrB_size, hl]; kernel_rfl
  have HBB := Lib.hid hBB
  clear hl hBB
  have hz20 : ∀ u, (zeroValue 28).run Try.prog u = .ok (.agg z20) u := zp_zero
  have hzs := z20_size
  obtain ⟨Z, hZ⟩ : ∃ Z, z20 = Z := ⟨_, rfl⟩
  have hz' := hz
  rw [hZ] at hz20 hzs hz'
  have HZS := Lib.hid hzs
  clear hzs hz' hZ
  have HR0 := Lib.hid (((RowsW.nil w).box (arrB l) 22).box Z 28)
  have HB0 := Lib.hid (below_box (below_box (Below.refl w.heap.size w) (arrB l) 22) Z 28)
  rw [World.size_alloc] at HR0
  go_enter Try.func15, Try.ntmps15
  go_upto_region 1 with fail
  obtain ⟨W0, hW0⟩ : ∃ W, ((w.alloc (.cells (arrB l) 22)).alloc (.cells Z 28)) = W := ⟨_, rfl⟩
  obtain ⟨g0, hg0⟩ : ∃ g, w.heap.size = g := ⟨_, rfl⟩
  rw [hW0] at HR0 HB0
  rw [hg0] at HR0
  rw [hW0]
  (try rw [hg0])
  have HG0 := Lib.hid hg0
  clear hW0 hg0
  refine wp_region_noPanic ?_
  refine wp_region_held_tail (S := fun W => Below W0.heap.size W0 W) 3 (by kernel_rfl) ⟨by kernel_rfl, by kernel_rfl, by kernel_rfl, by kernel_rfl⟩ (by exact (Below.refl _ _).drew) (fun hT inv hS => ?_)
  refine' take_atT 0 hT inv rfl (by omega) (by kernel_rfl) (by kernel_rfl) (fun _ _ _ h => h) (by rfl) hS ?_ ?_ ?_
  rotate_left 2
  · intro W hSW; exact run_loadR rfl rfl (HR0.out.below hSW).tail.head Try.underlying22 rfl HBB.out
  · simp only [List.set_cons_succ, List.set_cons_zero]; rfl
  intro inv
  refine call_atT 1 inv rfl (by omega) (by kernel_rfl) (by rfl) (fun K hK => ?_)
  go_simp
  with_reducible refine (C.basep _).mono ?_
  rintro e v1 ⟨c1, rfl, r1, hv1⟩
  have R1 := Lib.hid r1
  clear r1
  have hb1 := below_next hS hv1
  clear hS hv1
  refine hK.out _ _ (by exact hb1) (fun inv hS => ?_)
  clear hK K
  refine call_atT 2 inv rfl (by omega) (by kernel_rfl) (by rfl) (fun K hK => ?_)
  go_simp
  with_reducible refine (mmult_any C hz HL.out R1.out _).mono ?_
  rintro e v2 ⟨c2, rfl, r2, hv2⟩
  have R2 := Lib.hid r2
  clear r2
  have hb2 := below_next hS hv2
  clear hS hv2
  refine hK.out _ _ (by exact hb2) (fun inv hS => ?_)
  clear hK K
  refine done_atT (by kernel_rfl) ?_
  simp only [List.drop_succ_cons, List.drop_zero]
  have hst := (HR0.out.below hb2).head
  have hf : (v2.setRow (g0 + 1) c2).heap[(g0 + 1)]? = some (.cells c2 28 (0, 0)) := setRow_heap _ _ _ _ _ _ hst
  have hB9 : Below w.heap.size w (v2.setRow (g0 + 1) c2) := below_row (below_then HB0.out hb2) (by have := HG0.out; omega)
  go_wp2_with (refine wpList_store_row rfl 28 (.tmp 2) (.tmp 5) rfl (g0 + 1) c2 rfl rfl 28 Z hst (C.base.info R2.out) (by rw [HZS.out, pt20 C.base R2.out]) (C.base.one R2.out) ?_)
  refine NoPanic.normal ?_
  go_wp2_with fail
  (try simp only [Exit.inBlock, Exit.then])
  refine bodyPost_ret (results_cell_row rfl _ _ (g0 + 1) _ c2 _ _ rfl hf Try.underlying28 rfl (C.base.info R2.out)) rfl ?_
  exact ⟨c2, rfl, R2.out, hB9⟩
set_option maxHeartbeats 1600000 in
theorem mtwo_any {R : Array Value → PtD → Prop} (C : PtC R) (hz : R z20 pzero) {l m : List UInt8} (hl : l.length = 32) (hm : m.length = 32) {c : Array Value} {p : PtD} (hc : R c p) (w : World) :
    Calls Try.prog 26 #[.agg (arrB l), .agg c, .agg (arrB m)] w (RetPt R w (padd (pmul (leN l) p) (pmul (leN m) F25519.base))) := by
  have HL := Lib.hid hl
  have HM := Lib.hid hm
  have HC := Lib.hid hc
  have hBB : (Try.prog.info? 22).map (·.size) = some (arrB l).size := by rw [arrB_size, hl]; kernel_rfl
  have hMM : (Try.prog.info? 22).map (·.size) = some (arrB m).size := by rw [arrB_size, hm]; kernel_rfl
  have HBB := Lib.hid hBB
  have HMM := Lib.hid hMM
  clear hl hc hm hBB hMM
  have hz20 : ∀ u, (zeroValue 28).run Try.prog u = .ok (.agg z20) u := zp_zero
  have hzs := z20_size
  obtain ⟨Z, hZ⟩ : ∃ Z, z20 = Z := ⟨_, rfl⟩
  have hz' := hz
  rw [hZ] at hz20 hzs hz'
  have HZS := Lib.hid hzs
  clear hzs hz' hZ
  have HR0 := Lib.hid (((((RowsW.nil w).box (arrB l) 22).box c 28).box (arrB m) 22).box Z 28)
  have HB0 := Lib.hid (below_box (below_box (below_box (below_box (Below.refl w.heap.size w) (arrB l) 22) c 28) (arrB m) 22) Z 28)
  rw [World.size_alloc] at HR0
  rw [World.size_alloc] at HR0
  rw [World.size_alloc] at HR0
  go_enter Try.func26, Try.ntmps26
  go_upto_region 1 with fail
  obtain ⟨W0, hW0⟩ : ∃ W, ((((w.alloc (.cells (arrB l) 22)).alloc (.cells c 28)).alloc (.cells (arrB m) 22)).alloc (.cells Z 28)) = W := ⟨_, rfl⟩
  obtain ⟨g0, hg0⟩ : ∃ g, w.heap.size = g := ⟨_, rfl⟩
  rw [hW0] at HR0 HB0
  rw [hg0] at HR0
  rw [hW0]
  (try rw [hg0])
  have HG0 := Lib.hid hg0
  clear hW0 hg0
  refine wp_region_noPanic ?_
  refine wp_region_held_tail (S := fun W => Below W0.heap.size W0 W) 8 (by kernel_rfl) ⟨by kernel_rfl, by kernel_rfl, by kernel_rfl, by kernel_rfl⟩ (by exact (Below.refl _ _).drew) (fun hT inv hS => ?_)
  refine' take_atT 0 hT inv rfl (by omega) (by kernel_rfl) (by kernel_rfl) (fun _ _ _ h => h) (by rfl) hS ?_ ?_ ?_
  rotate_left 2
  · intro W hSW; exact run_loadR rfl rfl (HR0.out.below hSW).tail.tail.tail.head Try.underlying22 rfl HBB.out
  · simp only [List.set_cons_succ, List.set_cons_zero]; rfl
  intro inv
  refine' take_atT 1 hT inv rfl (by omega) (by kernel_rfl) (by kernel_rfl) (fun _ _ _ h => h) (by rfl) hS ?_ ?_ ?_
  rotate_left 2
  · intro W hSW; exact run_loadR rfl rfl (HR0.out.below hSW).tail.tail.head Try.underlying28 rfl (C.base.info HC.out)
  · simp only [List.set_cons_succ, List.set_cons_zero]; rfl
  intro inv
  refine' take_atT 3 hT inv rfl (by omega) (by kernel_rfl) (by kernel_rfl) (fun _ _ _ h => h) (by rfl) hS ?_ ?_ ?_
  rotate_left 2
  · intro W hSW; exact run_loadR rfl rfl (HR0.out.below hSW).tail.head Try.underlying22 rfl HMM.out
  · simp only [List.set_cons_succ, List.set_cons_zero]; rfl
  intro inv
  refine call_atT 2 inv rfl (by omega) (by kernel_rfl) (by rfl) (fun K hK => ?_)
  go_simp
  with_reducible refine (mtimes_any C hz HL.out HC.out _).mono ?_
  rintro e v2 ⟨ms, rfl, r2, hv2⟩
  have R2 := Lib.hid r2
  clear r2
  have hb2 := below_next hS hv2
  clear hS hv2
  refine hK.out _ _ (by exact hb2) (fun inv hS => ?_)
  clear hK K
  refine call_atT 4 inv rfl (by omega) (by kernel_rfl) (by rfl) (fun K hK => ?_)
  go_simp
  with_reducible refine (C.basep _).mono ?_
  rintro e v4 ⟨c4, rfl, r4, hv4⟩
  have R4 := Lib.hid r4
  clear r4
  have hb4 := below_next hS hv4
  clear hS hv4
  refine hK.out _ _ (by exact hb4) (fun inv hS => ?_)
  clear hK K
  refine call_atT 5 inv rfl (by omega) (by kernel_rfl) (by rfl) (fun K hK => ?_)
  go_simp
  with_reducible refine (mtimes_any C hz HM.out R4.out _).mono ?_
  rintro e v5 ⟨ns, rfl, r5, hv5⟩
  have R5 := Lib.hid r5
  clear r5
  have hb5 := below_next hS hv5
  clear hS hv5
  have HSA : Hid ((prC l ms).size = 352) := Lib.hid (prC_size HL.out (R2.out.size C.base) R2.out.len)
  have HSB : Hid ((prC m ns).size = 352) := Lib.hid (prC_size HM.out (R5.out.size C.base) R5.out.len)
  refine hK.out _ _ (by exact hb5) (fun inv hS => ?_)
  clear hK K
  refine call_atT 6 inv rfl (by omega) (by kernel_rfl) (by rfl) (fun K hK => ?_)
  refine wp_bld2 rfl rfl rfl HSA.out HSB.out ?_
  have hb6 : Below W0.heap.size W0 (v5.alloc (.cells (flatC [prC l ms, prC m ns]) 64)) := hb5.alloc hb5.size _
  have hg6 : (v5.alloc (.cells (flatC [prC l ms, prC m ns]) 64)).heap[v5.heap.size]? = some (.cells (flatC [prC l ms, prC m ns]) 64 (0, 0)) := heap_alloc_new _ _
  refine hK.out _ _ (by exact hb6) (fun inv hS => ?_)
  clear hK K
  refine call_atT 7 inv rfl (by omega) (by kernel_rfl) (by rfl) (fun K hK => ?_)
  go_simp
  with_reducible refine (msum_any C hz (L := [(l, ms, p), (m, ns, F25519.base)]) (n := 2) (prL2 HL.out HM.out R2.out R5.out) hg6 rfl (by omega)).mono ?_
  rintro e v7 ⟨c7, rfl, r7, hv7⟩
  rw [sumP2] at r7
  have R7 := Lib.hid r7
  clear r7
  have hb7 := below_next hb6 hv7
  clear hS hv7
  refine hK.out _ _ (by exact hb7) (fun inv hS => ?_)
  clear hK K
  refine done_atT (by kernel_rfl) ?_
  simp only [List.drop_succ_cons, List.drop_zero]
  have hst := (HR0.out.below hb7).head
  have hf : (v7.setRow (g0 + 1 + 1 + 1) c7).heap[(g0 + 1 + 1 + 1)]? = some (.cells c7 28 (0, 0)) := setRow_heap _ _ _ _ _ _ hst
  have hB9 : Below w.heap.size w (v7.setRow (g0 + 1 + 1 + 1) c7) := below_row (below_then HB0.out hb7) (by have := HG0.out; omega)
  go_wp2_with (refine wpList_store_row rfl 28 (.tmp 6) (.tmp 14) rfl (g0 + 1 + 1 + 1) c7 rfl rfl 28 Z hst (C.base.info R7.out) (by rw [HZS.out, pt20 C.base R7.out]) (C.base.one R7.out) ?_)
  refine NoPanic.normal ?_
  go_wp2_with fail
  (try simp only [Exit.inBlock, Exit.then])
  refine bodyPost_ret (results_cell_row rfl _ _ (g0 + 1 + 1 + 1) _ c7 _ _ rfl hf Try.underlying28 rfl (C.base.info R7.out)) rfl ?_
  exact ⟨c7, rfl, R7.out, hB9⟩
theorem ptR_zero : ptR z20 pzero := by
  obtain ⟨Z, hZ, rZ⟩ := feC.base.zero
  rw [z5_is hZ] at rZ
  exact ⟨z5, z5, z5, z5, 0, 0, 0, 0, rfl, rZ, rZ, rZ, rZ, .inr ⟨rfl, rfl, rfl, rfl, rfl⟩⟩
theorem muC : MuC ptR where
  mult := fun l hl {c p} hc W => mmult_any ptC ptR_zero hl hc W
  base := fun l hl W => mbase_any ptC ptR_zero hl W
  two := fun l m hl hm {c p} hc W => mtwo_any ptC ptR_zero hl hm hc W
end Go.Proofs.Ytfejabfmhddepaa

namespace Go.Proofs.Ytfejabfmhddepaa
set_option linter.unusedVariables false
set_option maxRecDepth 100000
def vQ : List Nat → Nat
  | [] => 0
  | x :: l => x + Q64 * vQ l
def wsL : Nat → Nat → List Nat
  | 0, _ => []
  | k + 1, n => n % Q64 :: wsL k (n / Q64)
def wsA (l : List Nat) : Array Value := (l.map fun x : Nat => Value.int .u64 ((x : Nat) : Int)).toArray
def wdW (k n : Nat) : Array Value := wsA (wsL k n)
structure Ws (k : Nat) (l : List Nat) : Prop where
  len : l.length = k
  lt : ∀ i, i < k → l.getD i 0 < Q64
theorem wsL_len : ∀ k n, (wsL k n).length = k
  | 0, _ => rfl
  | k + 1, n => by rw [wsL, List.length_cons, wsL_len]
theorem wsL_get : ∀ (k n i : Nat), i < k → (wsL k n).getD i 0 = wq n i
  | 0, _, _, h => by omega
  | k + 1, n, 0, _ => by simp [wsL, wq]
  | k + 1, n, i + 1, h => by
    rw [wsL, List.getD_cons_succ, wsL_get k (n / Q64) i (by omega)]
    unfold wq
    rw [Nat.div_div_eq_div_mul, ← Nat.pow_succ']
theorem wsL_ws (k n : Nat) : Ws k (wsL k n) := ⟨wsL_len k n, fun i hi => by rw [wsL_get k n i hi]; exact wq_lt n i⟩
theorem vQ_wsL : ∀ k n, vQ (wsL k n) = n % Q64 ^ k
  | 0, n => by simp [wsL, vQ, Nat.mod_one]
  | k + 1, n => by rw [wsL, vQ, vQ_wsL k (n / Q64), Nat.pow_succ', Nat.mod_mul]
theorem vQ_eq {k n : Nat} (h : n < Q64 ^ k) : vQ (wsL k n) = n := by rw [vQ_wsL, Nat.mod_eq_of_lt h]
theorem wsL_vQ : ∀ {k : Nat} {l : List Nat}, Ws k l → wsL k (vQ l) = l
  | 0, l, h => by rw [List.eq_nil_of_length_eq_zero h.len]; rfl
  | k + 1, [], h => by have := h.len; simp at this
  | k + 1, x :: l, h => by
    have hx : x < Q64 := h.lt 0 (by omega)
    have hl : Ws k l := ⟨by have := h.len; simpa using this, fun i hi => by have := h.lt (i + 1) (by omega); rwa [List.getD_cons_succ] at this⟩
    rw [vQ, wsL, Nat.add_mul_mod_self_left, Nat.mod_eq_of_lt hx, Nat.add_mul_div_left _ _ (by decide), Nat.div_eq_of_lt hx, Nat.zero_add, wsL_vQ hl]
theorem vQ_lt : ∀ {k : Nat} {l : List Nat}, Ws k l → vQ l < Q64 ^ k
  | 0, l, h => by rw [List.eq_nil_of_length_eq_zero h.len]; simp [vQ]
  | k + 1, [], h => by have := h.len; simp at this
  | k + 1, x :: l, h => by
    have hx : x < Q64 := h.lt 0 (by omega)
    have hl : Ws k l := ⟨by have := h.len; simpa using this, fun i hi => by have := h.lt (i + 1) (by omega); rwa [List.getD_cons_succ] at this⟩
    have := vQ_lt hl
    rw [vQ, Nat.pow_succ']
    have : Q64 * (vQ l + 1) ≤ Q64 * Q64 ^ k := Nat.mul_le_mul_left _ this
    rw [Nat.mul_add] at this
    omega
theorem vQ_set : ∀ (l : List Nat) (i v : Nat), i < l.length → vQ (l.set i v) + l.getD i 0 * Q64 ^ i = vQ l + v * Q64 ^ i
  | [], _, _, h => by simp at h
  | x :: l, 0, v, _ => by simp [vQ]; omega
  | x :: l, i + 1, v, h => by
    have ih := vQ_set l i v (by simpa using h)
    rw [List.set_cons_succ, vQ, vQ, List.getD_cons_succ, Nat.pow_succ']
    have := congrArg (Q64 * ·) ih
    simp only [Nat.mul_add] at this
    rw [Nat.mul_left_comm (l.getD i 0), Nat.mul_left_comm v]
    omega
theorem Ws.set {k : Nat} {l : List Nat} (h : Ws k l) (i v : Nat) (hv : v < Q64) : Ws k (l.set i v) :=
  ⟨by rw [List.length_set]; exact h.len, fun j hj => by
    have := h.lt j hj
    rw [List.getD_eq_getElem?_getD, List.getElem?_set]
    by_cases e : i = j
    · subst e; simp [h.len, hj, hv]
    · simp only [if_neg e]; rwa [← List.getD_eq_getElem?_getD]⟩
theorem ws_row {k n : Nat} {l : List Nat} (h : Ws k l) (hv : vQ l = n) : wsA l = wdW k n := by rw [wdW, ← hv, wsL_vQ h]
theorem wsA_size (l : List Nat) : (wsA l).size = l.length := by simp [wsA]
theorem wsA_get (l : List Nat) (i : Nat) (h : i < l.length) : (wsA l)[i]? = some (.int .u64 ((l.getD i 0 : Nat) : Int)) := by
  simp [wsA, List.getD, List.getElem?_eq_getElem h]
theorem wsA_set (l : List Nat) (i x : Nat) : (wsA l).setIfInBounds i (.int .u64 (x : Int)) = wsA (l.set i x) := by
  unfold wsA
  rw [List.map_set]
  simp
theorem wsA_one (l : List Nat) : (wsA l).all (·.oneCell') = true := by simp [wsA, Value.oneCell']
theorem wdW_size (k n : Nat) : (wdW k n).size = k := by rw [wdW, wsA_size, wsL_len]
theorem wdW_get (k n d : Nat) (h : d < k) : (wdW k n)[d]? = some (.int .u64 (wq n d : Int)) := by
  rw [wdW, wsA_get _ _ (by rw [wsL_len]; exact h), wsL_get _ _ _ h]
theorem wdW_one (k n : Nat) : (wdW k n).all (·.oneCell') = true := wsA_one _
theorem ws_ext {k : Nat} {l m : List Nat} (h : l.length = k) (h2 : m.length = k) (he : ∀ i, i < k → l.getD i 0 = m.getD i 0) : l = m := by
  apply List.ext_getElem (by omega)
  intro i h3 h4
  have := he i (by omega)
  simpa [List.getD, List.getElem?_eq_getElem h3, List.getElem?_eq_getElem h4] using this
theorem wdW_set (k n m d : Nat) (hd : d < k) (h : ∀ j, j < k → j ≠ d → wq m j = wq n j) : (wdW k n).setIfInBounds d (.int .u64 (wq m d : Int)) = wdW k m := by
  rw [wdW, wsA_set, wdW]
  congr 1
  refine ws_ext (k := k) (by rw [List.length_set, wsL_len]) (wsL_len _ _) fun i hi => ?_
  rw [List.getD_eq_getElem?_getD, List.getElem?_set, wsL_get _ _ _ hi]
  by_cases e : d = i
  · subst e; simp [wsL_len, hi]
  · simp only [if_neg e]
    rw [← List.getD_eq_getElem?_getD, wsL_get _ _ _ hi]
    exact (h i hi (fun e2 => e e2.symm)).symm
theorem wdW_four (n : Nat) : wdW 4 n = #[.int .u64 (wq n 0 : Int), .int .u64 (wq n 1 : Int), .int .u64 (wq n 2 : Int), .int .u64 (wq n 3 : Int)] := by
  rw [wdW, ws_ext (wsL_len 4 n) (m := [wq n 0, wq n 1, wq n 2, wq n 3]) rfl fun i hi => by
    rw [wsL_get _ _ _ hi]
    have : i = 0 ∨ i = 1 ∨ i = 2 ∨ i = 3 := by omega
    rcases this with rfl | rfl | rfl | rfl <;> rfl]
  rfl
theorem four_row (a b c d n : Nat) (ha : a < Q64) (hb : b < Q64) (hc : c < Q64) (hd : d < Q64) (h : a + Q64 * (b + Q64 * (c + Q64 * d)) = n) :
    #[Value.int .u64 (a : Int), .int .u64 (b : Int), .int .u64 (c : Int), .int .u64 (d : Int)] = wdW 4 n := by
  have hw : Ws 4 [a, b, c, d] := ⟨rfl, fun i hi => by
    have : i = 0 ∨ i = 1 ∨ i = 2 ∨ i = 3 := by omega
    rcases this with rfl | rfl | rfl | rfl <;> assumption⟩
  exact ws_row hw (by simpa [vQ] using h)
theorem wd_step (n b k : Nat) (hn : n < 256 ^ k) (hb : b < 256) : wq n (k / 8) < 2 ^ (k % 8 * 8) ∧ 2 ^ (k % 8 * 8) * b < Q64 ∧ wq (n + b * 256 ^ k) (k / 8) = wq n (k / 8) + 2 ^ (k % 8 * 8) * b ∧
    ∀ j, j ≠ k / 8 → wq (n + b * 256 ^ k) j = wq n j := by
  have hk : k = 8 * (k / 8) + k % 8 := by omega
  obtain ⟨d, hd⟩ : ∃ d, k / 8 = d := ⟨_, rfl⟩
  obtain ⟨r, hr⟩ : ∃ r, k % 8 = r := ⟨_, rfl⟩
  have hr8 : r < 8 := by omega
  rw [hd, hr] at hk ⊢
  have hP : 256 ^ k = Q64 ^ d * 2 ^ (r * 8) := by
    rw [hk, Nat.pow_add, Nat.pow_mul, show (256 : Nat) ^ 8 = Q64 from rfl, show (256 : Nat) = 2 ^ 8 from rfl, ← Nat.pow_mul, Nat.mul_comm 8 r]
  have hS : 2 ^ (r * 8) * 256 ≤ Q64 := by
    have : 2 ^ (r * 8) * 256 = 2 ^ (r * 8 + 8) := by rw [Nat.pow_add]
    rw [this]
    exact Nat.pow_le_pow_right (n := 2) (by decide) (show r * 8 + 8 ≤ 64 by omega)
  have hS0 : 0 < 2 ^ (r * 8) := Nat.pow_pos (by decide)
  have hQ0 : 0 < Q64 ^ d := Nat.pow_pos (by decide)
  rw [hP] at hn ⊢
  generalize 2 ^ (r * 8) = S at *
  have hnd : n / Q64 ^ d < S := Nat.div_lt_of_lt_mul hn
  have hSb : S * b ≤ S * 255 := Nat.mul_le_mul_left _ (by omega)
  have hnQ : n / Q64 ^ d + S * b < Q64 := by
    have : S * 255 + S = S * 256 := by omega
    omega
  have e1 : b * (Q64 ^ d * S) = S * b * Q64 ^ d := by rw [Nat.mul_left_comm, Nat.mul_comm b S, Nat.mul_comm]
  refine ⟨?_, by omega, ?_, fun j hj => ?_⟩
  · unfold wq; rw [Nat.mod_eq_of_lt (by omega)]; exact hnd
  · unfold wq
    rw [e1, Nat.add_mul_div_right _ _ hQ0, Nat.mod_eq_of_lt hnQ, Nat.mod_eq_of_lt (by omega)]
  · unfold wq
    rcases Nat.lt_or_ge j d with h | h
    · obtain ⟨t, rfl⟩ : ∃ t, d = j + (t + 1) := ⟨d - j - 1, by omega⟩
      have hj0 : 0 < Q64 ^ j := Nat.pow_pos (by decide)
      rw [e1, Nat.pow_add, Nat.pow_succ', show S * b * (Q64 ^ j * (Q64 * Q64 ^ t)) = S * b * Q64 ^ t * Q64 * Q64 ^ j by
        rw [Nat.mul_comm (Q64 ^ j), Nat.mul_comm Q64 (Q64 ^ t), Nat.mul_assoc (S * b), Nat.mul_assoc (S * b), Nat.mul_assoc (Q64 ^ t)],
        Nat.add_mul_div_right _ _ hj0, Nat.add_mul_mod_self_right]
    · obtain ⟨t, rfl⟩ : ∃ t, j = d + (t + 1) := ⟨j - d - 1, by omega⟩
      have hbig : Q64 ^ d * Q64 ≤ Q64 ^ (d + (t + 1)) := by
        rw [← Nat.pow_succ]
        exact Nat.pow_le_pow_right (by decide) (by omega)
      have h1 : n + S * b * Q64 ^ d < Q64 ^ d * Q64 := by
        have hn2 : n < Q64 ^ d * (n / Q64 ^ d + 1) := Nat.lt_mul_div_succ n hQ0
        have : Q64 ^ d * (n / Q64 ^ d + 1 + S * b) ≤ Q64 ^ d * Q64 := Nat.mul_le_mul_left _ (by omega)
        rw [Nat.mul_add, Nat.mul_comm (Q64 ^ d) (S * b)] at this
        omega
      rw [e1, Nat.div_eq_of_lt (by omega), Nat.div_eq_of_lt (Nat.lt_of_le_of_lt (Nat.le_add_right _ _) (Nat.lt_of_lt_of_le h1 hbig))]
theorem mod_q (n k : Nat) : n % Q64 ^ (k + 1) = n % Q64 ^ k + wq n k * Q64 ^ k := by
  rw [Nat.mod_pow_succ, wq, Nat.mul_comm]
theorem add_wd {P V V' a z d m c n s : Nat} (h : z + d * Q64 = a + m + c) (hs : V' + a * P = V + z * P) (hi : V + c * P = n + s) : V' + d * (P * Q64) = n + (s + m * P) := by
  have e := congrArg (· * P) h
  simp only [Nat.add_mul] at e
  rw [Nat.mul_comm P, ← Nat.mul_assoc]
  omega
theorem sub_wd {P V V' a z d m b n s : Nat} (h : z + m + b = a + d * Q64) (hs : V' + a * P = V + z * P) (hi : V + s = n + b * P) : V' + (s + m * P) = n + d * (P * Q64) := by
  have e := congrArg (· * P) h
  simp only [Nat.add_mul] at e
  rw [Nat.mul_comm P, ← Nat.mul_assoc]
  omega
theorem mul_wd {P R V V' a z d m x c n s : Nat} (h : z + d * Q64 = x * m + a + c) (hs : V' + a * (P * R) = V + z * (P * R)) (hi : V + c * (P * R) = n + x * s * P) : V' + d * (P * R * Q64) = n + x * (s + m * R) * P := by
  have e := congrArg (· * (P * R)) h
  simp only [Nat.add_mul] at e
  have e2 : x * (s + m * R) * P = x * s * P + x * m * (P * R) := by
    rw [Nat.mul_add, Nat.add_mul, ← Nat.mul_assoc x m R, Nat.mul_assoc (x * m) R P, Nat.mul_comm R P]
  rw [e2, Nat.mul_comm (P * R), ← Nat.mul_assoc]
  omega
theorem sum_end {V c n m P : Nat} (h : V + c * P = n + m) (hv : V < P) : V = (n + m) % P := by
  rw [← h, Nat.add_mul_mod_self_right, Nat.mod_eq_of_lt hv]
theorem dif_end {V b n m P : Nat} (h : V + m = n + b * P) (hv : V < P) (hn : n < P) (hm : m < P) (hb : b ≤ 1) : V = (n + (P - m)) % P ∧ (b = 1 ↔ n < m) := by
  have : b = 0 ∨ b = 1 := by omega
  rcases this with rfl | rfl
  · refine ⟨?_, by omega⟩
    have e : n + (P - m) = V + P := by omega
    rw [e, Nat.add_mod_right, Nat.mod_eq_of_lt hv]
  · refine ⟨?_, by omega⟩
    rw [show n + (P - m) = V by omega, Nat.mod_eq_of_lt hv]
abbrev R11 : Nat := 27742317777372353535851937790883648493
theorem next_is {n w : Nat} (hn : n < LL) (hw : w < 4294967296) :
    (n / 2 ^ 220 * R11 < LL) ∧ (n % 2 ^ 220 * 2 ^ 32 + w < LL) ∧
    (n % 2 ^ 220 * 2 ^ 32 + w < n / 2 ^ 220 * R11 → n % 2 ^ 220 * 2 ^ 32 + w + LL - n / 2 ^ 220 * R11 = (n * 2 ^ 32 + w) % LL) ∧
    (¬ n % 2 ^ 220 * 2 ^ 32 + w < n / 2 ^ 220 * R11 → n % 2 ^ 220 * 2 ^ 32 + w - n / 2 ^ 220 * R11 = (n * 2 ^ 32 + w) % LL) := by
  unfold LL R11 at *
  simp only [Nat.reducePow]
  have hd := Nat.div_add_mod n 1684996666696914987166688442938726917102321526408785780068975640576
  have hm := Nat.mod_lt n (show 1684996666696914987166688442938726917102321526408785780068975640576 > 0 by decide)
  generalize n / 1684996666696914987166688442938726917102321526408785780068975640576 = q at *
  generalize n % 1684996666696914987166688442938726917102321526408785780068975640576 = t at *
  refine ⟨by omega, by omega, fun h => ?_, fun h => ?_⟩
  · have e : n * 4294967296 + w = (t * 4294967296 + w + 7237005577332262213973186563042994240857116359379907606001950938285454250989 - q * 27742317777372353535851937790883648493) + 7237005577332262213973186563042994240857116359379907606001950938285454250989 * (q - 1) := by omega
    rw [e, Nat.add_mul_mod_self_left, Nat.mod_eq_of_lt (by omega)]
  · have e : n * 4294967296 + w = (t * 4294967296 + w - q * 27742317777372353535851937790883648493) + 7237005577332262213973186563042994240857116359379907606001950938285454250989 * q := by omega
    rw [e, Nat.add_mul_mod_self_left, Nat.mod_eq_of_lt (by omega)]
theorem next_words (n w : Nat) (hn : n < LL) (hw : w < 4294967296) :
    w + 2 ^ 32 * (wq n 0 % 4294967296) + Q64 * (wq n 0 / 4294967296 + 2 ^ 32 * (wq n 1 % 4294967296) + Q64 * (wq n 1 / 4294967296 + 2 ^ 32 * (wq n 2 % 4294967296) + Q64 * (wq n 2 / 4294967296 + 2 ^ 32 * (wq n 3 % 268435456)))) = n % 2 ^ 220 * 2 ^ 32 + w ∧
    wq n 3 / 268435456 = n / 2 ^ 220 := by
  unfold wq Q64 LL at *
  simp only [Nat.reducePow]
  constructor <;> omega
theorem next_ex {n w : Nat} (hn : n < LL) (hw : w < 4294967296) : ∃ S q O : Nat,
    q * R11 < LL ∧ S < LL ∧ (S < q * R11 → S + LL - q * R11 = O) ∧ (¬ S < q * R11 → S - q * R11 = O) ∧ O < LL ∧ (n * 2 ^ 32 + w) % LL = O ∧
    w + 2 ^ 32 * (wq n 0 % 4294967296) + Q64 * (wq n 0 / 4294967296 + 2 ^ 32 * (wq n 1 % 4294967296) + Q64 * (wq n 1 / 4294967296 + 2 ^ 32 * (wq n 2 % 4294967296) + Q64 * (wq n 2 / 4294967296 + 2 ^ 32 * (wq n 3 % 268435456)))) = S ∧
    wq n 3 / 268435456 = q := by
  obtain ⟨a, b, c, d⟩ := next_is hn hw
  obtain ⟨e, f⟩ := next_words n w hn hw
  exact ⟨_, _, _, a, b, c, d, Nat.mod_lt _ (by decide), rfl, e, f⟩
abbrev Q4 : Nat := 115792089237316195423570985008687907853269984665640564039457584007913129639936
theorem q4_is : Q64 ^ 4 = Q4 := by decide
theorem min_less {S Y O : Nat} (hS : S < LL) (hY : Y < LL) (h : S < Y) (e : S + LL - Y = O) (hO : O < LL) : ((S + (Q4 - Y)) % Q4 + LL) % Q4 = O := by
  unfold Q4 LL at *
  omega
theorem min_else {S Y O : Nat} (hS : S < LL) (hY : Y < LL) (h : ¬ S < Y) (e : S - Y = O) : (S + (Q4 - Y)) % Q4 = O := by
  unfold Q4 LL at *
  omega
theorem round_is (n i : Nat) : ((n / Q64 ^ (i + 1) % LL * 2 ^ 32 + wq n i / 4294967296) % LL * 2 ^ 32 + wq n i % 4294967296) % LL = n / Q64 ^ i % LL := by
  have e : n / Q64 ^ i = n / Q64 ^ (i + 1) * Q64 + wq n i := by
    unfold wq
    rw [Nat.pow_succ, ← Nat.div_div_eq_div_mul, Nat.mul_comm]
    exact (Nat.div_add_mod _ _).symm
  have hw := wq_lt n i
  rw [e]
  generalize n / Q64 ^ (i + 1) = h at *
  generalize wq n i = w at *
  unfold Q64 LL at *
  simp only [Nat.reducePow]
  omega
theorem mul_lim {a b c P R : Nat} (ha : a < P) (hb : b < R) (hc : c < R) : a * b + c < P * R := by
  have h1 : a * b ≤ (P - 1) * (R - 1) := Nat.mul_le_mul (by omega) (by omega)
  have h2 : (P - 1) * (R - 1) + (R - 1) = P * (R - 1) := by rw [← Nat.succ_mul]; congr 1; omega
  have h3 : P * (R - 1) + P = P * R := by rw [← Nat.mul_succ]; congr 1; omega
  omega
end Go.Proofs.Ytfejabfmhddepaa

namespace Go.Proofs.Ytfejabfmhddepaa
open Go.RowKit
set_option linter.unusedVariables false
set_option maxRecDepth 100000
structure Lp (w wr : World) (g : Nat) (cs : Array Value) (t : TypeId) (L : List RowT) : Prop where
  rows : RowsW wr ((g, cs, t) :: L)
  new : w.heap.size ≤ g
  far : ∀ r ∈ L, r.1 ≠ g
  below : Below w.heap.size w wr
theorem Lp.drew {w wr g cs t L} (h : Lp w wr g cs t L) : Lp w wr.drew g cs t L := ⟨h.rows.drew, h.new, h.far, h.below.drew⟩
theorem Lp.set {w wr g cs t L} (h : Lp w wr g cs t L) (k : Nat) (v : Value) : Lp w (wr.setCell ⟨g, k, none⟩ v) g (cs.setIfInBounds k v) t L :=
  ⟨h.rows.set h.far k v, h.new, h.far, h.below.setCell (p := ⟨g, k, none⟩) h.new v⟩
theorem Lp.fz {w wr g cs t L} (h : Lp w wr g cs t L) (k : Nat) : wr.frozen? ⟨g, k, none⟩ = false := by have := h.rows.head; simp [World.frozen?, this]
theorem Lp.call {w wr W g cs t L} (h : Lp w wr g cs t L) (hb : Below wr.heap.size wr W) : Lp w W g cs t L := ⟨h.rows.below hb, h.new, h.far, below_then h.below hb⟩
end Go.Proofs.Ytfejabfmhddepaa

namespace Go.Proofs.Ytfejabfmhddepaa
open Go.RowKit
set_option linter.unusedVariables false
set_option maxRecDepth 100000
structure CaI (w wr : World) (g : Nat) (D : List Int) : Prop where
  row : wr.heap[g]? = some (.cells (tabI D) 2 (0, 0))
  only : Only (fun j => j = g) w wr
theorem CaI.drew {w wr : World} {g : Nat} {D : List Int} (h : CaI w wr g D) : CaI w wr.drew g D := ⟨h.row, h.only.drew⟩
theorem CaI.cell {w wr : World} {g : Nat} {D : List Int} (h : CaI w wr g D) (k : Nat) (v : Int) : CaI w (wr.setCell ⟨g, k, none⟩ (.int .i64 v)) g (D.set k v) :=
  ⟨by rw [setCell_eq_setRow wr g k _ _ _ (.int .i64 v) h.row, tabI_set]; exact setRow_heap _ _ _ _ _ _ h.row, h.only.setCell (p := ⟨g, k, none⟩) (.inl rfl) _⟩
end Go.Proofs.Ytfejabfmhddepaa

namespace Go.Proofs.Ytfejabfmhddepaa
open Go.RowKit
set_option linter.unusedVariables false
set_option maxRecDepth 100000
structure SuI (w wr : World) (g gx gy : Nat) (X Y : List Int) (z : Array Value) : Prop where
  res : wr.heap[g]? = some (.cells z 22 (0, 0))
  xx : wr.heap[gx]? = some (.cells (tabI X) 2 (0, 0))
  yy : wr.heap[gy]? = some (.cells (tabI Y) 2 (0, 0))
  n1 : g ≠ gx
  n2 : gy ≠ gx
  low : w.heap.size ≤ gx
  below : Below w.heap.size w wr
section
variable {w wr : World} {g gx gy : Nat} {X Y : List Int} {z : Array Value}
theorem SuI.drew (h : SuI w wr g gx gy X Y z) : SuI w wr.drew g gx gy X Y z := ⟨h.res, h.xx, h.yy, h.n1, h.n2, h.low, h.below.drew⟩
theorem SuI.cell (h : SuI w wr g gx gy X Y z) (k : Nat) (v : Int) : SuI w (wr.setCell ⟨gx, k, none⟩ (.int .i64 v)) g gx gy (X.set k v) Y z := by
  rw [setCell_eq_setRow wr gx k _ _ _ (.int .i64 v) h.xx, tabI_set]
  exact ⟨by rw [setRow_other _ _ _ _ h.n1]; exact h.res, setRow_heap _ _ _ _ _ _ h.xx, by rw [setRow_other _ _ _ _ h.n2]; exact h.yy, h.n1, h.n2, h.low, below_row h.below h.low⟩
end
end Go.Proofs.Ytfejabfmhddepaa

namespace Go.Proofs.Ytfejabfmhddepaa
open Go.RowKit
set_option linter.unusedVariables false
set_option maxRecDepth 100000
theorem wd4_info (n : Nat) : (Try.prog.info? 80).map (·.size) = some (wdW 4 n).size := by rw [wdW_size]; kernel_rfl
theorem wd8_info (n : Nat) : (Try.prog.info? 83).map (·.size) = some (wdW 8 n).size := by rw [wdW_size]; kernel_rfl
theorem wd4_zero (u : World) : (zeroValue 80).run Try.prog u = .ok (.agg (wdW 4 0)) u := zero_arr 80 (wdW 4 0) 4 (by kernel_rfl) u
theorem wd8_zero (u : World) : (zeroValue 83).run Try.prog u = .ok (.agg (wdW 8 0)) u := zero_arr 83 (wdW 8 0) 8 (by kernel_rfl) u
theorem b32_zero (u : World) : (zeroValue 22).run Try.prog u = .ok (.agg zero32) u := arr32_zero u
set_option maxHeartbeats 3200000 in
theorem scwords_any (l : List UInt8) (hl : l.length = 32) (w : World) : Calls Try.prog 63 #[.agg (arrB l)] w (RetV w (.agg (wdW 4 (leN l)))) := by
  have hz4 := wd4_zero
  have HX : Hid (∀ k : Nat, k < 32 → ∀ u, (Instr.index 22 (.agg (arrB l)) (.int .i64 (k : Int))).run Try.prog u = .ok (.int .u8 ((l.getD k 0).toNat : Int)) u) := Lib.hid fun k hk u => arr_at hl k hk u
  have iB := arr32_info hl
  have HL := Lib.hid hl
  have HZ : Hid (wdW 4 0 = wdW 4 (leN (l.take 0))) := Lib.hid (by rw [List.take_zero]; rfl)
  have iO := wd4_info (leN l)
  have nO : (wdW 4 0).size = (wdW 4 (leN l)).size := by rw [wdW_size, wdW_size]
  have oO := wdW_one 4 (leN l)
  obtain ⟨BB, hBB⟩ : ∃ X, arrB l = X := ⟨_, rfl⟩
  rw [hBB] at HX iB ⊢
  obtain ⟨z4, hz⟩ : ∃ z, wdW 4 0 = z := ⟨_, rfl⟩
  rw [hz] at hz4 HZ nO
  have hr0 : RowsW (((w.alloc (.cells BB 22)).alloc (.cells z4 80)).alloc (.cells z4 80)) [(w.heap.size + 1 + 1, z4, 80), (w.heap.size + 1, z4, 80), (w.heap.size, BB, 22)] := by
    have h := (((RowsW.nil w).box BB 22).box z4 80).box z4 80
    simp only [World.size_alloc] at h
    exact h
  have hrb := hr0.tail.tail.head
  have hb0 : Below w.heap.size w (((w.alloc (.cells BB 22)).alloc (.cells z4 80)).alloc (.cells z4 80)) := below_alloc (below_alloc (below_alloc (Below.refl _ _) _) _) _
  have HR0 := Lib.hid hr0
  have HB0 := Lib.hid hb0
  clear hr0 hb0 hBB hz hl
  go_enter Try.func63, Try.ntmps63
  go_wp2_with (refine wpList_load_row rfl 22 (.tmp 1) rfl w.heap.size rfl 22 BB (0, 0) _ hrb Try.underlying22 rfl iB ?_)
  obtain ⟨W1, hW1⟩ : ∃ W, ((w.alloc (.cells BB 22)).alloc (.cells z4 80)).alloc (.cells z4 80) = W := ⟨_, rfl⟩
  rw [hW1] at HR0 HB0
  rw [hW1]
  have HI : Hid (Lp w W1 (w.heap.size + 1 + 1) (wdW 4 (leN (l.take 0))) 80 [(w.heap.size + 1, z4, 80)]) := Lib.hid ⟨by rw [← HZ.out]; exact ⟨HR0.out.head, HR0.out.tail.head, trivial⟩, by omega, by simp, HB0.out⟩
  obtain ⟨g, hg⟩ : ∃ g, w.heap.size = g := ⟨_, rfl⟩
  rw [hg] at HI
  rw [hg]
  have HG := Lib.hid hg
  clear hW1 hg hrb HR0 HB0 HZ
  go_loopw [7] (fun i wr => ∃ k : Nat, k ≤ 32 ∧ i = .int .i64 (k : Int) ∧ Hid (Lp w wr (g + 1 + 1) (wdW 4 (leN (l.take k))) 80 [(g + 1, z4, 80)])) (fun i _ => 32 - (intOf i).toNat)
  case atStart => exact ⟨0, by omega, rfl, HI⟩
  case round =>
    clear HI
    obtain ⟨k, hk, rfl, HI⟩ := hrel
    by_cases hlt : k < 32
    · have hx := HX.out k hlt
      obtain ⟨b, hb⟩ : ∃ b, (l.getD k 0).toNat = b := ⟨_, rfl⟩
      have hbl : b < 256 := by rw [← hb]; exact (l.getD k 0).toNat_lt
      obtain ⟨n, hn⟩ : ∃ n, leN (l.take k) = n := ⟨_, rfl⟩
      have hnl : n < 256 ^ k := by rw [← hn]; exact leN_take_lt l k (by rw [HL.out]; omega)
      have hn1 : leN (l.take (k + 1)) = n + b * 256 ^ k := by rw [leN_take l k (by rw [HL.out]; omega), hn, hb]
      obtain ⟨s1, s2, s3, s4⟩ := wd_step n b k hnl hbl
      have hd4 : k / 8 < 4 := by omega
      rw [hn] at HI
      rw [hb] at hx
      obtain ⟨d, hd⟩ : ∃ d, k / 8 = d := ⟨_, rfl⟩
      obtain ⟨r, hr⟩ : ∃ r, k % 8 = r := ⟨_, rfl⟩
      obtain ⟨e, he⟩ : ∃ e, r * 8 = e := ⟨_, rfl⟩
      rw [hd, hr, he] at s1 s3
      rw [hr, he] at s2
      rw [hd] at s4
      rw [hd] at hd4
      have hel : e < 57 := by omega
      have hs4 := wdW_set 4 n (n + b * 256 ^ k) d hd4 (fun j _ hne => s4 j hne)
      rw [s3] at hs4
      have cz : wr.cell? ⟨g + 1 + 1, d, none⟩ = some (.int .u64 (wq n d : Int)) := by rw [cell_of_row _ _ _ _ _ _ HI.out.rows.head, wdW_get _ _ _ hd4]
      have fx := HI.out.fz d
      have hw := wq_lt n d
      have f7 := or_low (wq n d) b e s1 hw s2
      have HI2 : Hid (Lp w (wr.drew.setCell ⟨g + 1 + 1, d, none⟩ (.int .u64 ((wq n d + 2 ^ e * b : Nat) : Int))) (g + 1 + 1) (wdW 4 (leN (l.take (k + 1)))) 80 [(g + 1, z4, 80)]) := Lib.hid (by
        rw [hn1, ← hs4]
        exact (HI.out.drew).set d _)
      have f6 : IntKind.u64.wrap ((b : Int) * 2 ^ e) = ((2 ^ e * b : Nat) : Int) := by
        rw [IntKind.wrap_u64, show (b : Int) * 2 ^ e = ((2 ^ e * b : Nat) : Int) by rw [Int.natCast_mul, Int.mul_comm]; simp]
        unfold Q64 at s2
        omega
      generalize 2 ^ e * b = m at *
      obtain ⟨o, ho⟩ : ∃ o, wq n d + m = o := ⟨_, rfl⟩
      rw [ho] at f7 HI2
      generalize wq n d = q at *
      have f1 : (k : Int).tdiv 8 = (d : Int) := by rw [Int.tdiv_eq_ediv_of_nonneg (by omega)]; omega
      have f1' : (k : Int) / 8 = (d : Int) := by omega
      have f2 : IntKind.i64.wrap (d : Int) = (d : Int) := by rw [IntKind.wrap_i64]; omega
      have f3 : (k : Int).tmod 8 = (r : Int) := by rw [Int.tmod_eq_emod_of_nonneg (by omega)]; omega
      have f3' : (k : Int) % 8 = (r : Int) := by omega
      have f4 : (r : Int) * 8 = (e : Int) := by omega
      have f5 : IntKind.i64.wrap (e : Int) = (e : Int) := by rw [IntKind.wrap_i64]; omega
      have f8 : IntKind.u64.wrap (b : Int) = (b : Int) := by rw [IntKind.wrap_u64]; omega
      have b1 : 0 ≤ (d : Int) := by omega
      have b2 : (d : Int) < 4 := by omega
      have b3 : 0 ≤ (e : Int) := by omega
      have b5 : 0 ≤ (k : Int) := by omega
      have b6 : (k : Int) < 32 := by omega
      clear HI hb hbl hn hnl hn1 s1 s2 s3 s4 hd hr he hs4 hw ho
      go_wp2_with fail
      refine wp_region_still_tail 11 (by kernel_rfl) (by kernel_rfl) ?_
      simp only [List.take_succ_cons, List.take_zero, List.drop_succ_cons, List.drop_zero]
      iterate 11 still_step
      refine wpStill_nil ?_
      go_wp2_with fail
      go_roundw
      case rel => exact ⟨k + 1, by omega, by go_num, HI2⟩
      case measure => simp [intOf]; omega
    · obtain rfl : k = 32 := by omega
      have hV : l.take 32 = l := List.take_of_length_le (by rw [HL.out]; omega)
      rw [hV] at HI
      generalize wdW 4 (leN l) = OUT at *
      have h1 := HI.out.rows.head
      have h0 := HI.out.rows.tail.head
      have HB : Hid (Below w.heap.size w (wr.setRow (g + 1) OUT)) := Lib.hid (below_row HI.out.below (by rw [HG.out]; omega))
      clear HI
      go_wp2_with (first
        | (refine wpList_load_row rfl 80 (.tmp 3) rfl (g + 1 + 1) rfl 80 OUT (0, 0) _ h1 Try.underlying80 rfl iO ?_)
        | (refine wpList_store_row rfl 80 (.tmp 2) (.tmp 24) rfl (g + 1) OUT rfl rfl 80 z4 h0 iO nO oO ?_))
      (try simp only [Exit.inBlock, Exit.then])
      refine bodyPost_ret (results_cell_row rfl _ _ (g + 1) _ OUT _ _ rfl (setRow_heap _ _ _ _ _ _ h0) Try.underlying80 rfl iO) rfl ?_
      exact ⟨rfl, HB.out⟩
def byteX (V i : Nat) : UInt8 := UInt8.ofNat (V / 256 ^ i)
theorem bytesX_end (V : Nat) : updTo (List.replicate 32 0) (byteX V) 32 = leB 32 V := by
  refine list_ext_getD (by rw [updTo_len, leB_len]; simp) fun i hi => ?_
  rw [updTo_len] at hi
  have hi' : i < 32 := by simpa using hi
  rw [updTo_get hi, if_pos hi', leB_get _ _ _ hi']
  rfl
set_option maxHeartbeats 3200000 in
theorem scbytes_any (x : Nat) (w : World) : Calls Try.prog 61 #[.agg (wdW 4 x)] w (RetV w (.agg (bytT x))) := by
  have HQ : Hid (∀ i, i < 32 → wq x (i / 8) / 2 ^ (i % 8 * 8) % 256 = x / 256 ^ i % 256) := Lib.hid (byte_of x)
  have hzb := b32_zero
  have nB := zero32_size (l := leB 32 x) (leB_len _ _)
  have oB := arrB_one (leB 32 x)
  have iB := arr32_info (leB_len 32 x)
  have HZB : Hid (zero32 = arrB (updTo (List.replicate 32 0) (byteX x) 0)) := Lib.hid (by rw [updTo_zero]; rfl)
  have Hend : Hid (arrB (updTo (List.replicate 32 0) (byteX x) 32) = arrB (leB 32 x)) := Lib.hid (by rw [bytesX_end])
  have HWD : Hid (∀ d, d < 4 → (wdW 4 x)[d]? = some (.int .u64 (wq x d : Int))) := Lib.hid fun d h => wdW_get 4 x d h
  unfold bytT
  obtain ⟨OUT, hOUT⟩ : ∃ o, arrB (leB 32 x) = o := ⟨_, rfl⟩
  rw [hOUT] at nB oB iB Hend ⊢
  generalize zero32 = z32 at *
  generalize wdW 4 x = N at *
  have hr0 : RowsW (((w.alloc (.cells N 80)).alloc (.cells z32 22)).alloc (.cells z32 22)) [(w.heap.size + 1 + 1, z32, 22), (w.heap.size + 1, z32, 22), (w.heap.size, N, 80)] := by
    have h := (((RowsW.nil w).box N 80).box z32 22).box z32 22
    simp only [World.size_alloc] at h
    exact h
  have hb0 : Below w.heap.size w (((w.alloc (.cells N 80)).alloc (.cells z32 22)).alloc (.cells z32 22)) := below_alloc (below_alloc (below_alloc (Below.refl _ _) _) _) _
  have HR0 := Lib.hid hr0
  have HB0 := Lib.hid hb0
  clear hr0 hb0 hOUT
  go_enter Try.func61, Try.ntmps61
  go_wp2_with fail
  obtain ⟨W1, hW1⟩ : ∃ W, ((w.alloc (.cells N 80)).alloc (.cells z32 22)).alloc (.cells z32 22) = W := ⟨_, rfl⟩
  rw [hW1] at HR0 HB0
  rw [hW1]
  have HI : Hid (Lp w W1 (w.heap.size + 1 + 1) (arrB (updTo (List.replicate 32 0) (byteX x) 0)) 22 [(w.heap.size + 1, z32, 22), (w.heap.size, N, 80)]) := Lib.hid ⟨by rw [← HZB.out]; exact HR0.out, by omega, by simp; omega, HB0.out⟩
  obtain ⟨g, hg⟩ : ∃ g, w.heap.size = g := ⟨_, rfl⟩
  rw [hg] at HI
  rw [hg]
  have HG := Lib.hid hg
  clear hW1 hg HR0 HB0 HZB
  go_loopw [5] (fun i wr => ∃ k : Nat, k ≤ 32 ∧ i = .int .i64 (k : Int) ∧ Hid (Lp w wr (g + 1 + 1) (arrB (updTo (List.replicate 32 0) (byteX x) k)) 22 [(g + 1, z32, 22), (g, N, 80)])) (fun i _ => 32 - (intOf i).toNat)
  case atStart => exact ⟨0, by omega, rfl, HI⟩
  case round =>
    clear HI
    obtain ⟨k, hk, rfl, HI⟩ := hrel
    by_cases hlt : k < 32
    · have hq := HQ.out k hlt
      have hd4 : k / 8 < 4 := by omega
      obtain ⟨d, hd⟩ : ∃ d, k / 8 = d := ⟨_, rfl⟩
      obtain ⟨r, hr⟩ : ∃ r, k % 8 = r := ⟨_, rfl⟩
      obtain ⟨e, he⟩ : ∃ e, r * 8 = e := ⟨_, rfl⟩
      rw [hd, hr, he] at hq
      rw [hd] at hd4
      have hel : e < 57 := by omega
      have cz : wr.cell? ⟨g, d, none⟩ = some (.int .u64 (wq x d : Int)) := by rw [cell_of_row _ _ _ _ _ _ HI.out.rows.tail.tail.head, HWD.out _ hd4]
      have hlen : (updTo (List.replicate 32 0) (byteX x) k).length = 32 := by rw [updTo_len]; simp
      have ce : wr.cell? ⟨g + 1 + 1, k, none⟩ = some (.int .u8 (((updTo (List.replicate 32 0) (byteX x) k).getD k 0).toNat : Int)) := by rw [cell_of_row _ _ _ _ _ _ HI.out.rows.head, arrB_get _ _ (by omega)]
      have fe := HI.out.fz k
      obtain ⟨t, ht⟩ : ∃ t, wq x d / 2 ^ e = t := ⟨_, rfl⟩
      rw [ht] at hq
      obtain ⟨v, hv⟩ : ∃ v, t % 256 = v := ⟨_, rfl⟩
      have hb : (byteX x k).toNat = v := by unfold byteX; rw [← hv, hq]; simp
      have HI2 : Hid (Lp w (wr.setCell ⟨g + 1 + 1, k, none⟩ (.int .u8 (v : Int))) (g + 1 + 1) (arrB (updTo (List.replicate 32 0) (byteX x) (k + 1))) 22 [(g + 1, z32, 22), (g, N, 80)]) := Lib.hid (by
        rw [← updTo_step (by simpa using hlt), ← arrB_set, hb]
        exact HI.out.set k _)
      have f6 : ((wq x d : Nat) : Int) / 2 ^ e = (t : Int) := by rw [← ht, Int.natCast_ediv]; simp
      have f7 : IntKind.u8.wrap (t : Int) = (v : Int) := by rw [IntKind.wrap_u8]; omega
      have f1 : (k : Int).tdiv 8 = (d : Int) := by rw [Int.tdiv_eq_ediv_of_nonneg (by omega)]; omega
      have f1' : (k : Int) / 8 = (d : Int) := by omega
      have f3 : (k : Int).tmod 8 = (r : Int) := by rw [Int.tmod_eq_emod_of_nonneg (by omega)]; omega
      have f3' : (k : Int) % 8 = (r : Int) := by omega
      have f4 : (r : Int) * 8 = (e : Int) := by omega
      have b1 : 0 ≤ (d : Int) := by omega
      have b2 : (d : Int) < 4 := by omega
      have b3 : 0 ≤ (e : Int) := by omega
      have b5 : 0 ≤ (k : Int) := by omega
      have b6 : (k : Int) < 32 := by omega
      generalize ((updTo (List.replicate 32 0) (byteX x) k).getD k 0) = old at *
      generalize wq x d = q at *
      clear HI hq hd hr he hb hlen ht hv
      go_wp2_with fail
      go_roundw
      case rel => exact ⟨k + 1, by omega, by go_num, HI2⟩
      case measure => simp [intOf]; omega
    · obtain rfl : k = 32 := by omega
      rw [Hend.out] at HI
      have h1 := HI.out.rows.head
      have h0 := HI.out.rows.tail.head
      have HB : Hid (Below w.heap.size w (wr.setRow (g + 1) OUT)) := Lib.hid (below_row HI.out.below (by rw [HG.out]; omega))
      clear HI
      go_wp2_with (first
        | (refine wpList_load_row rfl 22 (.tmp 3) rfl (g + 1 + 1) rfl 22 OUT (0, 0) _ h1 Try.underlying22 rfl iB ?_)
        | (refine wpList_store_row rfl 22 (.tmp 2) (.tmp 20) rfl (g + 1) OUT rfl rfl 22 z32 h0 iB nB oB ?_))
      (try simp only [Exit.inBlock, Exit.then])
      refine bodyPost_ret (results_cell_row rfl _ _ (g + 1) _ OUT _ _ rfl (setRow_heap _ _ _ _ _ _ h0) Try.underlying22 rfl iB) rfl ?_
      exact ⟨rfl, HB.out⟩
end Go.Proofs.Ytfejabfmhddepaa

namespace Go.Proofs.Ytfejabfmhddepaa
open Go.RowKit
set_option linter.unusedVariables false
set_option maxRecDepth 100000
set_option maxHeartbeats 3200000 in
theorem scplus_any (n m : Nat) (hn : n < Q4) (hm : m < Q4) (w : World) : Calls Try.prog 96 #[.agg (wdW 4 n), .agg (wdW 4 m)] w (RetV w (.agg (wdW 4 ((n + m) % Q4)))) := by
  have hz4 := wd4_zero
  have HWM : Hid (∀ d, d < 4 → (wdW 4 m)[d]? = some (.int .u64 (wq m d : Int))) := Lib.hid fun d h => wdW_get 4 m d h
  have HNL : Hid (wdW 4 n = wsA (wsL 4 n)) := Lib.hid rfl
  have HWS := Lib.hid (wsL_ws 4 n)
  have HV0 : Hid (vQ (wsL 4 n) = n) := Lib.hid (vQ_eq (by rw [q4_is]; exact hn))
  have HN := Lib.hid hn
  have HM := Lib.hid hm
  have iO := wd4_info ((n + m) % Q4)
  have nO : (wdW 4 0).size = (wdW 4 ((n + m) % Q4)).size := by rw [wdW_size, wdW_size]
  have oO := wdW_one 4 ((n + m) % Q4)
  generalize wdW 4 m = M at *
  generalize hz : wdW 4 0 = z4 at *
  generalize hN0 : wdW 4 n = N at *
  have hr0 : RowsW (((w.alloc (.cells N 80)).alloc (.cells M 80)).alloc (.cells z4 80)) [(w.heap.size + 1 + 1, z4, 80), (w.heap.size + 1, M, 80), (w.heap.size, N, 80)] := by
    have h := (((RowsW.nil w).box N 80).box M 80).box z4 80
    (try simp only [World.size_alloc] at h)
    exact h
  have hb0 : Below w.heap.size w (((w.alloc (.cells N 80)).alloc (.cells M 80)).alloc (.cells z4 80)) := below_alloc (below_alloc (below_alloc (Below.refl _ _) _) _) _
  have HR0 := Lib.hid hr0
  have HB0 := Lib.hid hb0
  clear hr0 hb0 hz hN0 hn hm
  go_enter Try.func96, Try.ntmps96
  go_wp2_with fail
  obtain ⟨W1, hW1⟩ : ∃ W, ((w.alloc (.cells N 80)).alloc (.cells M 80)).alloc (.cells z4 80) = W := ⟨_, rfl⟩
  rw [hW1] at HR0 HB0
  rw [hW1]
  obtain ⟨g, hg⟩ : ∃ g, w.heap.size = g := ⟨_, rfl⟩
  rw [hg] at HR0
  rw [hg]
  have HG := Lib.hid hg
  clear hW1 hg
  have HI : Hid (Lp w W1 g (wsA (wsL 4 n)) 80 [(g + 1, M, 80), (g + 1 + 1, z4, 80)]) := Lib.hid ⟨by rw [← HNL.out]; exact ⟨HR0.out.tail.tail.head, HR0.out.tail.head, HR0.out.head, trivial⟩, by rw [HG.out]; exact Nat.le_refl _, by simp; omega, HB0.out⟩
  clear HR0 HB0 HNL
  go_loopw [5, 7] (fun c_ i_ wr => ∃ (k : Nat) (l : List Nat) (cc : Nat), k ≤ 4 ∧ i_ = .int .i64 (k : Int) ∧ c_ = .int .u64 (cc : Int) ∧ Hid (Ws 4 l) ∧ Hid (cc ≤ 1) ∧ Hid (vQ l + cc * Q64 ^ k = n + m % Q64 ^ k) ∧ Hid (Lp w wr g (wsA l) 80 [(g + 1, M, 80), (g + 1 + 1, z4, 80)])) (fun _ i_ _ => 4 - (intOf i_).toNat)
  case atStart => exact ⟨0, wsL 4 n, 0, by omega, rfl, rfl, HWS, Lib.hid (by omega), Lib.hid (by rw [HV0.out]; simp [Nat.mod_one]), HI⟩
  case round =>
    clear HI HWS HV0
    obtain ⟨k, l, cc, hk, rfl, rfl, HWS, HC, HV, HI⟩ := hrel
    by_cases hlt : k < 4
    · have ha := HWS.out.lt k hlt
      have hb := wq_lt m k
      have cn : wr.cell? ⟨g, k, none⟩ = some (.int .u64 ((l.getD k 0 : Nat) : Int)) := by rw [cell_of_row _ _ _ _ _ _ HI.out.rows.head, wsA_get _ _ (by rw [HWS.out.len]; exact hlt)]
      have cm : wr.cell? ⟨g + 1, k, none⟩ = some (.int .u64 (wq m k : Int)) := by rw [cell_of_row _ _ _ _ _ _ HI.out.rows.tail.head, HWM.out _ hlt]
      have fz := HI.out.fz k
      obtain ⟨z, d, s, e, lz⟩ := add_ex (l.getD k 0) (wq m k) cc HC.out
      have HV2 : Hid (vQ (l.set k z) + d * Q64 ^ (k + 1) = n + m % Q64 ^ (k + 1)) := Lib.hid (by
        rw [mod_q, Nat.pow_succ]
        exact add_wd e (vQ_set l k z (by rw [HWS.out.len]; exact hlt)) HV.out)
      have HC2 : Hid (d ≤ 1) := Lib.hid (by have := HC.out; unfold Q64 at ha hb; omega)
      have HWS2 := Lib.hid (HWS.out.set k z lz)
      have HI2 : Hid (Lp w (wr.drew.setCell ⟨g, k, none⟩ (.int .u64 (z : Int))) g (wsA (l.set k z)) 80 [(g + 1, M, 80), (g + 1 + 1, z4, 80)]) := Lib.hid (by
        rw [← wsA_set]
        exact (HI.out.drew).set k _)
      generalize l.getD k 0 = a at *
      obtain ⟨b, hbm⟩ : ∃ b, wq m k = b := ⟨_, rfl⟩
      rw [hbm] at cm s e hb
      have HBM := Lib.hid hbm
      clear hbm
      have b5 : 0 ≤ (k : Int) := by omega
      have b6 : (k : Int) < 4 := by omega
      have cnd : wr.drew.cell? ⟨g, k, none⟩ = some (.int .u64 (a : Int)) := cn
      have fzd : wr.drew.frozen? ⟨g, k, none⟩ = false := fz
      have cmd : wr.drew.cell? ⟨g + 1, k, none⟩ = some (.int .u64 (b : Int)) := cm
      have HS2 : Hid ((wr.drew.setCell ⟨g, k, none⟩ (.int .u64 (z : Int))).cell? ⟨g + 1, k, none⟩ = some (.int .u64 (b : Int))) := Lib.hid (by rw [cell_of_row _ _ _ _ _ _ HI2.out.rows.tail.head, HWM.out _ hlt, HBM.out])
      clear HI HWS HC HV ha hb e lz hlt cn cm fz
      go_upto_region 5 with fail
      refine wp_region_noPanic ?_
      refine wp_region_held_drew (S := fun W => W.cell? ⟨g + 1, k, none⟩ = some (.int .u64 (b : Int))) (by kernel_rfl) (by exact cmd) (fun hS => ?_)
      refine' take_at 0 rfl (by kernel_rfl) (by kernel_rfl) (by kernel_rfl) (fun _ _ _ h => h) (by rfl) hS ?_ ?_ ?_
      rotate_left 2
      · intro W hSW; go_simp; try with_reducible rfl
      · simp only [List.set_cons_succ, List.set_cons_zero]; rfl
      refine' take_at 1 rfl (by kernel_rfl) (by kernel_rfl) (by kernel_rfl) (fun _ _ _ h => h) (by rfl) hS ?_ ?_ ?_
      rotate_left 2
      · intro W hSW; go_simp; try with_reducible rfl
      · simp only [List.set_cons_succ, List.set_cons_zero]; rfl
      refine' take_at 2 rfl (by kernel_rfl) (by kernel_rfl) (by kernel_rfl) (fun _ _ _ h => h) (by rfl) hS ?_ ?_ ?_
      rotate_left 2
      · intro W hSW; go_simp; try with_reducible rfl
      · simp only [List.set_cons_succ, List.set_cons_zero]; rfl
      refine' take_at 4 rfl (by kernel_rfl) (by kernel_rfl) (by kernel_rfl) (fun _ _ _ h => h) (by rfl) hS ?_ ?_ ?_
      rotate_left 2
      · intro W hSW; go_simp; try with_reducible rfl
      · simp only [List.set_cons_succ, List.set_cons_zero]; rfl
      refine' take_at 5 rfl (by kernel_rfl) (by kernel_rfl) (by kernel_rfl) (fun _ _ _ h => h) (by rfl) hS ?_ ?_ ?_
      rotate_left 2
      · intro W hSW; go_simp; try with_reducible rfl
      · simp only [List.set_cons_succ, List.set_cons_zero]; rfl
      refine' take_at 6 rfl (by kernel_rfl) (by kernel_rfl) (by kernel_rfl) (fun _ _ _ h => h) (by rfl) hS ?_ ?_ ?_
      rotate_left 2
      · intro W hSW; have hc : W.cell? ⟨g + 1, k, none⟩ = some (.int .u64 (b : Int)) := hSW; go_simp; try with_reducible rfl
      · simp only [List.set_cons_succ, List.set_cons_zero]; rfl
      refine' take_at 7 rfl (by kernel_rfl) (by kernel_rfl) (by kernel_rfl) (fun _ _ _ h => h) (by rfl) hS ?_ ?_ ?_
      rotate_left 2
      · intro W hSW; go_simp; try with_reducible rfl
      · simp only [List.set_cons_succ, List.set_cons_zero]; rfl
      refine call_at 3 rfl (by kernel_rfl) (by rfl) (fun K hK => ?_)
      go_simp
      refine hK.out _ _ (by exact hS) (fun hS => ?_)
      clear hK K
      refine' take_at 8 rfl (by kernel_rfl) (by kernel_rfl) (by kernel_rfl) (fun _ _ _ h => h) (by rfl) hS ?_ ?_ ?_
      rotate_left 2
      · intro W hSW; go_simp; try with_reducible rfl
      · simp only [List.set_cons_succ, List.set_cons_zero]; rfl
      refine' take_at 9 rfl (by kernel_rfl) (by kernel_rfl) (by kernel_rfl) (fun _ _ _ h => h) (by rfl) hS ?_ ?_ ?_
      rotate_left 2
      · intro W hSW; go_simp; try with_reducible rfl
      · simp only [List.set_cons_succ, List.set_cons_zero]; rfl
      refine' take_at 10 rfl (by kernel_rfl) (by kernel_rfl) (by kernel_rfl) (fun _ _ _ h => h) (by rfl) hS ?_ ?_ ?_
      rotate_left 2
      · intro W hSW; go_simp; try with_reducible rfl
      · simp only [List.set_cons_succ, List.set_cons_zero]; rfl
      refine' take_at 11 rfl (by kernel_rfl) (by kernel_rfl) (by kernel_rfl) (fun _ _ _ h => h) (by rfl) hS ?_ ?_ ?_
      rotate_left 2
      · intro W hSW; go_simp; try with_reducible rfl
      · simp only [List.set_cons_succ, List.set_cons_zero]; rfl
      refine' take_at 12 rfl (by kernel_rfl) (by kernel_rfl) (by kernel_rfl) (fun _ _ _ h => h) (by rfl) hS ?_ ?_ ?_
      rotate_left 2
      · intro W hSW; go_simp; try with_reducible rfl
      · simp only [List.set_cons_succ, List.set_cons_zero]; rfl
      refine call_at 13 rfl (by kernel_rfl) (by rfl) (fun K hK => ?_)
      go_simp
      refine hK.out _ _ (by exact HS2.out) (fun hS => ?_)
      clear hK K
      refine' take_at 14 rfl (by kernel_rfl) (by kernel_rfl) (by kernel_rfl) (fun _ _ _ h => h) (by rfl) hS ?_ ?_ ?_
      rotate_left 2
      · intro W hSW; go_simp; try with_reducible rfl
      · simp only [List.set_cons_succ, List.set_cons_zero]; rfl
      refine wpAnyH_done (by kernel_rfl) ?_ _
      refine NoPanic.normal ?_
      (try simp only [Act.put])
      go_wp2_with fail
      go_roundw
      case rel => exact ⟨k + 1, _, d, by omega, by go_num, rfl, HWS2, HC2, HV2, HI2⟩
      case measure => simp [intOf]; omega
    · obtain rfl : k = 4 := by omega
      have hv := sum_end (V := vQ l) (c := cc) (n := n) (m := m) (P := Q4) (by have := HV.out; rw [q4_is, Nat.mod_eq_of_lt HM.out] at this; exact this) (by rw [← q4_is]; exact vQ_lt HWS.out)
      rw [ws_row HWS.out hv] at HI
      generalize wdW 4 ((n + m) % Q4) = OUT at *
      have h1 := HI.out.rows.head
      have h0 := HI.out.rows.tail.tail.head
      have HB : Hid (Below w.heap.size w (wr.setRow (g + 1 + 1) OUT)) := Lib.hid (below_row HI.out.below (by rw [HG.out]; omega))
      clear HI HV HWS hv
      go_wp2_with (first
        | (refine wpList_load_row rfl 80 (.tmp 2) rfl g rfl 80 OUT (0, 0) _ h1 Try.underlying80 rfl iO ?_)
        | (refine wpList_store_row rfl 80 (.tmp 4) (.tmp 24) rfl (g + 1 + 1) OUT rfl rfl 80 z4 h0 iO nO oO ?_))
      (try simp only [Exit.inBlock, Exit.then])
      refine bodyPost_ret (results_cell_row rfl _ _ (g + 1 + 1) _ OUT _ _ rfl (setRow_heap _ _ _ _ _ _ h0) Try.underlying80 rfl iO) rfl ?_
      exact ⟨rfl, HB.out⟩
set_option maxHeartbeats 3200000 in
theorem scminus_any (n m : Nat) (hn : n < Q4) (hm : m < Q4) (w : World) : Calls Try.prog 94 #[.agg (wdW 4 n), .agg (wdW 4 m)] w (RetV w (.tuple #[.agg (wdW 4 ((n + (Q4 - m)) % Q4)), .bool (decide (n < m))])) := by
  have hz4 := wd4_zero
  have HWM : Hid (∀ d, d < 4 → (wdW 4 m)[d]? = some (.int .u64 (wq m d : Int))) := Lib.hid fun d h => wdW_get 4 m d h
  have HNL : Hid (wdW 4 n = wsA (wsL 4 n)) := Lib.hid rfl
  have HWS := Lib.hid (wsL_ws 4 n)
  have HV0 : Hid (vQ (wsL 4 n) = n) := Lib.hid (vQ_eq (by rw [q4_is]; exact hn))
  have HN := Lib.hid hn
  have HM := Lib.hid hm
  have iO := wd4_info ((n + (Q4 - m)) % Q4)
  have nO : (wdW 4 0).size = (wdW 4 ((n + (Q4 - m)) % Q4)).size := by rw [wdW_size, wdW_size]
  have oO := wdW_one 4 ((n + (Q4 - m)) % Q4)
  generalize wdW 4 m = M at *
  generalize hz : wdW 4 0 = z4 at *
  generalize hN0 : wdW 4 n = N at *
  have hr0 : RowsW (((w.alloc (.cells N 80)).alloc (.cells M 80)).alloc (.cells z4 80)) [(w.heap.size + 1 + 1, z4, 80), (w.heap.size + 1, M, 80), (w.heap.size, N, 80)] := by
    have h := (((RowsW.nil w).box N 80).box M 80).box z4 80
    (try simp only [World.size_alloc] at h)
    exact h
  have hb0 : Below w.heap.size w (((w.alloc (.cells N 80)).alloc (.cells M 80)).alloc (.cells z4 80)) := below_alloc (below_alloc (below_alloc (Below.refl _ _) _) _) _
  have HR0 := Lib.hid hr0
  have HB0 := Lib.hid hb0
  clear hr0 hb0 hz hN0 hn hm
  go_enter Try.func94, Try.ntmps94
  go_wp2_with fail
  obtain ⟨W1, hW1⟩ : ∃ W, ((w.alloc (.cells N 80)).alloc (.cells M 80)).alloc (.cells z4 80) = W := ⟨_, rfl⟩
  rw [hW1] at HR0 HB0
  rw [hW1]
  obtain ⟨g, hg⟩ : ∃ g, w.heap.size = g := ⟨_, rfl⟩
  rw [hg] at HR0
  rw [hg]
  have HG := Lib.hid hg
  clear hW1 hg
  have HI : Hid (Lp w W1 g (wsA (wsL 4 n)) 80 [(g + 1, M, 80), (g + 1 + 1, z4, 80)]) := Lib.hid ⟨by rw [← HNL.out]; exact ⟨HR0.out.tail.tail.head, HR0.out.tail.head, HR0.out.head, trivial⟩, by rw [HG.out]; exact Nat.le_refl _, by simp; omega, HB0.out⟩
  clear HR0 HB0 HNL
  go_loopw [6, 8] (fun c_ i_ wr => ∃ (k : Nat) (l : List Nat) (cc : Nat), k ≤ 4 ∧ i_ = .int .i64 (k : Int) ∧ c_ = .int .u64 (cc : Int) ∧ Hid (Ws 4 l) ∧ Hid (cc ≤ 1) ∧ Hid (vQ l + m % Q64 ^ k = n + cc * Q64 ^ k) ∧ Hid (Lp w wr g (wsA l) 80 [(g + 1, M, 80), (g + 1 + 1, z4, 80)])) (fun _ i_ _ => 4 - (intOf i_).toNat)
  case atStart => exact ⟨0, wsL 4 n, 0, by omega, rfl, rfl, HWS, Lib.hid (by omega), Lib.hid (by rw [HV0.out]; simp [Nat.mod_one]), HI⟩
  case round =>
    clear HI HWS HV0
    obtain ⟨k, l, cc, hk, rfl, rfl, HWS, HC, HV, HI⟩ := hrel
    by_cases hlt : k < 4
    · have ha := HWS.out.lt k hlt
      have hb := wq_lt m k
      have cn : wr.cell? ⟨g, k, none⟩ = some (.int .u64 ((l.getD k 0 : Nat) : Int)) := by rw [cell_of_row _ _ _ _ _ _ HI.out.rows.head, wsA_get _ _ (by rw [HWS.out.len]; exact hlt)]
      have cm : wr.cell? ⟨g + 1, k, none⟩ = some (.int .u64 (wq m k : Int)) := by rw [cell_of_row _ _ _ _ _ _ HI.out.rows.tail.head, HWM.out _ hlt]
      have fz := HI.out.fz k
      obtain ⟨z, d, s, e, lz, ld⟩ := sub_ex (l.getD k 0) (wq m k) cc ha hb HC.out
      have HV2 : Hid (vQ (l.set k z) + m % Q64 ^ (k + 1) = n + d * Q64 ^ (k + 1)) := Lib.hid (by
        rw [mod_q, Nat.pow_succ]
        exact sub_wd e (vQ_set l k z (by rw [HWS.out.len]; exact hlt)) HV.out)
      have HC2 := Lib.hid ld
      have HWS2 := Lib.hid (HWS.out.set k z lz)
      have HI2 : Hid (Lp w (wr.drew.setCell ⟨g, k, none⟩ (.int .u64 (z : Int))) g (wsA (l.set k z)) 80 [(g + 1, M, 80), (g + 1 + 1, z4, 80)]) := Lib.hid (by
        rw [← wsA_set]
        exact (HI.out.drew).set k _)
      generalize l.getD k 0 = a at *
      obtain ⟨b, hbm⟩ : ∃ b, wq m k = b := ⟨_, rfl⟩
      rw [hbm] at cm s e hb
      have HBM := Lib.hid hbm
      clear hbm
      have b5 : 0 ≤ (k : Int) := by omega
      have b6 : (k : Int) < 4 := by omega
      have cnd : wr.drew.cell? ⟨g, k, none⟩ = some (.int .u64 (a : Int)) := cn
      have fzd : wr.drew.frozen? ⟨g, k, none⟩ = false := fz
      have cmd : wr.drew.cell? ⟨g + 1, k, none⟩ = some (.int .u64 (b : Int)) := cm
      have HS2 : Hid ((wr.drew.setCell ⟨g, k, none⟩ (.int .u64 (z : Int))).cell? ⟨g + 1, k, none⟩ = some (.int .u64 (b : Int))) := Lib.hid (by rw [cell_of_row _ _ _ _ _ _ HI2.out.rows.tail.head, HWM.out _ hlt, HBM.out])
      clear HI HWS HC HV ha hb e lz hlt cn cm fz
      go_upto_region 5 with fail
      refine wp_region_noPanic ?_
      refine wp_region_held_drew (S := fun W => W.cell? ⟨g + 1, k, none⟩ = some (.int .u64 (b : Int))) (by kernel_rfl) (by exact cmd) (fun hS => ?_)
      refine' take_at 0 rfl (by kernel_rfl) (by kernel_rfl) (by kernel_rfl) (fun _ _ _ h => h) (by rfl) hS ?_ ?_ ?_
      rotate_left 2
      · intro W hSW; go_simp; try with_reducible rfl
      · simp only [List.set_cons_succ, List.set_cons_zero]; rfl
      refine' take_at 1 rfl (by kernel_rfl) (by kernel_rfl) (by kernel_rfl) (fun _ _ _ h => h) (by rfl) hS ?_ ?_ ?_
      rotate_left 2
      · intro W hSW; go_simp; try with_reducible rfl
      · simp only [List.set_cons_succ, List.set_cons_zero]; rfl
      refine' take_at 2 rfl (by kernel_rfl) (by kernel_rfl) (by kernel_rfl) (fun _ _ _ h => h) (by rfl) hS ?_ ?_ ?_
      rotate_left 2
      · intro W hSW; go_simp; try with_reducible rfl
      · simp only [List.set_cons_succ, List.set_cons_zero]; rfl
      refine' take_at 4 rfl (by kernel_rfl) (by kernel_rfl) (by kernel_rfl) (fun _ _ _ h => h) (by rfl) hS ?_ ?_ ?_
      rotate_left 2
      · intro W hSW; go_simp; try with_reducible rfl
      · simp only [List.set_cons_succ, List.set_cons_zero]; rfl
      refine' take_at 5 rfl (by kernel_rfl) (by kernel_rfl) (by kernel_rfl) (fun _ _ _ h => h) (by rfl) hS ?_ ?_ ?_
      rotate_left 2
      · intro W hSW; go_simp; try with_reducible rfl
      · simp only [List.set_cons_succ, List.set_cons_zero]; rfl
      refine' take_at 6 rfl (by kernel_rfl) (by kernel_rfl) (by kernel_rfl) (fun _ _ _ h => h) (by rfl) hS ?_ ?_ ?_
      rotate_left 2
      · intro W hSW; have hc : W.cell? ⟨g + 1, k, none⟩ = some (.int .u64 (b : Int)) := hSW; go_simp; try with_reducible rfl
      · simp only [List.set_cons_succ, List.set_cons_zero]; rfl
      refine' take_at 7 rfl (by kernel_rfl) (by kernel_rfl) (by kernel_rfl) (fun _ _ _ h => h) (by rfl) hS ?_ ?_ ?_
      rotate_left 2
      · intro W hSW; go_simp; try with_reducible rfl
      · simp only [List.set_cons_succ, List.set_cons_zero]; rfl
      refine call_at 3 rfl (by kernel_rfl) (by rfl) (fun K hK => ?_)
      go_simp
      refine hK.out _ _ (by exact hS) (fun hS => ?_)
      clear hK K
      refine' take_at 8 rfl (by kernel_rfl) (by kernel_rfl) (by kernel_rfl) (fun _ _ _ h => h) (by rfl) hS ?_ ?_ ?_
      rotate_left 2
      · intro W hSW; go_simp; try with_reducible rfl
      · simp only [List.set_cons_succ, List.set_cons_zero]; rfl
      refine' take_at 9 rfl (by kernel_rfl) (by kernel_rfl) (by kernel_rfl) (fun _ _ _ h => h) (by rfl) hS ?_ ?_ ?_
      rotate_left 2
      · intro W hSW; go_simp; try with_reducible rfl
      · simp only [List.set_cons_succ, List.set_cons_zero]; rfl
      refine' take_at 10 rfl (by kernel_rfl) (by kernel_rfl) (by kernel_rfl) (fun _ _ _ h => h) (by rfl) hS ?_ ?_ ?_
      rotate_left 2
      · intro W hSW; go_simp; try with_reducible rfl
      · simp only [List.set_cons_succ, List.set_cons_zero]; rfl
      refine' take_at 11 rfl (by kernel_rfl) (by kernel_rfl) (by kernel_rfl) (fun _ _ _ h => h) (by rfl) hS ?_ ?_ ?_
      rotate_left 2
      · intro W hSW; go_simp; try with_reducible rfl
      · simp only [List.set_cons_succ, List.set_cons_zero]; rfl
      refine' take_at 12 rfl (by kernel_rfl) (by kernel_rfl) (by kernel_rfl) (fun _ _ _ h => h) (by rfl) hS ?_ ?_ ?_
      rotate_left 2
      · intro W hSW; go_simp; try with_reducible rfl
      · simp only [List.set_cons_succ, List.set_cons_zero]; rfl
      refine call_at 13 rfl (by kernel_rfl) (by rfl) (fun K hK => ?_)
      go_simp
      refine hK.out _ _ (by exact HS2.out) (fun hS => ?_)
      clear hK K
      refine' take_at 14 rfl (by kernel_rfl) (by kernel_rfl) (by kernel_rfl) (fun _ _ _ h => h) (by rfl) hS ?_ ?_ ?_
      rotate_left 2
      · intro W hSW; go_simp; try with_reducible rfl
      · simp only [List.set_cons_succ, List.set_cons_zero]; rfl
      refine wpAnyH_done (by kernel_rfl) ?_ _
      refine NoPanic.normal ?_
      (try simp only [Act.put])
      go_wp2_with fail
      go_roundw
      case rel => exact ⟨k + 1, _, d, by omega, by go_num, rfl, HWS2, HC2, HV2, HI2⟩
      case measure => simp [intOf]; omega
    · obtain rfl : k = 4 := by omega
      have hv := dif_end (V := vQ l) (b := cc) (n := n) (m := m) (P := Q4) (by have := HV.out; rw [q4_is, Nat.mod_eq_of_lt HM.out] at this; exact this) (by rw [← q4_is]; exact vQ_lt HWS.out) HN.out HM.out HC.out
      have hd : Hid (decide (n < m) = ((cc : Int) == 1)) := Lib.hid (by
        have h1 := HC.out
        have : cc = 0 ∨ cc = 1 := by omega
        rcases this with rfl | rfl
        · rw [decide_eq_false (fun h => absurd (hv.2.2 h) (by omega))]; rfl
        · rw [decide_eq_true (hv.2.1 rfl)]; rfl)
      rw [ws_row HWS.out hv.1] at HI
      generalize wdW 4 ((n + (Q4 - m)) % Q4) = OUT at *
      have h1 := HI.out.rows.head
      have h0 := HI.out.rows.tail.tail.head
      have HB : Hid (Below w.heap.size w (wr.setRow (g + 1 + 1) OUT)) := Lib.hid (below_row HI.out.below (by rw [HG.out]; omega))
      clear HI HV HWS hv
      go_wp2_with (first
        | (refine wpList_load_row rfl 80 (.tmp 2) rfl g rfl 80 OUT (0, 0) _ h1 Try.underlying80 rfl iO ?_)
        | (refine wpList_store_row rfl 80 (.tmp 4) (.tmp 25) rfl (g + 1 + 1) OUT rfl rfl 80 z4 h0 iO nO oO ?_))
      (try simp only [Exit.inBlock, Exit.then])
      refine bodyPost_ret (results_ct rfl _ _ (g + 1 + 1) _ OUT _ _ (.bool ((cc : Int) == 1)) rfl rfl (setRow_heap _ _ _ _ _ _ h0) Try.underlying80 rfl iO) rfl ?_
      exact ⟨by rw [hd.out], HB.out⟩
end Go.Proofs.Ytfejabfmhddepaa

namespace Go.Proofs.Ytfejabfmhddepaa
open Go.RowKit
set_option linter.unusedVariables false
set_option maxRecDepth 100000
theorem or_high (p z k : Nat) (hp : p < 2 ^ k) (hp2 : p < 18446744073709551616) (hm : 2 ^ k * z < 18446744073709551616) : bits .or .u64 ((2 ^ k * z : Nat) : Int) (p : Int) = ((p + 2 ^ k * z : Nat) : Int) := by
  rw [u64_or_nat (2 ^ k * z) p hm hp2, ← Nat.two_pow_add_eq_or_of_lt hp, Nat.add_comm]
theorem and60 (n : Nat) (h : n < 18446744073709551616) : bits .and .u64 (n : Int) 1152921504606846975 = ((n % 1152921504606846976 : Nat) : Int) := by
  have h := u64_and_nat n 1152921504606846975 h (by omega)
  rw [show (1152921504606846975 : Nat) = 2 ^ 60 - 1 by decide, Nat.and_two_pow_sub_one_eq_mod] at h
  exact h
theorem wd4_zeroL (u : World) : (zeroValue 80).run Try.prog u = .ok (.agg #[.int .u64 0, .int .u64 0, .int .u64 0, .int .u64 0]) u := wd4_zero u
theorem sc_order_row : #[Value.int .u64 6346243789798364141, .int .u64 1503914060200516822, .int .u64 0, .int .u64 1152921504606846976] = wdW 4 LL :=
  four_row 6346243789798364141 1503914060200516822 0 1152921504606846976 LL (by decide) (by decide) (by decide) (by decide) (by decide)
set_option maxHeartbeats 1600000 in
theorem scorder_any (w : World) : Calls Try.prog 60 #[] w (RetV w (.agg (wdW 4 LL))) := by
  have hz4 := wd4_zeroL
  rw [← sc_order_row]
  go_enter Try.func60, Try.ntmps60
  go_wp2
  refine bodyPost_ret (v := .agg #[.int .u64 6346243789798364141, .int .u64 1503914060200516822, .int .u64 0, .int .u64 1152921504606846976]) (by simp [results, Try.results60, go_sem]) rfl ⟨rfl, ?_⟩
  exact (Below.refl _ _).alloc (Nat.le_refl _) _
set_option maxHeartbeats 3200000 in
theorem screst_any (q : Nat) (hq : q < 68719476736) (w : World) : Calls Try.prog 95 #[.int .u64 (q : Int)] w (RetV w (.agg (wdW 4 (q * R11)))) := by
  have hz4 := wd4_zeroL
  obtain ⟨u, l, M0, m0, p0, q0⟩ := mul_ex q 6346243789798364141 (by omega) (by omega)
  obtain ⟨t, v, M1, m1, p1, q1⟩ := mul_ex q 1503914060200516822 (by omega) (by omega)
  obtain ⟨z, d, s, e, lz⟩ := add_ex v u 0 (by omega)
  have hf : IntKind.u64.wrap ((t : Int) + (d : Int)) = ((t + d : Nat) : Int) := by rw [IntKind.wrap_u64]; omega
  have hrow := four_row l z (t + d) 0 (q * R11) (by unfold Q64; omega) (by unfold Q64; omega) (by unfold Q64; omega) (by decide) (by unfold Q64 R11; omega)
  rw [← hrow]
  have HM0 : Hid (∀ w : World, Calls Try.prog 90 #[.int .u64 (q : Int), .int .u64 6346243789798364141] w fun e w' => e = .returned (.tuple #[.int .u64 (u : Int), .int .u64 (l : Int)]) ∧ w' = w) := M0
  have HM1 : Hid (∀ w : World, Calls Try.prog 90 #[.int .u64 (q : Int), .int .u64 1503914060200516822] w fun e w' => e = .returned (.tuple #[.int .u64 (t : Int), .int .u64 (v : Int)]) ∧ w' = w) := M1
  simp only [Int.ofNat_zero] at s
  generalize t + d = td at *
  clear m0 m1 e lz M0 M1 hrow hq p0 q0 p1 q1
  go_enter Try.func95, Try.ntmps95
  go_wp2_with fail
  with_reducible refine (HM0.out _).mono ?_
  rintro e w' ⟨rfl, rfl⟩
  go_wp2_with fail
  with_reducible refine (HM1.out _).mono ?_
  rintro e w' ⟨rfl, rfl⟩
  go_wp2
  refine bodyPost_ret (v := .agg #[.int .u64 (l : Int), .int .u64 (z : Int), .int .u64 (td : Int), .int .u64 0]) (by simp [results, Try.results95, go_sem]) rfl ⟨rfl, ?_⟩
  exact (Below.refl _ _).alloc (Nat.le_refl _) _
set_option maxHeartbeats 6400000 in
theorem scnext_any (n v : Nat) (hn : n < LL) (hv : v < 4294967296) (w : World) : Calls Try.prog 84 #[.agg (wdW 4 n), .int .u32 (v : Int)] w (RetV w (.agg (wdW 4 ((n * 2 ^ 32 + v) % LL)))) := by
  have hz4 := wd4_zeroL
  obtain ⟨Sn, qn, On, i1, i2, i3, i4, hOl, hO, e1, e2⟩ := next_ex hn hv
  rw [hO]
  have iO := wd4_info On
  have oO := wdW_one 4 On
  have sO : (#[.int .u64 0, .int .u64 0, .int .u64 0, .int .u64 0] : Array Value).size = (wdW 4 On).size := by rw [wdW_size]; rfl
  rw [wdW_four n]
  have h0 := wq_lt n 0
  have h1 := wq_lt n 1
  have h2 := wq_lt n 2
  have h3 := wq_lt n 3
  generalize wq n 0 = n0 at *
  generalize wq n 1 = n1 at *
  generalize wq n 2 = n2 at *
  generalize wq n 3 = n3 at *
  unfold Q64 at h0 h1 h2 h3
  have HREST := Lib.hid fun W : World => screst_any (n3 / 268435456) (by omega) W
  have HMIN : Hid (∀ W : World, Calls Try.prog 94 #[.agg (wdW 4 Sn), .agg (wdW 4 (n3 / 268435456 * R11))] W (RetV W (.tuple #[.agg (wdW 4 ((Sn + (Q4 - n3 / 268435456 * R11)) % Q4)), .bool (decide (Sn < n3 / 268435456 * R11))]))) := Lib.hid fun W => scminus_any _ _ (Nat.lt_trans i2 (by decide)) (by rw [e2]; exact Nat.lt_trans i1 (by decide)) W
  have HPLUS : Hid (∀ W : World, Sn < qn * R11 → Calls Try.prog 96 #[.agg (wdW 4 ((Sn + (Q4 - qn * R11)) % Q4)), .agg (wdW 4 LL)] W (RetV W (.agg (wdW 4 On)))) := Lib.hid fun W h => by
    have hm : (Sn + (Q4 - qn * R11)) % Q4 < Q4 := Nat.mod_lt _ (by decide)
    have e := min_less i2 i1 h (i3 h) hOl
    have := scplus_any ((Sn + (Q4 - qn * R11)) % Q4) LL hm (by decide) W
    rwa [e] at this
  have HELSE : Hid (¬ Sn < qn * R11 → wdW 4 ((Sn + (Q4 - qn * R11)) % Q4) = wdW 4 On) := Lib.hid fun h => by
    rw [min_else i2 i1 h (i4 h)]
  have HORD := Lib.hid fun W : World => scorder_any W
  rw [e2] at HREST HMIN
  obtain ⟨dd, hdd⟩ : ∃ d, wdW 4 ((Sn + (Q4 - qn * R11)) % Q4) = d := ⟨_, rfl⟩
  have iD : (Try.prog.info? 80).map (·.size) = some dd.size := by rw [← hdd]; exact wd4_info _
  have sD : (#[.int .u64 0, .int .u64 0, .int .u64 0, .int .u64 0] : Array Value).size = dd.size := by rw [← hdd, wdW_size]; rfl
  have oD : dd.all (·.oneCell') = true := by rw [← hdd]; exact wdW_one _ _
  have sDO : dd.size = (wdW 4 On).size := by rw [← hdd, wdW_size, wdW_size]
  rw [hdd] at HMIN HPLUS HELSE
  have hrow := four_row (v + 2 ^ 32 * (n0 % 4294967296)) (n0 / 4294967296 + 2 ^ 32 * (n1 % 4294967296)) (n1 / 4294967296 + 2 ^ 32 * (n2 % 4294967296)) (n2 / 4294967296 + 2 ^ 32 * (n3 % 268435456)) Sn (by unfold Q64; omega) (by unfold Q64; omega) (by unfold Q64; omega) (by unfold Q64; omega) e1
  have a3 := and60 (2 ^ 32 * (n3 % 4294967296)) (by omega)
  rw [show 2 ^ 32 * (n3 % 4294967296) % 1152921504606846976 = 2 ^ 32 * (n3 % 268435456) by omega] at a3
  have r0 := or_high v (n0 % 4294967296) 32 (by omega) (by omega) (by omega)
  have r1 := or_high (n0 / 4294967296) (n1 % 4294967296) 32 (by omega) (by omega) (by omega)
  have r2 := or_high (n1 / 4294967296) (n2 % 4294967296) 32 (by omega) (by omega) (by omega)
  have r3 := or_high (n2 / 4294967296) (n3 % 268435456) 32 (by omega) (by omega) (by omega)
  have d0 : (n0 : Int) / 4294967296 = ((n0 / 4294967296 : Nat) : Int) := by omega
  have d1 : (n1 : Int) / 4294967296 = ((n1 / 4294967296 : Nat) : Int) := by omega
  have d2 : (n2 : Int) / 4294967296 = ((n2 / 4294967296 : Nat) : Int) := by omega
  have d3 : (n3 : Int) / 268435456 = (qn : Int) := by omega
  have m0 : IntKind.u64.wrap ((n0 : Int) * 4294967296) = ((2 ^ 32 * (n0 % 4294967296) : Nat) : Int) := by rw [IntKind.wrap_u64]; omega
  have m1 : IntKind.u64.wrap ((n1 : Int) * 4294967296) = ((2 ^ 32 * (n1 % 4294967296) : Nat) : Int) := by rw [IntKind.wrap_u64]; omega
  have m2 : IntKind.u64.wrap ((n2 : Int) * 4294967296) = ((2 ^ 32 * (n2 % 4294967296) : Nat) : Int) := by rw [IntKind.wrap_u64]; omega
  have m3 : IntKind.u64.wrap ((n3 : Int) * 4294967296) = ((2 ^ 32 * (n3 % 4294967296) : Nat) : Int) := by rw [IntKind.wrap_u64]; omega
  have v0 : IntKind.u64.wrap (v : Int) = (v : Int) := by rw [IntKind.wrap_u64]; omega
  clear e1 e2 i1 i2 i3 i4 hO hOl
  generalize v + 2 ^ 32 * (n0 % 4294967296) = o0 at *
  generalize n0 / 4294967296 + 2 ^ 32 * (n1 % 4294967296) = o1 at *
  generalize n1 / 4294967296 + 2 ^ 32 * (n2 % 4294967296) = o2 at *
  generalize n2 / 4294967296 + 2 ^ 32 * (n3 % 268435456) = o3 at *
  generalize 2 ^ 32 * (n0 % 4294967296) = s0 at *
  generalize 2 ^ 32 * (n1 % 4294967296) = s1 at *
  generalize 2 ^ 32 * (n2 % 4294967296) = s2 at *
  generalize 2 ^ 32 * (n3 % 4294967296) = s3 at *
  generalize 2 ^ 32 * (n3 % 268435456) = s4 at *
  generalize n0 / 4294967296 = y0 at *
  generalize n1 / 4294967296 = y1 at *
  generalize n2 / 4294967296 = y2 at *
  have iS : (Try.prog.info? 80).map (·.size) = some (#[.int .u64 (o0 : Int), .int .u64 (o1 : Int), .int .u64 (o2 : Int), .int .u64 (o3 : Int)] : Array Value).size := by kernel_rfl
  have sS : (#[.int .u64 0, .int .u64 0, .int .u64 0, .int .u64 0] : Array Value).size = (#[.int .u64 (o0 : Int), .int .u64 (o1 : Int), .int .u64 (o2 : Int), .int .u64 (o3 : Int)] : Array Value).size := rfl
  have oS : (#[.int .u64 (o0 : Int), .int .u64 (o1 : Int), .int .u64 (o2 : Int), .int .u64 (o3 : Int)] : Array Value).all (·.oneCell') = true := by simp [Value.oneCell']
  have iSW := wd4_info Sn
  generalize wdW 4 Sn = SW at *
  generalize wdW 4 On = OUT at *
  obtain ⟨bb, hbb⟩ : ∃ b, decide (Sn < qn * R11) = b := ⟨_, rfl⟩
  rw [hbb] at HMIN
  have HBB := Lib.hid hbb
  have HROW := Lib.hid hrow
  have KiD := Lib.hid iD
  have KsD := Lib.hid sD
  have KoD := Lib.hid oD
  have KsDO := Lib.hid sDO
  have KiO := Lib.hid iO
  have KsO := Lib.hid sO
  have KoO := Lib.hid oO
  clear h0 h1 h2 h3 hbb hrow hdd hn hv iD sD oD sDO iO sO oO
  have hr0 : RowsW (((w.alloc (.cells #[.int .u64 (n0 : Int), .int .u64 (n1 : Int), .int .u64 (n2 : Int), .int .u64 (n3 : Int)] 80)).alloc (.cells #[.int .u64 0, .int .u64 0, .int .u64 0, .int .u64 0] 80)).alloc (.cells #[.int .u64 0, .int .u64 0, .int .u64 0, .int .u64 0] 80)) [(w.heap.size + 1 + 1, #[.int .u64 0, .int .u64 0, .int .u64 0, .int .u64 0], 80), (w.heap.size + 1, #[.int .u64 0, .int .u64 0, .int .u64 0, .int .u64 0], 80), (w.heap.size, #[.int .u64 (n0 : Int), .int .u64 (n1 : Int), .int .u64 (n2 : Int), .int .u64 (n3 : Int)], 80)] := by
    have h := (((RowsW.nil w).box #[.int .u64 (n0 : Int), .int .u64 (n1 : Int), .int .u64 (n2 : Int), .int .u64 (n3 : Int)] 80).box #[.int .u64 0, .int .u64 0, .int .u64 0, .int .u64 0] 80).box #[.int .u64 0, .int .u64 0, .int .u64 0, .int .u64 0] 80
    (try simp only [World.size_alloc] at h)
    exact h
  have hb0 : Below w.heap.size w (((w.alloc (.cells #[.int .u64 (n0 : Int), .int .u64 (n1 : Int), .int .u64 (n2 : Int), .int .u64 (n3 : Int)] 80)).alloc (.cells #[.int .u64 0, .int .u64 0, .int .u64 0, .int .u64 0] 80)).alloc (.cells #[.int .u64 0, .int .u64 0, .int .u64 0, .int .u64 0] 80)) := below_alloc (below_alloc (below_alloc (Below.refl _ _) _) _) _
  have HR0 := Lib.hid hr0
  have HB0 := Lib.hid hb0
  clear hr0 hb0
  have h3 := HR0.out.head
  go_enter Try.func84, Try.ntmps84
  go_upto_region 3 with (refine wpList_store_row rfl 80 (.tmp 6) (.tmp 40) rfl (w.heap.size + 1 + 1) #[.int .u64 (o0 : Int), .int .u64 (o1 : Int), .int .u64 (o2 : Int), .int .u64 (o3 : Int)] rfl rfl 80 #[.int .u64 0, .int .u64 0, .int .u64 0, .int .u64 0] h3 iS sS oS ?_)
  rw [HROW.out]
  have HR1 : Hid (RowsW ((((w.alloc (.cells #[.int .u64 (n0 : Int), .int .u64 (n1 : Int), .int .u64 (n2 : Int), .int .u64 (n3 : Int)] 80)).alloc (.cells #[.int .u64 0, .int .u64 0, .int .u64 0, .int .u64 0] 80)).alloc (.cells #[.int .u64 0, .int .u64 0, .int .u64 0, .int .u64 0] 80)).setRow (w.heap.size + 1 + 1) SW) [(w.heap.size + 1 + 1, SW, 80), (w.heap.size + 1, #[.int .u64 0, .int .u64 0, .int .u64 0, .int .u64 0], 80)]) := Lib.hid ⟨setRow_heap _ _ _ _ _ _ h3, by rw [setRow_other _ _ _ _ (by omega)]; exact HR0.out.tail.head, trivial⟩
  have HB1 : Hid (Below w.heap.size w ((((w.alloc (.cells #[.int .u64 (n0 : Int), .int .u64 (n1 : Int), .int .u64 (n2 : Int), .int .u64 (n3 : Int)] 80)).alloc (.cells #[.int .u64 0, .int .u64 0, .int .u64 0, .int .u64 0] 80)).alloc (.cells #[.int .u64 0, .int .u64 0, .int .u64 0, .int .u64 0] 80)).setRow (w.heap.size + 1 + 1) SW)) := Lib.hid (below_row HB0.out (by omega))
  obtain ⟨W1, hW1⟩ : ∃ W, (((w.alloc (.cells #[.int .u64 (n0 : Int), .int .u64 (n1 : Int), .int .u64 (n2 : Int), .int .u64 (n3 : Int)] 80)).alloc (.cells #[.int .u64 0, .int .u64 0, .int .u64 0, .int .u64 0] 80)).alloc (.cells #[.int .u64 0, .int .u64 0, .int .u64 0, .int .u64 0] 80)).setRow (w.heap.size + 1 + 1) SW = W := ⟨_, rfl⟩
  rw [hW1] at HR1 HB1
  rw [hW1]
  obtain ⟨g, hg⟩ : ∃ g, w.heap.size = g := ⟨_, rfl⟩
  rw [hg] at HR1
  rw [hg]
  have HG := Lib.hid hg
  clear hg hW1 h3 HR0 HB0 r0 r1 r2 r3 d0 d1 d2 d3 m0 m1 m2 m3 a3 v0 HROW iS sS oS
  refine wp_region_noPanic ?_
  refine wp_region_heldB 7 7 80 #[.int .u64 0, .int .u64 0, .int .u64 0, .int .u64 0] (by kernel_rfl) (by kernel_rfl) ⟨by kernel_rfl, by kernel_rfl, wd4_zeroL, fun _ _ _ h => h⟩ (fun hA hS => ?_)
  refine' take_atB 0 hA rfl (by kernel_rfl) (by kernel_rfl) (by kernel_rfl) (by kernel_rfl) (by kernel_rfl) (by rfl) (by rfl) hS ?_ ?_ ?_
  rotate_left 2
  · intro W hSW; exact run_loadR rfl rfl ((HR1.out.below hSW).head) Try.underlying80 rfl iSW
  · simp only [List.set_cons_succ, List.set_cons_zero]; rfl
  refine' take_atB 1 hA rfl (by kernel_rfl) (by kernel_rfl) (by kernel_rfl) (by kernel_rfl) (by kernel_rfl) (by rfl) (by rfl) hS ?_ ?_ ?_
  rotate_left 2
  · intro W hSW; go_simp; try with_reducible rfl
  · simp only [List.set_cons_succ, List.set_cons_zero]; rfl
  refine call_atB 2 hA rfl (by kernel_rfl) (by kernel_rfl) (by kernel_rfl) (by kernel_rfl) (by rfl) (by rfl) hS (fun oq Wq hS K hK => ?_)
  go_simp
  with_reducible refine (HREST.out Wq).mono ?_
  rintro e uq ⟨rfl, hbq⟩
  refine hK.out _ _ hbq (fun hS => ?_)
  clear hK K hbq
  refine call_atB 3 hA rfl (by kernel_rfl) (by kernel_rfl) (by kernel_rfl) (by kernel_rfl) (by rfl) (by rfl) hS (fun oq Wq hS K hK => ?_)
  go_simp
  with_reducible refine (HMIN.out Wq).mono ?_
  rintro e uq ⟨rfl, hbq⟩
  refine hK.out _ _ hbq (fun hS => ?_)
  clear hK K hbq
  refine' take_atB 4 hA rfl (by kernel_rfl) (by kernel_rfl) (by kernel_rfl) (by kernel_rfl) (by kernel_rfl) (by rfl) (by rfl) hS ?_ ?_ ?_
  rotate_left 2
  · intro W hSW; go_simp; try with_reducible rfl
  · simp only [List.set_cons_succ, List.set_cons_zero]; rfl
  refine' take_atB 5 hA rfl (by kernel_rfl) (by kernel_rfl) (by kernel_rfl) (by kernel_rfl) (by kernel_rfl) (by rfl) (by rfl) hS ?_ ?_ ?_
  rotate_left 2
  · intro W hSW; go_simp; try with_reducible rfl
  · simp only [List.set_cons_succ, List.set_cons_zero]; rfl
  refine' take_atB 6 hA rfl (by kernel_rfl) (by kernel_rfl) (by kernel_rfl) (by kernel_rfl) (by kernel_rfl) (by rfl) (by rfl) hS ?_ ?_ ?_
  rotate_left 2
  · intro W hSW; go_simp; try with_reducible rfl
  · simp only [List.set_cons_succ, List.set_cons_zero]; rfl
  refine' store_atB 8 hA rfl (by kernel_rfl) (by kernel_rfl) (by kernel_rfl) hS (by kernel_rfl) rfl (by intro h; cases h) KiD.out KsD.out KoD.out ?_ ?_
  rotate_left 1
  · intro g; simp only [List.set_cons_succ, List.set_cons_zero]; rfl
  intro gq Wq hgq hbq hrowq
  clear hA hS
  refine' take_at 9 rfl (by kernel_rfl) (by kernel_rfl) (by kernel_rfl) (fun _ _ _ h => h) (by rfl) hbq ?_ ?_ ?_
  rotate_left 2
  · intro W hSW; go_simp; try with_reducible rfl
  · simp only [List.set_cons_succ, List.set_cons_zero]; rfl
  refine wpAnyH_done (by kernel_rfl) ?_ _
  refine NoPanic.normal ?_
  (try simp only [Act.put])
  have HRq : Hid (RowsW Wq [(gq, dd, 80), (g + 1 + 1, SW, 80), (g + 1, #[.int .u64 0, .int .u64 0, .int .u64 0, .int .u64 0], 80)]) := Lib.hid ⟨hrowq, HR1.out.below hbq⟩
  have HBq := Lib.hid (below_next HB1.out hbq)
  have HGQ : Hid (W1.heap.size ≤ gq) := Lib.hid hgq
  have HGS : Hid (g + 1 + 1 < W1.heap.size) := Lib.hid (Array.getElem?_eq_some_iff.1 HR1.out.head).1
  clear hgq hbq hrowq HREST HMIN HR1 HB1
  have hgg : w.heap.size ≤ gq := by rw [HG.out]; have := HGQ.out; have := HGS.out; omega
  have hgn : gq ≠ g + 1 := by have := HGQ.out; have := HGS.out; omega
  have HGG := Lib.hid hgg
  have HGN := Lib.hid hgn
  clear hgg hgn
  by_cases hlt : Sn < qn * R11
  · have e0 : bb = true := by rw [← HBB.out]; exact decide_eq_true hlt
    subst e0
    have HP := Lib.hid fun W : World => HPLUS.out W hlt
    clear hlt HPLUS HELSE HBB
    go_upto_region 5 with fail
    refine wp_region_noPanic ?_
    refine wp_region_held_tail (S := fun W => Below Wq.heap.size Wq W) 2 (by kernel_rfl) ⟨by kernel_rfl, by kernel_rfl, by kernel_rfl, by kernel_rfl⟩ (by exact (Below.refl _ _).drew) (fun hT inv hS => ?_)
    refine' take_atT 0 hT inv rfl (by omega) (by kernel_rfl) (by kernel_rfl) (fun _ _ _ h => h) (by rfl) hS ?_ ?_ ?_
    rotate_left 2
    · intro W hSW; exact run_loadR rfl rfl ((HRq.out.below hSW).head) Try.underlying80 rfl KiD.out
    · simp only [List.set_cons_succ, List.set_cons_zero]; rfl
    intro inv
    refine call_atT 1 inv rfl (by omega) (by kernel_rfl) (by rfl) (fun K hK => ?_)
    go_simp
    with_reducible refine (HORD.out _).mono ?_
    rintro e u1 ⟨rfl, hb1⟩
    have kb1 := below_next hS hb1
    clear hS hb1
    refine hK.out _ _ (by exact kb1) (fun inv hS => ?_)
    clear hK K
    refine done_atT (by kernel_rfl) ?_
    simp only [List.drop_succ_cons, List.drop_zero]
    clear hS
    (try simp only [Act.put])
    have HR2 := Lib.hid (HRq.out.below kb1)
    have HB2 := Lib.hid (below_next HBq.out kb1)
    clear kb1
    go_wp2_with fail
    with_reducible refine (HP.out _).mono ?_
    rintro e w2 ⟨rfl, hb2⟩
    have HR3 := Lib.hid (HR2.out.below hb2)
    have HB3 := Lib.hid (below_next HB2.out hb2)
    clear hb2 HR2 HB2
    have hr3 := HR3.out.head
    go_wp2_with (refine wpList_store_row rfl 80 (.tmp 7) (.tmp 51) rfl gq OUT rfl rfl 80 dd hr3 KiO.out KsDO.out KoO.out ?_)
    have HR4 : Hid (RowsW (w2.setRow gq OUT) [(gq, OUT, 80), (g + 1, #[.int .u64 0, .int .u64 0, .int .u64 0, .int .u64 0], 80)]) := Lib.hid ⟨setRow_heap _ _ _ _ _ _ hr3, by rw [setRow_other _ _ _ _ (Ne.symm HGN.out)]; exact HR3.out.tail.tail.head, trivial⟩
    have HB4 : Hid (Below w.heap.size w (w2.setRow gq OUT)) := Lib.hid (below_row HB3.out HGG.out)
    obtain ⟨W4, hW4⟩ : ∃ W, w2.setRow gq OUT = W := ⟨_, rfl⟩
    rw [hW4] at HR4 HB4
    rw [hW4]
    clear hW4 hr3 HR3 HB3
    (try refine NoPanic.normal ?_)
    have h4 := HR4.out.head
    have h5 := HR4.out.tail.head
    have HE : Hid (Below w.heap.size w (W4.setRow (g + 1) OUT)) := Lib.hid (below_row HB4.out (by rw [HG.out]; omega))
    go_wp2_with (first
      | (refine wpList_load_row rfl 80 (.tmp 7) rfl gq rfl 80 OUT (0, 0) _ h4 Try.underlying80 rfl KiO.out ?_)
      | (refine wpList_store_row rfl 80 (.tmp 4) (.tmp 52) rfl (g + 1) OUT rfl rfl 80 #[.int .u64 0, .int .u64 0, .int .u64 0, .int .u64 0] h5 KiO.out KsO.out KoO.out ?_))
    (try simp only [Exit.inBlock, Exit.then])
    refine bodyPost_ret (results_cell_row rfl _ _ (g + 1) _ OUT _ _ rfl (setRow_heap _ _ _ _ _ _ h5) Try.underlying80 rfl KiO.out) rfl ?_
    exact ⟨rfl, HE.out⟩
  · have e0 : bb = false := by rw [← HBB.out]; exact decide_eq_false hlt
    subst e0
    have hde := HELSE.out hlt
    subst hde
    clear hlt HPLUS HELSE HBB
    have h4 := HRq.out.head
    have h5 := HRq.out.tail.tail.head
    have HE : Hid (Below w.heap.size w (Wq.setRow (g + 1) dd)) := Lib.hid (below_row HBq.out (by rw [HG.out]; omega))
    go_wp2_with (first
      | (refine wpList_load_row rfl 80 (.tmp 7) rfl gq rfl 80 dd (0, 0) _ h4 Try.underlying80 rfl KiO.out ?_)
      | (refine wpList_store_row rfl 80 (.tmp 4) (.tmp 52) rfl (g + 1) dd rfl rfl 80 #[.int .u64 0, .int .u64 0, .int .u64 0, .int .u64 0] h5 KiO.out KsO.out KoO.out ?_))
    (try simp only [Exit.inBlock, Exit.then])
    refine bodyPost_ret (results_cell_row rfl _ _ (g + 1) _ dd _ _ rfl (setRow_heap _ _ _ _ _ _ h5) Try.underlying80 rfl KiO.out) rfl ?_
    exact ⟨rfl, HE.out⟩
set_option maxHeartbeats 6400000 in
theorem screduced_any (n : Nat) (hn : n < Q64 ^ 8) (w : World) : Calls Try.prog 64 #[.agg (wdW 8 n)] w (RetV w (.agg (wdW 4 (n % LL)))) := by
  have hz4 := wd4_zero
  have HN8 : Hid (∀ d, d < 8 → (wdW 8 n)[d]? = some (.int .u64 (wq n d : Int))) := Lib.hid fun d h => wdW_get 8 n d h
  have HZ0 : Hid (wdW 4 0 = wdW 4 (n / Q64 ^ 8 % LL)) := Lib.hid (by rw [Nat.div_eq_of_lt hn]; rfl)
  have HE0 : Hid (wdW 4 (n / Q64 ^ 0 % LL) = wdW 4 (n % LL)) := Lib.hid (by rw [Nat.pow_zero, Nat.div_one])
  have iO := wd4_info (n % LL)
  have oO := wdW_one 4 (n % LL)
  have sO : (wdW 4 0).size = (wdW 4 (n % LL)).size := by rw [wdW_size, wdW_size]
  generalize wdW 4 (n % LL) = OUT at *
  generalize wdW 8 n = N8 at *
  generalize wdW 4 0 = z4 at *
  clear hn
  have hr0 : RowsW (((w.alloc (.cells N8 83)).alloc (.cells z4 80)).alloc (.cells z4 80)) [(w.heap.size + 1 + 1, z4, 80), (w.heap.size + 1, z4, 80), (w.heap.size, N8, 83)] := by
    have h := (((RowsW.nil w).box N8 83).box z4 80).box z4 80
    (try simp only [World.size_alloc] at h)
    exact h
  have hb0 : Below w.heap.size w (((w.alloc (.cells N8 83)).alloc (.cells z4 80)).alloc (.cells z4 80)) := below_alloc (below_alloc (below_alloc (Below.refl _ _) _) _) _
  have HR0 := Lib.hid hr0
  have HB0 := Lib.hid hb0
  clear hr0 hb0
  go_enter Try.func64, Try.ntmps64
  go_wp2_with fail
  obtain ⟨W1, hW1⟩ : ∃ W, (((w.alloc (.cells N8 83)).alloc (.cells z4 80)).alloc (.cells z4 80)) = W := ⟨_, rfl⟩
  rw [hW1] at HR0 HB0
  rw [hW1]
  obtain ⟨g, hg⟩ : ∃ g, w.heap.size = g := ⟨_, rfl⟩
  rw [hg] at HR0
  rw [hg]
  have HG := Lib.hid hg
  clear hg
  clear hW1
  have HI : Hid (Lp w W1 (g + 1 + 1) (wdW 4 (n / Q64 ^ 8 % LL)) 80 [(g + 1, z4, 80), (g, N8, 83)]) := Lib.hid ⟨by rw [← HZ0.out]; exact HR0.out, by rw [HG.out]; omega, by simp; omega, HB0.out⟩
  clear HR0 HB0 HZ0
  go_loopw [4] (fun i_ wr => ∃ k : Nat, k ≤ 8 ∧ i_ = .int .i64 ((k : Int) - 1) ∧ Hid (Lp w wr (g + 1 + 1) (wdW 4 (n / Q64 ^ k % LL)) 80 [(g + 1, z4, 80), (g, N8, 83)])) (fun i_ _ => (intOf i_ + 1).toNat)
  case atStart => exact ⟨8, by omega, by rfl, HI⟩
  case round =>
    clear HI
    obtain ⟨k, hk, rfl, HI⟩ := hrel
    by_cases hlt : 0 < k
    · obtain ⟨j, rfl⟩ : ∃ j, k = j + 1 := ⟨k - 1, by omega⟩
      have ej : ((j + 1 : Nat) : Int) - 1 = (j : Int) := by omega
      rw [ej]
      have hw := wq_lt n j
      have HNX := Lib.hid (round_is n j)
      have hA : n / Q64 ^ (j + 1) % LL < LL := Nat.mod_lt _ (by decide)
      unfold Q64 at hw
      generalize hx : wq n j = x at *
      have w1 : IntKind.u32.wrap ((x : Int) / 4294967296) = ((x / 4294967296 : Nat) : Int) := by rw [IntKind.wrap_u32]; omega
      have w2 : (x : Int) % 4294967296 = ((x % 4294967296 : Nat) : Int) := by omega
      have HN1 : Hid (∀ W : World, Calls Try.prog 84 #[.agg (wdW 4 (n / Q64 ^ (j + 1) % LL)), .int .u32 (IntKind.u32.wrap ((x : Int) / 4294967296))] W (RetV W (.agg (wdW 4 ((n / Q64 ^ (j + 1) % LL * 2 ^ 32 + x / 4294967296) % LL))))) := Lib.hid fun W => by rw [w1]; exact scnext_any _ _ hA (by omega) W
      have HN2 : Hid (∀ W : World, Calls Try.prog 84 #[.agg (wdW 4 ((n / Q64 ^ (j + 1) % LL * 2 ^ 32 + x / 4294967296) % LL)), .int .u32 ((x : Int) % 4294967296)] W (RetV W (.agg (wdW 4 (n / Q64 ^ j % LL))))) := Lib.hid fun W => by
        rw [w2]
        have := scnext_any ((n / Q64 ^ (j + 1) % LL * 2 ^ 32 + x / 4294967296) % LL) (x % 4294967296) (Nat.mod_lt _ (by decide)) (by omega) W
        rw [HNX.out] at this
        exact this
      have HX : Hid (∀ W : World, Below wr.heap.size wr W → W.cell? ⟨g, j, none⟩ = some (.int .u64 (x : Int))) := Lib.hid fun W hb => by
        have h := (HI.out.rows.below hb).tail.tail.head
        rw [cell_of_row _ _ _ _ _ _ h, HN8.out _ (by omega), hx]
      have iA := wd4_info (n / Q64 ^ (j + 1) % LL)
      have iB := wd4_info (n / Q64 ^ j % LL)
      have oB := wdW_one 4 (n / Q64 ^ j % LL)
      have sB : (wdW 4 (n / Q64 ^ (j + 1) % LL)).size = (wdW 4 (n / Q64 ^ j % LL)).size := by rw [wdW_size, wdW_size]
      generalize wdW 4 (n / Q64 ^ (j + 1) % LL) = NA at *
      generalize wdW 4 ((n / Q64 ^ (j + 1) % LL * 2 ^ 32 + x / 4294967296) % LL) = NM at *
      obtain ⟨NB, hNB⟩ : ∃ c, wdW 4 (n / Q64 ^ j % LL) = c := ⟨_, rfl⟩
      rw [hNB] at HN2 iB oB sB
      have HNB := Lib.hid hNB
      have b1 : 0 ≤ (j : Int) := by omega
      have b2 : (j : Int) < 8 := by omega
      have HK := Lib.hid hk
      clear hx hw w1 w2 hA hNB ej hk hlt HNX
      go_upto_region 5 with fail
      refine wp_region_noPanic ?_
      refine wp_region_held_tail (S := fun W => Below wr.heap.size wr W) 11 (by kernel_rfl) ⟨by kernel_rfl, by kernel_rfl, by kernel_rfl, by kernel_rfl⟩ (by exact (Below.refl _ _).drew) (fun hT inv hS => ?_)
      refine' take_atT 0 hT inv rfl (by omega) (by kernel_rfl) (by kernel_rfl) (fun _ _ _ h => h) (by rfl) hS ?_ ?_ ?_
      rotate_left 2
      · intro W hSW; exact run_loadR rfl rfl ((HI.out.rows.below hSW).head) Try.underlying80 rfl iA
      · simp only [List.set_cons_succ, List.set_cons_zero]; rfl
      intro inv
      refine' take_atT 1 hT inv rfl (by omega) (by kernel_rfl) (by kernel_rfl) (fun _ _ _ h => h) (by rfl) hS ?_ ?_ ?_
      rotate_left 2
      · intro W hSW; go_simp; try with_reducible rfl
      · simp only [List.set_cons_succ, List.set_cons_zero]; rfl
      intro inv
      refine' take_atT 2 hT inv rfl (by omega) (by kernel_rfl) (by kernel_rfl) (fun _ _ _ h => h) (by rfl) hS ?_ ?_ ?_
      rotate_left 2
      · intro W hSW; go_simp; try with_reducible rfl
      · simp only [List.set_cons_succ, List.set_cons_zero]; rfl
      intro inv
      refine' take_atT 3 hT inv rfl (by omega) (by kernel_rfl) (by kernel_rfl) (fun _ _ _ h => h) (by rfl) hS ?_ ?_ ?_
      rotate_left 2
      · intro W hSW; have hc := HX.out W hSW; go_simp; try with_reducible rfl
      · simp only [List.set_cons_succ, List.set_cons_zero]; rfl
      intro inv
      refine' take_atT 4 hT inv rfl (by omega) (by kernel_rfl) (by kernel_rfl) (fun _ _ _ h => h) (by rfl) hS ?_ ?_ ?_
      rotate_left 2
      · intro W hSW; go_simp; try with_reducible rfl
      · simp only [List.set_cons_succ, List.set_cons_zero]; rfl
      intro inv
      refine' take_atT 5 hT inv rfl (by omega) (by kernel_rfl) (by kernel_rfl) (fun _ _ _ h => h) (by rfl) hS ?_ ?_ ?_
      rotate_left 2
      · intro W hSW; go_simp; try with_reducible rfl
      · simp only [List.set_cons_succ, List.set_cons_zero]; rfl
      intro inv
      refine' take_atT 7 hT inv rfl (by omega) (by kernel_rfl) (by kernel_rfl) (fun _ _ _ h => h) (by rfl) hS ?_ ?_ ?_
      rotate_left 2
      · intro W hSW; go_simp; try with_reducible rfl
      · simp only [List.set_cons_succ, List.set_cons_zero]; rfl
      intro inv
      refine' take_atT 8 hT inv rfl (by omega) (by kernel_rfl) (by kernel_rfl) (fun _ _ _ h => h) (by rfl) hS ?_ ?_ ?_
      rotate_left 2
      · intro W hSW; go_simp; try with_reducible rfl
      · simp only [List.set_cons_succ, List.set_cons_zero]; rfl
      intro inv
      refine' take_atT 9 hT inv rfl (by omega) (by kernel_rfl) (by kernel_rfl) (fun _ _ _ h => h) (by rfl) hS ?_ ?_ ?_
      rotate_left 2
      · intro W hSW; have hc := HX.out W hSW; go_simp; try with_reducible rfl
      · simp only [List.set_cons_succ, List.set_cons_zero]; rfl
      intro inv
      refine' take_atT 10 hT inv rfl (by omega) (by kernel_rfl) (by kernel_rfl) (fun _ _ _ h => h) (by rfl) hS ?_ ?_ ?_
      rotate_left 2
      · intro W hSW; go_simp; try with_reducible rfl
      · simp only [List.set_cons_succ, List.set_cons_zero]; rfl
      intro inv
      refine call_atT 6 inv rfl (by omega) (by kernel_rfl) (by rfl) (fun K hK => ?_)
      go_simp
      with_reducible refine (HN1.out _).mono ?_
      rintro e u1 ⟨rfl, hb1⟩
      have kb1 := below_next hS hb1
      clear hS hb1
      refine hK.out _ _ (by exact kb1) (fun inv hS => ?_)
      clear hK K
      refine done_atT (by kernel_rfl) ?_
      simp only [List.drop_succ_cons, List.drop_zero]
      clear hS
      (try simp only [Act.put])
      have HI2 := Lib.hid (HI.out.call kb1)
      clear kb1 HI
      go_wp2_with fail
      with_reducible refine (HN2.out _).mono ?_
      rintro e w2 ⟨rfl, hb2⟩
      have HI3 := Lib.hid (HI2.out.call hb2)
      clear hb2 HI2
      have hr3 := HI3.out.rows.head
      go_wp2_with (refine wpList_store_row rfl 80 (.tmp 3) (.tmp 20) rfl (g + 1 + 1) NB rfl rfl 80 NA hr3 iB sB oB ?_)
      have HI4 : Hid (Lp w (w2.setRow (g + 1 + 1) NB) (g + 1 + 1) (wdW 4 (n / Q64 ^ j % LL)) 80 [(g + 1, z4, 80), (g, N8, 83)]) := Lib.hid ⟨by rw [HNB.out]; exact HI3.out.rows.put HI3.out.far NB, HI3.out.new, HI3.out.far, below_row HI3.out.below HI3.out.new⟩
      clear hr3 HI3
      (try refine NoPanic.normal ?_)
      go_wp2_with fail
      go_roundw
      case rel => exact ⟨j, by have := HK.out; omega, by go_num, HI4⟩
      case measure => simp [intOf] <;> omega
    · obtain rfl : k = 0 := by omega
      rw [HE0.out] at HI
      have h1 := HI.out.rows.head
      have h0 := HI.out.rows.tail.head
      have HB : Hid (Below w.heap.size w (wr.setRow (g + 1) OUT)) := Lib.hid (below_row HI.out.below (by rw [HG.out]; omega))
      clear HI
      go_wp2_with (first
        | (refine wpList_load_row rfl 80 (.tmp 3) rfl (g + 1 + 1) rfl 80 OUT (0, 0) _ h1 Try.underlying80 rfl iO ?_)
        | (refine wpList_store_row rfl 80 (.tmp 2) (.tmp 21) rfl (g + 1) OUT rfl rfl 80 z4 h0 iO sO oO ?_))
      (try simp only [Exit.inBlock, Exit.then])
      refine bodyPost_ret (results_cell_row rfl _ _ (g + 1) _ OUT _ _ rfl (setRow_heap _ _ _ _ _ _ h0) Try.underlying80 rfl iO) rfl ?_
      exact ⟨rfl, HB.out⟩
end Go.Proofs.Ytfejabfmhddepaa

namespace Go.Proofs.Ytfejabfmhddepaa
open Go.RowKit
set_option linter.unusedVariables false
set_option maxRecDepth 100000
theorem wpList_copy_row {P : Program} {w : World} {ops : Array Oper} {rest : List Oper} {o : Oper} {a : Act} {Q : Exit → Act → World → Prop} (hgd : o.guard = none) (d s : Operand) (dT sT : TypeId)
    (ho : o.op = .call { callee := .builtin .copy, args := #[d, s], argTypes := #[dT, sT] }) (E : TypeId) (hu : P.underlying dT = some (.slice E)) (hs : (P.info? E).map (·.size) = some 1)
    (g dLen dCap b : Nat) (sLen sCap : Nat) (hd : a.eval d = .slice (some ⟨g, 0, none⟩) dLen dCap) (hx : a.eval s = .slice (some ⟨b, 0, none⟩) sLen sCap) (cur cs : Array Value) (t t' : TypeId)
    (hg : w.heap[g]? = some (.cells cur t (0, 0))) (hb : w.heap[b]? = some (.cells cs t' (0, 0))) (hl : sLen = cs.size) (hn : cs.size ≤ dLen) (hfit : cs.size ≤ cur.size) (h1 : cs.all (·.oneCell') = true)
    (h : wpList P ops Q rest (a.put o.dst (goInt cs.size)) (w.setRow g (cs.toList ++ cur.toList.drop cs.size).toArray)) : wpList P ops Q (o :: rest) a w := by
  refine wpList_plain hgd fun K hK => ?_
  subst hl
  have hrun := run_copy_row (P := P) w dT sT o.type E g 0 dLen dCap ⟨b, 0, none⟩ cs.size sCap cur t cs.toList hu hs hg (by rw [show Nat.min cs.size dLen = min cs.size dLen from rfl, Nat.min_eq_left hn]; simp)
    (fun j v hj => by
      have := cell_of_row w b j cs t' (0, 0) hb
      have e : (⟨b, 0, none⟩ : Addr).add j = ⟨b, j, none⟩ := by
        unfold Addr.add
        split
        · rename_i h; subst h; rfl
        · simp
      rw [e, this]
      simpa using hj) (by simpa using hfit) (fun v hv => by
      rw [Array.all_eq_true'] at h1
      exact h1 v (by simpa using hv))
  unfold Oper.wp execOp
  simp only [ho, resolve, invoke, builtin, Sem.run_bind, Sem.run_pure, Result.andThen_ok, List.map_toArray, List.map_cons, List.map_nil, hd, hx, hrun]
  refine hK _ _ ?_
  simpa using h
end Go.Proofs.Ytfejabfmhddepaa

namespace Go.Proofs.Ytfejabfmhddepaa
open Go.RowKit
set_option linter.unusedVariables false
set_option maxRecDepth 100000
theorem word_sum {h l p z1 z2 d1 d2 u v c : Nat} (m0 : h * c + l = p) (e1 : z1 + d1 * c = l + u + 0) (e2 : z2 + d2 * c = z1 + v + 0) : z2 + (h + d1 + d2) * c = p + u + v := by
  rw [Nat.add_mul, Nat.add_mul]; omega
theorem word_lim {z d p u v : Nat} (hr : z + d * 18446744073709551616 = p + u + v) (hm : p ≤ 340282366920938463426481119284349108225) (hu : u < 18446744073709551616) (hv : v < 18446744073709551616) : d < 18446744073709551616 := by omega
set_option maxHeartbeats 3200000 in
theorem scword_ex (x y u v : Nat) (hx : x < 18446744073709551616) (hy : y < 18446744073709551616) (hu : u < 18446744073709551616) (hv : v < 18446744073709551616) : ∃ z d : Nat,
    Hid (∀ w : World, Calls Try.prog 83 #[.int .u64 (x : Int), .int .u64 (y : Int), .int .u64 (u : Int), .int .u64 (v : Int)] w fun e w' => e = .returned (.tuple #[.int .u64 (z : Int), .int .u64 (d : Int)]) ∧ w' = w) ∧
    z + d * 18446744073709551616 = x * y + u + v ∧ z < 18446744073709551616 ∧ d < 18446744073709551616 := by
  have hm : x * y ≤ 340282366920938463426481119284349108225 := Nat.le_trans (Nat.mul_le_mul (show x ≤ 18446744073709551615 by omega) (show y ≤ 18446744073709551615 by omega)) (by decide)
  obtain ⟨h, l, M0, m0, p0, q0⟩ := mul_ex x y hx hy
  obtain ⟨z1, d1, s1, e1, l1⟩ := add_ex l u 0 (by omega)
  obtain ⟨z2, d2, s2, e2, l2⟩ := add_ex z1 v 0 (by omega)
  generalize x * y = p at *
  have hr := word_sum m0 e1 e2
  have hd := word_lim hr hm hu hv
  refine ⟨z2, h + d1 + d2, Lib.hid fun w => ?_, hr, l2, hd⟩
  have f1 : IntKind.u64.wrap ((h : Int) + (d1 : Int)) = ((h + d1 : Nat) : Int) := by rw [IntKind.wrap_u64]; omega
  have f2 : IntKind.u64.wrap (((h + d1 : Nat) : Int) + (d2 : Int)) = ((h + d1 + d2 : Nat) : Int) := by rw [IntKind.wrap_u64]; omega
  simp only [Int.ofNat_zero] at s1 s2
  generalize h + d1 + d2 = hd2 at *
  generalize h + d1 = hd1 at *
  clear hr hd hm m0 e1 e2 l1 l2 hx hy hu hv p0 q0
  go_enter Try.func83, Try.ntmps83
  go_wp2_with fail
  with_reducible refine (M0.out _).mono ?_
  rintro e w' ⟨rfl, rfl⟩
  go_wp2
  go_ret2
  exact ⟨rfl, rfl⟩
theorem wd4_at (n i : Nat) (hi : i < 4) (u : World) : (Instr.index 80 (.agg (wdW 4 n)) (.int .i64 (i : Int))).run Try.prog u = .ok (.int .u64 (wq n i : Int)) u := by
  have hu : Try.prog.underlying 80 = some (.array 4 24) := by kernel_rfl
  have h1 : (0 : Int) ≤ (i : Int) ∧ (i : Int) < ((4 : Nat) : Int) := ⟨by omega, by omega⟩
  have hs : (sizeOf 24).run Try.prog u = .ok 1 u := by kernel_rfl
  have hv := wdW_get 4 n i hi
  simp [Instr.index, run_underlying hu, asIntOf, h1, hi, go_sem, hs, hv]
theorem zero_words (l : List Nat) (hl : Ws 8 l) (i : Nat) (h : vQ l < Q64 ^ i) (j : Nat) (hj : i ≤ j) (hj8 : j < 8) : l.getD j 0 = 0 := by
  rw [← wsL_vQ hl, wsL_get _ _ _ hj8]
  unfold wq
  rw [Nat.div_eq_of_lt (Nat.lt_of_lt_of_le h (Nat.pow_le_pow_right (by decide) hj)), Nat.zero_mod]
theorem row_eight (c : Nat) (hc : c < Q4) : ((wdW 4 c).toList ++ (wdW 8 0).toList.drop (wdW 4 c).size).toArray = wsA (wsL 4 c ++ [0, 0, 0, 0]) := by
  rw [wdW_size]
  unfold wdW wsA
  simp [wsL]
theorem eight_ws (c : Nat) (hc : c < Q4) : Ws 8 (wsL 4 c ++ [0, 0, 0, 0]) ∧ vQ (wsL 4 c ++ [0, 0, 0, 0]) = c := by
  have e : wsL 4 c ++ [0, 0, 0, 0] = wsL 8 c := by
    refine ws_ext (k := 8) (by simp [wsL_len]) (wsL_len _ _) fun i hi => ?_
    rw [wsL_get _ _ _ hi]
    by_cases h : i < 4
    · rw [List.getD_eq_getElem?_getD, List.getElem?_append_left (by rw [wsL_len]; exact h), ← List.getD_eq_getElem?_getD, wsL_get _ _ _ h]
    · rw [List.getD_eq_getElem?_getD, List.getElem?_append_right (by rw [wsL_len]; omega), wsL_len, ← List.getD_eq_getElem?_getD]
      have h4 : i = 4 ∨ i = 5 ∨ i = 6 ∨ i = 7 := by omega
      have : wq c i = 0 := by
        unfold wq
        rw [Nat.div_eq_of_lt (Nat.lt_of_lt_of_le (by rw [← q4_is] at hc; exact hc) (Nat.pow_le_pow_right (by decide) (show 4 ≤ i by omega))), Nat.zero_mod]
      rw [this]
      rcases h4 with rfl | rfl | rfl | rfl <;> rfl
  rw [e]
  exact ⟨wsL_ws 8 c, vQ_eq (Nat.lt_trans (by rw [← q4_is] at hc; exact hc) (by decide))⟩
set_option maxHeartbeats 6400000 in
theorem scmuladd_any (a b c : Nat) (ha : a < Q4) (hb : b < Q4) (hc : c < Q4) (w : World) :
    Calls Try.prog 62 #[.agg (wdW 4 a), .agg (wdW 4 b), .agg (wdW 4 c)] w (RetV w (.agg (wdW 8 (a * b + c)))) := by
  have hz8 := wd8_zero
  obtain ⟨hws0, hv0⟩ := eight_ws c hc
  have HRE := Lib.hid (row_eight c hc)
  have HWS0 := Lib.hid hws0
  have HV0 : Hid (vQ (wsL 4 c ++ [0, 0, 0, 0]) = a % Q64 ^ 0 * b + c) := Lib.hid (by rw [hv0, Nat.pow_zero, Nat.mod_one, Nat.zero_mul, Nat.zero_add])
  have HLIM : Hid (∀ i, i ≤ 4 → a % Q64 ^ i * b + c < Q64 ^ (i + 4)) := Lib.hid fun i hi => by
    rw [Nat.pow_add, q4_is]
    exact mul_lim (Nat.mod_lt _ (Nat.pow_pos (by decide))) hb hc
  have HEND : Hid (a % Q64 ^ 4 * b + c = a * b + c) := Lib.hid (by rw [q4_is, Nat.mod_eq_of_lt ha])
  have HB4 : Hid (b % Q64 ^ 4 = b) := Lib.hid (by rw [q4_is, Nat.mod_eq_of_lt hb])
  have HIA : Hid (∀ k : Nat, k < 4 → ∀ u, (Instr.index 80 (.agg (wdW 4 a)) (.int .i64 (k : Int))).run Try.prog u = .ok (.int .u64 (wq a k : Int)) u) := Lib.hid fun k hk u => wd4_at a k hk u
  have HIB : Hid (∀ k : Nat, k < 4 → ∀ u, (Instr.index 80 (.agg (wdW 4 b)) (.int .i64 (k : Int))).run Try.prog u = .ok (.int .u64 (wq b k : Int)) u) := Lib.hid fun k hk u => wd4_at b k hk u
  have iA := wd4_info a
  have iB := wd4_info b
  have iO := wd8_info (a * b + c)
  have oO := wdW_one 8 (a * b + c)
  have sO : (wdW 8 0).size = (wdW 8 (a * b + c)).size := by rw [wdW_size, wdW_size]
  have oC := wdW_one 4 c
  have sC : (wdW 4 c).size = 4 := wdW_size 4 c
  have s8 : (wdW 8 0).size = 8 := wdW_size 8 0
  have HOUT : Hid (∀ l, Ws 8 l → vQ l = a * b + c → wsA l = wdW 8 (a * b + c)) := Lib.hid fun l h1 h2 => ws_row h1 h2
  generalize wdW 8 (a * b + c) = OUT at *
  generalize wdW 8 0 = z8 at *
  generalize wdW 4 a = WA at *
  generalize wdW 4 b = WB at *
  generalize wdW 4 c = WC at *
  clear hws0 hv0 ha hb hc
  have hr0 : RowsW (((((w.alloc (.cells WA 80)).alloc (.cells WB 80)).alloc (.cells WC 80)).alloc (.cells z8 83)).alloc (.cells z8 83)) [(w.heap.size + 1 + 1 + 1 + 1, z8, 83), (w.heap.size + 1 + 1 + 1, z8, 83), (w.heap.size + 1 + 1, WC, 80), (w.heap.size + 1, WB, 80), (w.heap.size, WA, 80)] := by
    have h := (((((RowsW.nil w).box WA 80).box WB 80).box WC 80).box z8 83).box z8 83
    simp only [World.size_alloc] at h
    exact h
  have hb0 : Below w.heap.size w (((((w.alloc (.cells WA 80)).alloc (.cells WB 80)).alloc (.cells WC 80)).alloc (.cells z8 83)).alloc (.cells z8 83)) := below_alloc (below_alloc (below_alloc (below_alloc (below_alloc (Below.refl _ _) _) _) _) _) _
  have HR0 := Lib.hid hr0
  have HB0 := Lib.hid hb0
  clear hr0 hb0
  go_enter Try.func62, Try.ntmps62
  go_wp2_with fail
  obtain ⟨W0, hW0⟩ : ∃ W, ((((w.alloc (.cells WA 80)).alloc (.cells WB 80)).alloc (.cells WC 80)).alloc (.cells z8 83)).alloc (.cells z8 83) = W := ⟨_, rfl⟩
  obtain ⟨g, hg⟩ : ∃ g, w.heap.size = g := ⟨_, rfl⟩
  rw [hW0] at HB0
  rw [hW0, hg] at HR0
  have HG := Lib.hid hg
  rw [hW0, hg]
  clear hW0 hg
  refine wp_region_still_tail 2 (by kernel_rfl) (by kernel_rfl) ?_
  simp only [List.take_succ_cons, List.take_zero, List.drop_succ_cons, List.drop_zero]
  iterate 2 still_step
  refine wpStill_nil ?_
  refine wpList_copy_row rfl (.tmp 13) (.tmp 14) 102 102 rfl 24 Try.underlying102 (by kernel_rfl) (g + 1 + 1 + 1 + 1) 8 8 (g + 1 + 1) 4 4 rfl rfl z8 WC 83 80 HR0.out.head HR0.out.tail.tail.head sC.symm (by rw [sC]; omega) (by rw [sC, s8]; omega) oC ?_
  rw [HRE.out]
  obtain ⟨W1, hW1⟩ : ∃ W, ({ W0 with drawn := W0.drawn + 1 } : World).setRow (g + 1 + 1 + 1 + 1) (wsA (wsL 4 c ++ [0, 0, 0, 0])) = W := ⟨_, rfl⟩
  have HI : Hid (Lp w W1 (g + 1 + 1 + 1 + 1) (wsA (wsL 4 c ++ [0, 0, 0, 0])) 83 [(g + 1 + 1 + 1, z8, 83), (g + 1, WB, 80), (g, WA, 80)]) := Lib.hid (by
    rw [← hW1]
    refine ⟨⟨setRow_heap _ _ _ _ _ _ HR0.out.head, ?_, ?_, ?_, trivial⟩, by rw [HG.out]; omega, by simp; omega, below_row (below_drewN' HB0.out 1) (by rw [HG.out]; omega)⟩
    · rw [setRow_other _ _ _ _ (by omega)]; exact HR0.out.tail.head
    · rw [setRow_other _ _ _ _ (by omega)]; exact HR0.out.tail.tail.tail.head
    · rw [setRow_other _ _ _ _ (by omega)]; exact HR0.out.tail.tail.tail.tail.head)
  rw [hW1]
  have hla := HI.out.rows.tail.tail.tail.head
  clear hW1 HR0 HB0 HRE sC s8 oC
  generalize wsL 4 c ++ [0, 0, 0, 0] = L0 at *
  go_wp2_with (refine wpList_load_row rfl 80 (.tmp 3) rfl g rfl 80 WA (0, 0) _ hla Try.underlying80 rfl iA ?_)
  clear hla
  go_loopw [17] (fun i_ wr => ∃ (i : Nat) (l : List Nat), i ≤ 4 ∧ i_ = .int .i64 (i : Int) ∧ Hid (Ws 8 l) ∧ Hid (vQ l = a % Q64 ^ i * b + c) ∧ Hid (Lp w wr (g + 1 + 1 + 1 + 1) (wsA l) 83 [(g + 1 + 1 + 1, z8, 83), (g + 1, WB, 80), (g, WA, 80)])) (fun i_ _ => 4 - (intOf i_).toNat)
  case atStart => exact ⟨0, L0, by omega, rfl, HWS0, HV0, HI⟩
  case round =>
    clear HI HWS0 HV0
    obtain ⟨i, l, hi, rfl, HWS, HV, HI⟩ := hrel
    by_cases hlt : i < 4
    · have hxi := HIA.out i hlt
      have hx := wq_lt a i
      have HXD := Lib.hid (mod_q a i)
      have HZW := Lib.hid (zero_words l HWS.out (i + 4) (by rw [HV.out]; exact HLIM.out i hi))
      obtain ⟨x, hxe⟩ : ∃ x, wq a i = x := ⟨_, rfl⟩
      rw [hxe] at hxi hx HXD
      have HX := Lib.hid hx
      have hlb := HI.out.rows.tail.tail.head
      have e7 : decide ((i : Int) < 4) = true := decide_eq_true (by omega)
      have b5 : 0 ≤ (i : Int) := by omega
      have b6 : (i : Int) < 4 := by omega
      have HLT := Lib.hid hlt
      have HZ4 : Hid (l.getD (i + 4) 0 = 0) := Lib.hid (HZW.out (i + 4) (Nat.le_refl _) (by omega))
      have HN0 : Hid (vQ l + 0 * (Q64 ^ i * Q64 ^ 0) = vQ l + x * (b % Q64 ^ 0) * Q64 ^ i) := Lib.hid (by rw [Nat.pow_zero, Nat.mod_one]; simp)
      obtain ⟨N0, hN0⟩ : ∃ n, vQ l = n := ⟨_, rfl⟩
      have HNV : Hid (N0 = a % Q64 ^ i * b + c) := Lib.hid (by rw [← hN0]; exact HV.out)
      have HN1 : Hid (vQ l + 0 * (Q64 ^ i * Q64 ^ 0) = N0 + x * (b % Q64 ^ 0) * Q64 ^ i) := Lib.hid (by rw [← hN0]; exact HN0.out)
      clear hx hxe hN0 HN0 HV hlt HZW
      go_wp2_with (refine wpList_load_row rfl 80 (.tmp 4) rfl (g + 1) rfl 80 WB (0, 0) _ hlb Try.underlying80 rfl iB ?_)
      clear hlb
      go_loopw [10, 22] (fun c_ j_ wr => ∃ (j : Nat) (l : List Nat) (cc : Nat), j ≤ 4 ∧ j_ = .int .i64 (j : Int) ∧ c_ = .int .u64 (cc : Int) ∧ Hid (Ws 8 l) ∧ Hid (l.getD (i + 4) 0 = 0) ∧ Hid (cc < 18446744073709551616) ∧ Hid (vQ l + cc * (Q64 ^ i * Q64 ^ j) = N0 + x * (b % Q64 ^ j) * Q64 ^ i) ∧ Hid (Lp w wr (g + 1 + 1 + 1 + 1) (wsA l) 83 [(g + 1 + 1 + 1, z8, 83), (g + 1, WB, 80), (g, WA, 80)])) (fun _ j_ _ => 4 - (intOf j_).toNat)
      case atStart => exact ⟨0, l, 0, by omega, rfl, rfl, HWS, HZ4, Lib.hid (by omega), HN1, HI⟩
      case round =>
        clear HI HWS HN1 HZ4
        obtain ⟨j, l2, cc, hj, rfl, rfl, HWS, HZ4, HC, HV, HI⟩ := hrel
        by_cases hlt2 : j < 4
        · have hyj := HIB.out j hlt2
          have hy := wq_lt b j
          have hij := HLT.out
          have HYD := Lib.hid (mod_q b j)
          obtain ⟨y, hye⟩ : ∃ y, wq b j = y := ⟨_, rfl⟩
          rw [hye] at hyj hy HYD
          have hu := HWS.out.lt (i + j) (by omega)
          have cn : wr.cell? ⟨g + 1 + 1 + 1 + 1, i + j, none⟩ = some (.int .u64 ((l2.getD (i + j) 0 : Nat) : Int)) := by rw [cell_of_row _ _ _ _ _ _ HI.out.rows.head, wsA_get _ _ (by rw [HWS.out.len]; omega)]
          have fz := HI.out.fz (i + j)
          obtain ⟨z, d, HM, em, lz, ld⟩ := scword_ex x y (l2.getD (i + j) 0) cc HX.out (by unfold Q64 at hy; exact hy) (by unfold Q64 at hu; exact hu) HC.out
          have HV2 : Hid (vQ (l2.set (i + j) z) + d * (Q64 ^ i * Q64 ^ (j + 1)) = N0 + x * (b % Q64 ^ (j + 1)) * Q64 ^ i) := Lib.hid (by
            have hs := vQ_set l2 (i + j) z (by rw [HWS.out.len]; omega)
            rw [Nat.pow_add] at hs
            rw [HYD.out, Nat.pow_succ, ← Nat.mul_assoc (Q64 ^ i)]
            exact mul_wd em hs HV.out)
          have HWS2 := Lib.hid (HWS.out.set (i + j) z (by unfold Q64; exact lz))
          have HZ2 : Hid ((l2.set (i + j) z).getD (i + 4) 0 = 0) := Lib.hid (by
            rw [List.getD_eq_getElem?_getD, List.getElem?_set, if_neg (by omega), ← List.getD_eq_getElem?_getD]; exact HZ4.out)
          have HC2 := Lib.hid ld
          have HI2 : Hid (Lp w (wr.setCell ⟨g + 1 + 1 + 1 + 1, i + j, none⟩ (.int .u64 (z : Int))) (g + 1 + 1 + 1 + 1) (wsA (l2.set (i + j) z)) 83 [(g + 1 + 1 + 1, z8, 83), (g + 1, WB, 80), (g, WA, 80)]) := Lib.hid (by
            rw [← wsA_set]
            exact HI.out.set (i + j) _)
          generalize l2.getD (i + j) 0 = u at *
          have e1 : (i : Int) + (j : Int) = ((i + j : Nat) : Int) := by omega
          have e2 : IntKind.i64.wrap ((i + j : Nat) : Int) = ((i + j : Nat) : Int) := by rw [IntKind.wrap_i64]; omega
          have e8 : decide ((j : Int) < 4) = true := decide_eq_true (by omega)
          have b7 : 0 ≤ (j : Int) := by omega
          have b8 : (j : Int) < 4 := by omega
          have b9 : 0 ≤ ((i + j : Nat) : Int) := by omega
          have b10 : ((i + j : Nat) : Int) < 8 := by omega
          generalize hij2 : i + j = ij at *
          have HJ := Lib.hid hj
          have HLT2 := Lib.hid hlt2
          clear HI HWS HZ4 HC HV hy hye hu em lz ld hij hij2 hj hlt2
          go_wp2_with fail
          with_reducible refine (HM.out _).mono ?_
          rintro e w' ⟨rfl, rfl⟩
          go_wp2_with fail
          go_roundw
          case rel => exact ⟨j + 1, _, d, by have := HLT2.out; omega, by go_num, rfl, HWS2, HZ2, HC2, HV2, HI2⟩
          case measure => have := HLT2.out; simp [intOf]; omega
        · have e8 : decide ((j : Int) < 4) = false := decide_eq_false (by omega)
          obtain rfl : j = 4 := by omega
          have hij := HLT.out
          have e1 : (i : Int) + 4 = ((i + 4 : Nat) : Int) := by omega
          have e2 : IntKind.i64.wrap ((i + 4 : Nat) : Int) = ((i + 4 : Nat) : Int) := by rw [IntKind.wrap_i64]; omega
          have b9 : 0 ≤ ((i + 4 : Nat) : Int) := by omega
          have b10 : ((i + 4 : Nat) : Int) < 8 := by omega
          have fz := HI.out.fz (i + 4)
          have cn : wr.cell? ⟨g + 1 + 1 + 1 + 1, i + 4, none⟩ = some (.int .u64 ((l2.getD (i + 4) 0 : Nat) : Int)) := by rw [cell_of_row _ _ _ _ _ _ HI.out.rows.head, wsA_get _ _ (by rw [HWS.out.len]; omega)]
          have HV2 : Hid (vQ (l2.set (i + 4) cc) = a % Q64 ^ (i + 1) * b + c) := Lib.hid (by
            have hs := vQ_set l2 (i + 4) cc (by rw [HWS.out.len]; omega)
            rw [HZ4.out, Nat.zero_mul, Nat.add_zero, Nat.pow_add] at hs
            rw [hs, HV.out, HB4.out, HNV.out, HXD.out, Nat.add_mul]
            have : x * b * Q64 ^ i = x * Q64 ^ i * b := by rw [Nat.mul_assoc, Nat.mul_comm b, ← Nat.mul_assoc]
            omega)
          have HWS2 := Lib.hid (HWS.out.set (i + 4) cc (by unfold Q64; exact HC.out))
          have HI2 : Hid (Lp w (wr.setCell ⟨g + 1 + 1 + 1 + 1, i + 4, none⟩ (.int .u64 (cc : Int))) (g + 1 + 1 + 1 + 1) (wsA (l2.set (i + 4) cc)) 83 [(g + 1 + 1 + 1, z8, 83), (g + 1, WB, 80), (g, WA, 80)]) := Lib.hid (by
            rw [← wsA_set]
            exact HI.out.set (i + 4) _)
          generalize l2.getD (i + 4) 0 = u at *
          generalize hi4 : i + 4 = i4 at *
          clear HI HWS HZ4 HC HV hij hi4 hlt2 hj
          go_wp2_with fail
          go_roundw
          case rel => exact ⟨i + 1, _, by have := HLT.out; omega, by go_num, HWS2, HV2, HI2⟩
          case measure => have := HLT.out; simp [intOf]; omega
    · have e7 : decide ((i : Int) < 4) = false := decide_eq_false (by omega)
      obtain rfl : i = 4 := by omega
      rw [HOUT.out l HWS.out (by rw [HV.out, HEND.out])] at HI
      have h1 := HI.out.rows.head
      have h0 := HI.out.rows.tail.head
      have HB : Hid (Below w.heap.size w (wr.setRow (g + 1 + 1 + 1) OUT)) := Lib.hid (below_row HI.out.below (by rw [HG.out]; omega))
      clear HI HV HWS hlt
      go_wp2_with (first
        | (refine wpList_load_row rfl 83 (.tmp 7) rfl (g + 1 + 1 + 1 + 1) rfl 83 OUT (0, 0) _ h1 Try.underlying83 rfl iO ?_)
        | (refine wpList_store_row rfl 83 (.tmp 6) (.tmp 48) rfl (g + 1 + 1 + 1) OUT rfl rfl 83 z8 h0 iO sO oO ?_))
      (try simp only [Exit.inBlock, Exit.then])
      refine bodyPost_ret (results_cell_row rfl _ _ (g + 1 + 1 + 1) _ OUT _ _ rfl (setRow_heap _ _ _ _ _ _ h0) Try.underlying83 rfl iO) rfl ?_
      exact ⟨rfl, HB.out⟩
end Go.Proofs.Ytfejabfmhddepaa

namespace Go.Proofs.Ytfejabfmhddepaa
open Go.RowKit
set_option linter.unusedVariables false
set_option maxRecDepth 100000
structure MuI (w wr : World) (g gx gy gz : Nat) (X Y Z : List Int) (z : Array Value) : Prop where
  res : wr.heap[g]? = some (.cells z 22 (0, 0))
  xx : wr.heap[gx]? = some (.cells (tabI X) 2 (0, 0))
  yy : wr.heap[gy]? = some (.cells (tabI Y) 2 (0, 0))
  zz : wr.heap[gz]? = some (.cells (tabI Z) 2 (0, 0))
  n0 : g ≠ gz
  n1 : gx ≠ gz
  n2 : gy ≠ gz
  low : w.heap.size ≤ gz
  below : Below w.heap.size w wr
section
variable {w wr : World} {g gx gy gz : Nat} {X Y Z : List Int} {z : Array Value}
theorem MuI.drew (h : MuI w wr g gx gy gz X Y Z z) : MuI w wr.drew g gx gy gz X Y Z z := ⟨h.res, h.xx, h.yy, h.zz, h.n0, h.n1, h.n2, h.low, h.below.drew⟩
theorem MuI.cell (h : MuI w wr g gx gy gz X Y Z z) (k : Nat) (v : Int) : MuI w (wr.setCell ⟨gz, k, none⟩ (.int .i64 v)) g gx gy gz X Y (Z.set k v) z := by
  rw [setCell_eq_setRow wr gz k _ _ _ (.int .i64 v) h.zz, tabI_set]
  exact ⟨by rw [setRow_other _ _ _ _ h.n0]; exact h.res, by rw [setRow_other _ _ _ _ h.n1]; exact h.xx, by rw [setRow_other _ _ _ _ h.n2]; exact h.yy, setRow_heap _ _ _ _ _ _ h.zz, h.n0, h.n1, h.n2, h.low, below_row h.below h.low⟩
end
end Go.Proofs.Ytfejabfmhddepaa

namespace Go.Proofs.Ytfejabfmhddepaa
open Go.RowKit
set_option linter.unusedVariables false
set_option maxRecDepth 100000
theorem run_build1 (k : Nat) {a : Act} {o : Oper} (ho : o.op = .build 22 #[(0, .const (.int .u8 (k : Int)))]) (hk : (Instr.build 22 #[(0, .int .u8 (k : Int))]).run Try.prog = fun W => .ok (.agg (bytT k)) W) (W : World) : (execOp (Act.eval a) o).run Try.prog W = .ok (.value (.agg (bytT k))) W := by
  unfold execOp
  simp only [ho]
  have h := congrFun hk W
  simp [Act.eval, h]
end Go.Proofs.Ytfejabfmhddepaa

namespace Go.Proofs.Ytfejabfmhddepaa
open Go.RowKit
set_option linter.unusedVariables false
set_option maxRecDepth 100000
set_option maxHeartbeats 1600000 in
theorem scOrder_any (w : World) : Calls Try.prog 24 #[] w (RetV w (.agg (bytT LL))) := by
  have hzb := b32_zero
  have HORD := Lib.hid fun W : World => scorder_any W
  have HBY := Lib.hid fun W : World => scbytes_any LL W
  have nB := zero32_size (l := leB 32 (LL)) (leB_len _ _)
  have oB := arrB_one (leB 32 (LL))
  have iB := arr32_info (leB_len 32 (LL))
  unfold bytT at *
  obtain ⟨OUT, hOUT⟩ : ∃ o, arrB (leB 32 (LL)) = o := ⟨_, rfl⟩
  rw [hOUT] at nB oB iB HBY ⊢
  generalize zero32 = z32 at *
  generalize wdW 4 LL = NL at *
  have hr0 : RowsW (w.alloc (.cells z32 22)) [(w.heap.size, z32, 22)] := by
    have h := (RowsW.nil w).box z32 22
    (try simp only [World.size_alloc] at h)
    exact h
  have hb0 : Below w.heap.size w (w.alloc (.cells z32 22)) := below_alloc (Below.refl _ _) _
  have HR0 := Lib.hid hr0
  have HB0 := Lib.hid hb0
  clear hr0 hb0
  clear hOUT
  go_enter Try.func24, Try.ntmps24
  go_wp2_with fail
  with_reducible refine (HORD.out _).mono ?_
  rintro e v1 ⟨rfl, hb1⟩
  have HR1 := Lib.hid (HR0.out.below hb1)
  have HB1 := Lib.hid (below_next HB0.out hb1)
  clear hb1 HR0 HB0
  go_wp2_with fail
  with_reducible refine (HBY.out _).mono ?_
  rintro e v2 ⟨rfl, hb2⟩
  have hr2 := (HR1.out.below hb2).head
  have HE : Hid (Below w.heap.size w (v2.setRow w.heap.size OUT)) := Lib.hid (below_row (below_next HB1.out hb2) (Nat.le_refl _))
  clear hb2
  go_wp2_with (refine wpList_store_row rfl 22 (.tmp 0) (.tmp 2) rfl w.heap.size OUT rfl rfl 22 z32 hr2 iB nB oB ?_)
  (try simp only [Exit.inBlock, Exit.then])
  refine bodyPost_ret (results_cell_row rfl _ _ (w.heap.size) _ OUT _ _ rfl (setRow_heap _ _ _ _ _ _ hr2) Try.underlying22 rfl iB) rfl ?_
  exact ⟨rfl, HE.out⟩
set_option maxHeartbeats 6400000 in
theorem scMulAdd_any (l m n : List UInt8) (hl : l.length = 32) (hm : m.length = 32) (hn : n.length = 32) (w : World) : Calls Try.prog 25 #[.agg (arrB l), .agg (arrB m), .agg (arrB n)] w (RetV w (.agg (bytT ((leN l * leN m + leN n) % LL)))) := by
  have hzb := b32_zero
  have h1 : leN l < Q4 := by have := leN_lt l; rw [hl] at this; exact this
  have h2 : leN m < Q4 := by have := leN_lt m; rw [hm] at this; exact this
  have h3 : leN n < Q4 := by have := leN_lt n; rw [hn] at this; exact this
  have HW1 := Lib.hid fun W : World => scwords_any l hl W
  have HW2 := Lib.hid fun W : World => scwords_any m hm W
  have HW3 := Lib.hid fun W : World => scwords_any n hn W
  have HM := Lib.hid fun W : World => scmuladd_any _ _ _ h1 h2 h3 W
  have h8 : leN l * leN m + leN n < Q64 ^ 8 := by
    have := mul_lim h1 h2 h3
    exact this
  have HRED := Lib.hid fun W : World => screduced_any (leN l * leN m + leN n) h8 W
  have HBY := Lib.hid fun W : World => scbytes_any ((leN l * leN m + leN n) % LL) W
  have iL := arr32_info hl
  have iM := arr32_info hm
  have iN := arr32_info hn
  have nB := zero32_size (l := leB 32 ((leN l * leN m + leN n) % LL)) (leB_len _ _)
  have oB := arrB_one (leB 32 ((leN l * leN m + leN n) % LL))
  have iB := arr32_info (leB_len 32 ((leN l * leN m + leN n) % LL))
  unfold bytT at *
  obtain ⟨OUT, hOUT⟩ : ∃ o, arrB (leB 32 ((leN l * leN m + leN n) % LL)) = o := ⟨_, rfl⟩
  rw [hOUT] at nB oB iB HBY ⊢
  generalize zero32 = z32 at *
  generalize wdW 8 (leN l * leN m + leN n) = W8 at *
  generalize wdW 4 ((leN l * leN m + leN n) % LL) = NR at *
  generalize wdW 4 (leN l) = N1 at *
  generalize wdW 4 (leN m) = N2 at *
  generalize wdW 4 (leN n) = N3 at *
  generalize arrB l = LA at *
  generalize arrB m = MA at *
  generalize arrB n = NA at *
  clear h1 h2 h3 h8 hl hm hn hOUT
  have hr0 : RowsW ((((w.alloc (.cells LA 22)).alloc (.cells MA 22)).alloc (.cells NA 22)).alloc (.cells z32 22)) [(w.heap.size + 1 + 1 + 1, z32, 22), (w.heap.size + 1 + 1, NA, 22), (w.heap.size + 1, MA, 22), (w.heap.size, LA, 22)] := by
    have h := ((((RowsW.nil w).box LA 22).box MA 22).box NA 22).box z32 22
    (try simp only [World.size_alloc] at h)
    exact h
  have hb0 : Below w.heap.size w ((((w.alloc (.cells LA 22)).alloc (.cells MA 22)).alloc (.cells NA 22)).alloc (.cells z32 22)) := below_alloc (below_alloc (below_alloc (below_alloc (Below.refl _ _) _) _) _) _
  have HR0 := Lib.hid hr0
  have HB0 := Lib.hid hb0
  clear hr0 hb0
  go_enter Try.func25, Try.ntmps25
  go_upto_region 1 with fail
  obtain ⟨W1, hW1⟩ : ∃ W, ((((w.alloc (.cells LA 22)).alloc (.cells MA 22)).alloc (.cells NA 22)).alloc (.cells z32 22)) = W := ⟨_, rfl⟩
  rw [hW1] at HR0 HB0
  rw [hW1]
  obtain ⟨g, hg⟩ : ∃ g, w.heap.size = g := ⟨_, rfl⟩
  rw [hg] at HR0
  rw [hg]
  have HG := Lib.hid hg
  clear hg
  clear hW1
  refine wp_region_noPanic ?_
  refine wp_region_held_tail (S := fun W => Below W1.heap.size W1 W) 8 (by kernel_rfl) ⟨by kernel_rfl, by kernel_rfl, by kernel_rfl, by kernel_rfl⟩ (by exact (Below.refl _ _).drew) (fun hT inv hS => ?_)
  refine' take_atT 0 hT inv rfl (by omega) (by kernel_rfl) (by kernel_rfl) (fun _ _ _ h => h) (by rfl) hS ?_ ?_ ?_
  rotate_left 2
  · intro W hSW; exact run_loadR rfl rfl ((HR0.out.below hSW).tail.tail.tail.head) Try.underlying22 rfl iL
  · simp only [List.set_cons_succ, List.set_cons_zero]; rfl
  intro inv
  refine' take_atT 2 hT inv rfl (by omega) (by kernel_rfl) (by kernel_rfl) (fun _ _ _ h => h) (by rfl) hS ?_ ?_ ?_
  rotate_left 2
  · intro W hSW; exact run_loadR rfl rfl ((HR0.out.below hSW).tail.tail.head) Try.underlying22 rfl iM
  · simp only [List.set_cons_succ, List.set_cons_zero]; rfl
  intro inv
  refine' take_atT 4 hT inv rfl (by omega) (by kernel_rfl) (by kernel_rfl) (fun _ _ _ h => h) (by rfl) hS ?_ ?_ ?_
  rotate_left 2
  · intro W hSW; exact run_loadR rfl rfl ((HR0.out.below hSW).tail.head) Try.underlying22 rfl iN
  · simp only [List.set_cons_succ, List.set_cons_zero]; rfl
  intro inv
  refine call_atT 1 inv rfl (by omega) (by kernel_rfl) (by rfl) (fun K hK => ?_)
  go_simp
  with_reducible refine (HW1.out _).mono ?_
  rintro e u1 ⟨rfl, hb1⟩
  have kb1 := below_next hS hb1
  clear hS hb1
  refine hK.out _ _ (by exact kb1) (fun inv hS => ?_)
  clear hK K
  refine call_atT 3 inv rfl (by omega) (by kernel_rfl) (by rfl) (fun K hK => ?_)
  go_simp
  with_reducible refine (HW2.out _).mono ?_
  rintro e u2 ⟨rfl, hb2⟩
  have kb2 := below_next kb1 hb2
  clear hS hb2
  refine hK.out _ _ (by exact kb2) (fun inv hS => ?_)
  clear hK K
  refine call_atT 5 inv rfl (by omega) (by kernel_rfl) (by rfl) (fun K hK => ?_)
  go_simp
  with_reducible refine (HW3.out _).mono ?_
  rintro e u3 ⟨rfl, hb3⟩
  have kb3 := below_next kb2 hb3
  clear hS hb3
  refine hK.out _ _ (by exact kb3) (fun inv hS => ?_)
  clear hK K
  refine call_atT 6 inv rfl (by omega) (by kernel_rfl) (by rfl) (fun K hK => ?_)
  go_simp
  with_reducible refine (HM.out _).mono ?_
  rintro e u4 ⟨rfl, hb4⟩
  have kb4 := below_next kb3 hb4
  clear hS hb4
  refine hK.out _ _ (by exact kb4) (fun inv hS => ?_)
  clear hK K
  refine call_atT 7 inv rfl (by omega) (by kernel_rfl) (by rfl) (fun K hK => ?_)
  go_simp
  with_reducible refine (HRED.out _).mono ?_
  rintro e u5 ⟨rfl, hb5⟩
  have kb5 := below_next kb4 hb5
  clear hS hb5
  refine hK.out _ _ (by exact kb5) (fun inv hS => ?_)
  clear hK K
  refine done_atT (by kernel_rfl) ?_
  simp only [List.drop_succ_cons, List.drop_zero]
  clear hS
  (try simp only [Act.put])
  have HR2 := Lib.hid (HR0.out.below kb5)
  have HB2 := Lib.hid (below_next HB0.out kb5)
  clear kb1 kb2 kb3 kb4 kb5
  go_wp2_with fail
  with_reducible refine (HBY.out _).mono ?_
  rintro e w2 ⟨rfl, hb2⟩
  have hr2 := (HR2.out.below hb2).head
  have HE : Hid (Below w.heap.size w (w2.setRow (g + 1 + 1 + 1) OUT)) := Lib.hid (below_row (below_next HB2.out hb2) (by rw [HG.out]; omega))
  clear hb2
  go_wp2_with (refine wpList_store_row rfl 22 (.tmp 6) (.tmp 15) rfl (g + 1 + 1 + 1) OUT rfl rfl 22 z32 hr2 iB nB oB ?_)
  (try refine NoPanic.normal ?_)
  go_wp2_with fail
  (try simp only [Exit.inBlock, Exit.then])
  refine bodyPost_ret (results_cell_row rfl _ _ (g + 1 + 1 + 1) _ OUT _ _ rfl (setRow_heap _ _ _ _ _ _ hr2) Try.underlying22 rfl iB) rfl ?_
  exact ⟨rfl, HE.out⟩
set_option maxHeartbeats 3200000 in
theorem scAdd_any (l m : List UInt8) (hl : l.length = 32) (hm : m.length = 32) (w : World) : Calls Try.prog 23 #[.agg (arrB l), .agg (arrB m)] w (RetV w (.agg (bytT ((leN l + leN m) % LL)))) := by
  have hzb := b32_zero
  have HM : Hid (∀ W : World, Calls Try.prog 25 #[.agg (arrB l), .agg (bytT 1), .agg (arrB m)] W (RetV W (.agg (bytT ((leN l + leN m) % LL))))) := Lib.hid fun W => by
    have := scMulAdd_any l (leB 32 1) m hl (leB_len _ _) hm W
    rw [leN_leB 32 1 (by decide), Nat.mul_one] at this
    exact this
  have iL := arr32_info hl
  have iM := arr32_info hm
  have nB := zero32_size (l := leB 32 ((leN l + leN m) % LL)) (leB_len _ _)
  have oB := arrB_one (leB 32 ((leN l + leN m) % LL))
  have iB := arr32_info (leB_len 32 ((leN l + leN m) % LL))
  have hBU : ∀ (a : Act) (o : Oper), o.op = .build 22 #[(0, .const (.int .u8 ((1 : Nat) : Int)))] → ∀ W : World, (execOp (Act.eval a) o).run Try.prog W = .ok (.value (.agg (bytT 1))) W := fun a o ho W => run_build1 1 ho (by kernel_rfl) W
  have HBU := Lib.hid hBU
  clear hBU
  generalize bytT 1 = ONE at *
  unfold bytT at *
  obtain ⟨OUT, hOUT⟩ : ∃ o, arrB (leB 32 ((leN l + leN m) % LL)) = o := ⟨_, rfl⟩
  rw [hOUT] at nB oB iB HM ⊢
  generalize zero32 = z32 at *
  generalize arrB l = LA at *
  generalize arrB m = MA at *
  clear hl hm hOUT
  have hr0 : RowsW (((w.alloc (.cells LA 22)).alloc (.cells MA 22)).alloc (.cells z32 22)) [(w.heap.size + 1 + 1, z32, 22), (w.heap.size + 1, MA, 22), (w.heap.size, LA, 22)] := by
    have h := (((RowsW.nil w).box LA 22).box MA 22).box z32 22
    (try simp only [World.size_alloc] at h)
    exact h
  have hb0 : Below w.heap.size w (((w.alloc (.cells LA 22)).alloc (.cells MA 22)).alloc (.cells z32 22)) := below_alloc (below_alloc (below_alloc (Below.refl _ _) _) _) _
  have HR0 := Lib.hid hr0
  have HB0 := Lib.hid hb0
  clear hr0 hb0
  have hla := HR0.out.tail.tail.head
  have hma := HR0.out.tail.head
  go_enter Try.func23, Try.ntmps23
  go_wp2_with (first
    | (refine wpList_load_row rfl 22 (.tmp 2) rfl w.heap.size rfl 22 LA (0, 0) _ hla Try.underlying22 rfl iL ?_)
    | (refine wpList_load_row rfl 22 (.tmp 3) rfl (w.heap.size + 1) rfl 22 MA (0, 0) _ hma Try.underlying22 rfl iM ?_)
    | (refine wpList_runsV (o := ⟨some 6, _, _, _, _, _⟩) rfl (.agg ONE) (HBU.out _ _ rfl _) ?_))
  with_reducible refine (HM.out _).mono ?_
  rintro e v1 ⟨rfl, hb1⟩
  have hr2 := (HR0.out.below hb1).head
  have HE : Hid (Below w.heap.size w (v1.setRow (w.heap.size + 1 + 1) OUT)) := Lib.hid (below_row (below_next HB0.out hb1) (by omega))
  clear hb1 hla hma
  go_wp2_with (refine wpList_store_row rfl 22 (.tmp 4) (.tmp 8) rfl (w.heap.size + 1 + 1) OUT rfl rfl 22 z32 hr2 iB nB oB ?_)
  (try simp only [Exit.inBlock, Exit.then])
  refine bodyPost_ret (results_cell_row rfl _ _ (w.heap.size + 1 + 1) _ OUT _ _ rfl (setRow_heap _ _ _ _ _ _ hr2) Try.underlying22 rfl iB) rfl ?_
  exact ⟨rfl, HE.out⟩
end Go.Proofs.Ytfejabfmhddepaa

namespace Go.Proofs.Ytfejabfmhddepaa
open Go.RowKit
set_option linter.unusedVariables false
set_option maxRecDepth 100000
theorem sc13 : Sc13C where
  order := scOrder_any
  add := scAdd_any
  mulAdd := scMulAdd_any
end Go.Proofs.Ytfejabfmhddepaa

