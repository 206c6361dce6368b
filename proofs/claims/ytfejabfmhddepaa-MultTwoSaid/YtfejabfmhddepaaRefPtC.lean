/- The reference's points: Decode, Encode. Written by wip/tools/mk_pt12.py. -/
import Derived.Test.YtfejabfmhddepaaRefPtB
namespace Go.Proofs.Ytfejabfmhddepaa
open Go.RowKit
set_option linter.unusedVariables false
set_option maxRecDepth 100000

set_option maxHeartbeats 3200000 in
theorem rdecodeN {l : List UInt8} (hl : l.length = 32) (w : World) : Calls Try.prog 10 #[.agg (arrB l)] w (RetPtB RQ w (decP l) (decF l)) := by
  have HL := Lib.hid hl
  obtain ⟨t, ht⟩ : ∃ t, (l.getD 31 0).toNat = t := ⟨_, rfl⟩
  have htl : t < 256 := by rw [← ht]; exact (l.getD 31 0).toNat_lt
  have HS : Hid (decS l = decide (127 < t)) := Lib.hid (by unfold decS; rw [ht])
  have HT := Lib.hid ht
  clear ht hl
  have hzR := refT_zero
  have hz32 := zero32_zero
  have hzP := refP_zero
  have HR0 := Lib.hid (((RowsW.nil w).box (arrB l) 22).box (refP 0 0 0 0) 33)
  have HB0 := Lib.hid (below_box (below_box (Below.refl w.heap.size w) (arrB l) 22) (refP 0 0 0 0) 33)
  rw [World.size_alloc] at HR0
  go_enter Try.func10, Try.ntmps10
  go_upto_region 1 with fail
  obtain ⟨W0, hW0⟩ : ∃ W, ((w.alloc (.cells (arrB l) 22)).alloc (.cells (refP 0 0 0 0) 33)) = W := ⟨_, rfl⟩
  obtain ⟨g0, hg0⟩ : ∃ g, w.heap.size = g := ⟨_, rfl⟩
  rw [hW0] at HR0 HB0
  rw [hg0] at HR0
  rw [hW0, hg0]
  have HG0 := Lib.hid hg0
  clear hW0 hg0
  have cx : W0.cell? ⟨g0, 31, none⟩ = some (.int .u8 (t : Int)) := by rw [cell_of_row _ _ _ _ _ _ HR0.out.tail.head, arrB_get _ _ (by rw [HL.out]; omega), HT.out]
  by_cases ho : 127 < t
  · have HOD : Hid (decS l = true) := Lib.hid (by rw [HS.out]; exact decide_eq_true ho)
    have d1 : decide ((127 : Int) < (t : Int)) = true := decide_eq_true (by omega)
    clear ho
    go_upto_region 2 with fail
    clear cx d1
    cases hcan : canN l
    · have HCA := Lib.hid hcan
      clear hcan
      have l1 := HR0.out.tail.head
      go_wp2_with (refine wpList_load_row rfl 22 (.tmp 1) rfl g0 rfl 22 (arrB l) (0, 0) _ l1 Try.underlying22 rfl (arr32_info HL.out) ?_)
      have kq2 := fun W : World => (rcanN l HL.out) W
      rw [HCA.out] at kq2
      have Kq2 := Lib.hid kq2
      clear kq2
      with_reducible refine (Kq2.out _).mono ?_
      rintro e vq2 ⟨rfl, hbq2⟩
      have HRq2 := Lib.hid (HR0.out.below hbq2)
      have HBq2 := Lib.hid (below_next HB0.out hbq2)
      clear hbq2
      go_upto_region 3 with fail
      go_wp2_with fail
      with_reducible refine (rzeroN _).mono ?_
      rintro e vq3 ⟨rfl, hbq3⟩
      have HRq3 := Lib.hid (HRq2.out.below hbq3)
      have HBq3 := Lib.hid (below_next HBq2.out hbq3)
      clear hbq3
      have lsq4 := HRq3.out.head
      have HRq4 : Hid (RowsW (vq3.setRow (g0 + 1) (refP 0 1 1 0)) [((g0 + 1), (refP 0 1 1 0), 33), (g0, (arrB l), 22)]) := Lib.hid ⟨setRow_heap _ _ _ _ _ _ lsq4, (by rw [setRow_other _ _ _ _ (by omega)]; exact HRq3.out.tail.head), trivial⟩
      have HBq4 := Lib.hid (below_row (g := (g0 + 1)) (cs := (refP 0 1 1 0)) HBq3.out (by have := HG0.out; omega))
      go_wp2_with (refine wpList_store_row rfl 33 (.tmp 2) (.tmp 14) rfl (g0 + 1) (refP 0 1 1 0) rfl rfl 33 (refP 0 0 0 0) lsq4 (refP_info _ _ _ _) (refP_sizes _ _ _ _ _ _ _ _) (refP_one _ _ _ _) ?_)
      obtain ⟨Wq4, hWq4⟩ : ∃ W, vq3.setRow (g0 + 1) (refP 0 1 1 0) = W := ⟨_, rfl⟩
      rw [hWq4] at HRq4 HBq4
      (try rw [hWq4])
      clear hWq4 lsq4
      (try simp only [Exit.inBlock, Exit.then])
      refine bodyPost_ret (results_ct rfl _ _ (g0 + 1) _ (refP 0 1 1 0) _ _ (.bool false) rfl rfl HRq4.out.head Try.underlying33 rfl (refP_info _ _ _ _)) rfl ?_
      have e2 : decF l = false := decF_can HCA.out
      have e1 := decP_no e2
      exact ⟨_, by rw [e2], by rw [e1]; exact ⟨_, _, _, _, rfl, co_zero⟩, HBq4.out⟩
    · have HCA := Lib.hid hcan
      clear hcan
      have l5 := HR0.out.tail.head
      go_wp2_with (refine wpList_load_row rfl 22 (.tmp 1) rfl g0 rfl 22 (arrB l) (0, 0) _ l5 Try.underlying22 rfl (arr32_info HL.out) ?_)
      have kq6 := fun W : World => (rcanN l HL.out) W
      rw [HCA.out] at kq6
      have Kq6 := Lib.hid kq6
      clear kq6
      with_reducible refine (Kq6.out _).mono ?_
      rintro e vq6 ⟨rfl, hbq6⟩
      have HRq6 := Lib.hid (HR0.out.below hbq6)
      have HBq6 := Lib.hid (below_next HB0.out hbq6)
      clear hbq6
      go_upto_region 4 with fail
      have l7 := HRq6.out.tail.head
      go_wp2_with (refine wpList_load_row rfl 22 (.tmp 1) rfl g0 rfl 22 (arrB l) (0, 0) _ l7 Try.underlying22 rfl (arr32_info HL.out) ?_)
      obtain ⟨n8, hn8⟩ : ∃ x_ : Nat, feN l = x_ := ⟨_, rfl⟩
      have Hn8 := Lib.hid hn8
      have HLn8 : Hid (n8 < PP) := Lib.hid (by rw [← hn8]; exact Nat.mod_lt _ (by decide))
      clear hn8
      have kq9 := fun W : World => (rfromN l HL.out) W
      rw [Hn8.out] at kq9
      have Kq9 := Lib.hid kq9
      clear kq9
      with_reducible refine (Kq9.out _).mono ?_
      rintro e vq9 ⟨rfl, hbq9⟩
      have HRq9 := Lib.hid (HRq6.out.below hbq9)
      have HBq9 := Lib.hid (below_next HBq6.out hbq9)
      clear hbq9
      have h0q10 : (vq9.alloc (.cells (refT 0) 31)).heap[vq9.heap.size]? = some (.cells (refT 0) 31 (0, 0)) := heap_alloc_new _ _
      have HRq10 := Lib.hid (HRq9.out.new (refT 0) (refT n8) 31)
      have HBq10 := Lib.hid (below_new HBq9.out (refT 0) (refT n8) 31)
      have HNq10 := Lib.hid HRq9.out.ne
      have HGq10 := Lib.hid HBq9.out.size
      go_upto_region 5 with (refine wpList_store_row rfl 31 (.tmp 5) (.tmp 16) rfl vq9.heap.size (refT n8) rfl rfl 31 (refT 0) h0q10 (refT_info _) (refT_size _ _) (refT_one _) ?_)
      obtain ⟨Wq10, hWq10⟩ : ∃ W, (vq9.alloc (.cells (refT 0) 31)).setRow vq9.heap.size (refT n8) = W := ⟨_, rfl⟩
      obtain ⟨gq10, hgq10⟩ : ∃ g, vq9.heap.size = g := ⟨_, rfl⟩
      rw [hWq10, hgq10] at HRq10
      rw [hWq10] at HBq10
      rw [hgq10] at HNq10 HGq10
      rw [hWq10, hgq10]
      clear hWq10 hgq10 h0q10
      have NEq10_0 : Hid (g0 ≠ gq10) := Lib.hid (HNq10.out (g0, (arrB l), 22) (by simp))
      have NEq10_1 : Hid ((g0 + 1) ≠ gq10) := Lib.hid (HNq10.out ((g0 + 1), (refP 0 0 0 0), 33) (by simp))
      obtain ⟨n11, hn11⟩ : ∃ y : Nat, ratN (upN n8) (dnN n8) = y := ⟨_, rfl⟩
      have Hn11 := Lib.hid hn11
      have HLn11 : Hid (n11 < PP) := Lib.hid (by rw [← hn11]; exact ratN_lt _ _)
      clear hn11
      cases hfi : fineN (upN n8) (dnN n8)
      · have HFI := Lib.hid hfi
        clear hfi
        have l12 := HRq10.out.head
        go_wp2_with (refine wpList_load_row rfl 31 (.tmp 5) rfl gq10 rfl 31 (refT n8) (0, 0) _ l12 Try.underlying31 rfl (refT_info _) ?_)
        have Ht13 : Hid (fineN (upN n8) (dnN n8) = false) := Lib.hid HFI.out
        have kq14 := fun W : World => (rxofN HLn8.out) W
        rw [Hn11.out, Ht13.out] at kq14
        have Kq14 := Lib.hid kq14
        clear kq14
        with_reducible refine (Kq14.out _).mono ?_
        rintro e vq14 ⟨rfl, hbq14⟩
        have HRq14 := Lib.hid (HRq10.out.below hbq14)
        have HBq14 := Lib.hid (below_next HBq10.out hbq14)
        clear hbq14
        have h0q15 : (vq14.alloc (.cells (refT 0) 31)).heap[vq14.heap.size]? = some (.cells (refT 0) 31 (0, 0)) := heap_alloc_new _ _
        have HRq15 := Lib.hid (HRq14.out.new (refT 0) (refT n11) 31)
        have HBq15 := Lib.hid (below_new HBq14.out (refT 0) (refT n11) 31)
        have HNq15 := Lib.hid HRq14.out.ne
        have HGq15 := Lib.hid HBq14.out.size
        go_upto_region 6 with (refine wpList_store_row rfl 31 (.tmp 6) (.tmp 20) rfl vq14.heap.size (refT n11) rfl rfl 31 (refT 0) h0q15 (refT_info _) (refT_size _ _) (refT_one _) ?_)
        obtain ⟨Wq15, hWq15⟩ : ∃ W, (vq14.alloc (.cells (refT 0) 31)).setRow vq14.heap.size (refT n11) = W := ⟨_, rfl⟩
        obtain ⟨gq15, hgq15⟩ : ∃ g, vq14.heap.size = g := ⟨_, rfl⟩
        rw [hWq15, hgq15] at HRq15
        rw [hWq15] at HBq15
        rw [hgq15] at HNq15 HGq15
        rw [hWq15, hgq15]
        clear hWq15 hgq15 h0q15
        have NEq15_0 : Hid (g0 ≠ gq15) := Lib.hid (HNq15.out (g0, (arrB l), 22) (by simp))
        have NEq15_1 : Hid ((g0 + 1) ≠ gq15) := Lib.hid (HNq15.out ((g0 + 1), (refP 0 0 0 0), 33) (by simp))
        have NEq15_2 : Hid (gq10 ≠ gq15) := Lib.hid (HNq15.out (gq10, (refT n8), 31) (by simp))
        go_upto_region 7 with fail
        go_wp2_with fail
        with_reducible refine (rzeroN _).mono ?_
        rintro e vq16 ⟨rfl, hbq16⟩
        have HRq16 := Lib.hid (HRq15.out.below hbq16)
        have HBq16 := Lib.hid (below_next HBq15.out hbq16)
        clear hbq16
        have lsq17 := HRq16.out.tail.tail.head
        have HRq17 : Hid (RowsW (vq16.setRow (g0 + 1) (refP 0 1 1 0)) [(gq15, (refT n11), 31), (gq10, (refT n8), 31), ((g0 + 1), (refP 0 1 1 0), 33), (g0, (arrB l), 22)]) := Lib.hid ⟨(by rw [setRow_other _ _ _ _ (Ne.symm NEq15_1.out)]; exact HRq16.out.head), (by rw [setRow_other _ _ _ _ (Ne.symm NEq10_1.out)]; exact HRq16.out.tail.head), setRow_heap _ _ _ _ _ _ lsq17, (by rw [setRow_other _ _ _ _ (by omega)]; exact HRq16.out.tail.tail.tail.head), trivial⟩
        have HBq17 := Lib.hid (below_row (g := (g0 + 1)) (cs := (refP 0 1 1 0)) HBq16.out (by have := HG0.out; omega))
        go_wp2_with (refine wpList_store_row rfl 33 (.tmp 2) (.tmp 32) rfl (g0 + 1) (refP 0 1 1 0) rfl rfl 33 (refP 0 0 0 0) lsq17 (refP_info _ _ _ _) (refP_sizes _ _ _ _ _ _ _ _) (refP_one _ _ _ _) ?_)
        obtain ⟨Wq17, hWq17⟩ : ∃ W, vq16.setRow (g0 + 1) (refP 0 1 1 0) = W := ⟨_, rfl⟩
        rw [hWq17] at HRq17 HBq17
        (try rw [hWq17])
        clear hWq17 lsq17
        (try simp only [Exit.inBlock, Exit.then])
        refine bodyPost_ret (results_ct rfl _ _ (g0 + 1) _ (refP 0 1 1 0) _ _ (.bool false) rfl rfl HRq17.out.tail.tail.head Try.underlying33 rfl (refP_info _ _ _ _)) rfl ?_
        have e2 : decF l = false := decF_fine (by rw [Hn8.out]; exact HFI.out)
        have e1 := decP_no e2
        exact ⟨_, by rw [e2], by rw [e1]; exact ⟨_, _, _, _, rfl, co_zero⟩, HBq17.out⟩
      · have HFI := Lib.hid hfi
        clear hfi
        have l18 := HRq10.out.head
        go_wp2_with (refine wpList_load_row rfl 31 (.tmp 5) rfl gq10 rfl 31 (refT n8) (0, 0) _ l18 Try.underlying31 rfl (refT_info _) ?_)
        have Ht19 : Hid (fineN (upN n8) (dnN n8) = true) := Lib.hid HFI.out
        have kq20 := fun W : World => (rxofN HLn8.out) W
        rw [Hn11.out, Ht19.out] at kq20
        have Kq20 := Lib.hid kq20
        clear kq20
        with_reducible refine (Kq20.out _).mono ?_
        rintro e vq20 ⟨rfl, hbq20⟩
        have HRq20 := Lib.hid (HRq10.out.below hbq20)
        have HBq20 := Lib.hid (below_next HBq10.out hbq20)
        clear hbq20
        have h0q21 : (vq20.alloc (.cells (refT 0) 31)).heap[vq20.heap.size]? = some (.cells (refT 0) 31 (0, 0)) := heap_alloc_new _ _
        have HRq21 := Lib.hid (HRq20.out.new (refT 0) (refT n11) 31)
        have HBq21 := Lib.hid (below_new HBq20.out (refT 0) (refT n11) 31)
        have HNq21 := Lib.hid HRq20.out.ne
        have HGq21 := Lib.hid HBq20.out.size
        go_upto_region 6 with (refine wpList_store_row rfl 31 (.tmp 6) (.tmp 20) rfl vq20.heap.size (refT n11) rfl rfl 31 (refT 0) h0q21 (refT_info _) (refT_size _ _) (refT_one _) ?_)
        obtain ⟨Wq21, hWq21⟩ : ∃ W, (vq20.alloc (.cells (refT 0) 31)).setRow vq20.heap.size (refT n11) = W := ⟨_, rfl⟩
        obtain ⟨gq21, hgq21⟩ : ∃ g, vq20.heap.size = g := ⟨_, rfl⟩
        rw [hWq21, hgq21] at HRq21
        rw [hWq21] at HBq21
        rw [hgq21] at HNq21 HGq21
        rw [hWq21, hgq21]
        clear hWq21 hgq21 h0q21
        have NEq21_0 : Hid (g0 ≠ gq21) := Lib.hid (HNq21.out (g0, (arrB l), 22) (by simp))
        have NEq21_1 : Hid ((g0 + 1) ≠ gq21) := Lib.hid (HNq21.out ((g0 + 1), (refP 0 0 0 0), 33) (by simp))
        have NEq21_2 : Hid (gq10 ≠ gq21) := Lib.hid (HNq21.out (gq10, (refT n8), 31) (by simp))
        by_cases hx0 : n11 = 0
        · have HX0 := Lib.hid hx0
          clear hx0
          have l22 := HRq21.out.head
          go_upto_region 7 with (first
              | (refine wpList_runsV (o := ⟨some 25, _, _, _, _, _⟩) rfl (.agg (refT n11)) (run_loadR rfl rfl l22 Try.underlying31 rfl (refT_info _)) ?_)
              | (refine wpList_runsV (o := ⟨some 27, _, _, _, _, _⟩) rfl (.bool true) (run_eql2 rfl rfl rfl guardR (eqRefT HLn11.out (show 0 < PP by decide) (HX0.out) _)) ?_))
          go_wp2_with fail
          with_reducible refine (rzeroN _).mono ?_
          rintro e vq23 ⟨rfl, hbq23⟩
          have HRq23 := Lib.hid (HRq21.out.below hbq23)
          have HBq23 := Lib.hid (below_next HBq21.out hbq23)
          clear hbq23
          have lsq24 := HRq23.out.tail.tail.head
          have HRq24 : Hid (RowsW (vq23.setRow (g0 + 1) (refP 0 1 1 0)) [(gq21, (refT n11), 31), (gq10, (refT n8), 31), ((g0 + 1), (refP 0 1 1 0), 33), (g0, (arrB l), 22)]) := Lib.hid ⟨(by rw [setRow_other _ _ _ _ (Ne.symm NEq21_1.out)]; exact HRq23.out.head), (by rw [setRow_other _ _ _ _ (Ne.symm NEq10_1.out)]; exact HRq23.out.tail.head), setRow_heap _ _ _ _ _ _ lsq24, (by rw [setRow_other _ _ _ _ (by omega)]; exact HRq23.out.tail.tail.tail.head), trivial⟩
          have HBq24 := Lib.hid (below_row (g := (g0 + 1)) (cs := (refP 0 1 1 0)) HBq23.out (by have := HG0.out; omega))
          go_wp2_with (refine wpList_store_row rfl 33 (.tmp 2) (.tmp 32) rfl (g0 + 1) (refP 0 1 1 0) rfl rfl 33 (refP 0 0 0 0) lsq24 (refP_info _ _ _ _) (refP_sizes _ _ _ _ _ _ _ _) (refP_one _ _ _ _) ?_)
          obtain ⟨Wq24, hWq24⟩ : ∃ W, vq23.setRow (g0 + 1) (refP 0 1 1 0) = W := ⟨_, rfl⟩
          rw [hWq24] at HRq24 HBq24
          (try rw [hWq24])
          clear hWq24 lsq24
          (try simp only [Exit.inBlock, Exit.then])
          refine bodyPost_ret (results_ct rfl _ _ (g0 + 1) _ (refP 0 1 1 0) _ _ (.bool false) rfl rfl HRq24.out.tail.tail.head Try.underlying33 rfl (refP_info _ _ _ _)) rfl ?_
          have e2 : decF l = false := decF_sign (by rw [(show ratN (upN (feN l)) (dnN (feN l)) = n11 by rw [Hn8.out, Hn11.out])]; exact HX0.out) HOD.out
          have e1 := decP_no e2
          exact ⟨_, by rw [e2], by rw [e1]; exact ⟨_, _, _, _, rfl, co_zero⟩, HBq24.out⟩
        · have HX0 := Lib.hid hx0
          clear hx0
          have l25 := HRq21.out.head
          go_upto_region 8 with (first
              | (refine wpList_runsV (o := ⟨some 25, _, _, _, _, _⟩) rfl (.agg (refT n11)) (run_loadR rfl rfl l25 Try.underlying31 rfl (refT_info _)) ?_)
              | (refine wpList_runsV (o := ⟨some 27, _, _, _, _, _⟩) rfl (.bool false) (run_eql2 rfl rfl rfl guardR (eqRefF HLn11.out (show 0 < PP by decide) (HX0.out) _)) ?_))
          go_upto_region 9 with fail
          have l26 := HRq21.out.head
          go_wp2_with (refine wpList_load_row rfl 31 (.tmp 6) rfl gq21 rfl 31 (refT n11) (0, 0) _ l26 Try.underlying31 rfl (refT_info _) ?_)
          obtain ⟨n27, hn27⟩ : ∃ x_ : Nat, (PP - n11) % PP = x_ := ⟨_, rfl⟩
          have Hn27 := Lib.hid hn27
          have HLn27 : Hid (n27 < PP) := Lib.hid (by rw [← hn27]; exact Nat.mod_lt _ (by decide))
          clear hn27
          have kq28 := fun W : World => (rnegN HLn11.out) W
          rw [Hn27.out] at kq28
          have Kq28 := Lib.hid kq28
          clear kq28
          with_reducible refine (Kq28.out _).mono ?_
          rintro e vq28 ⟨rfl, hbq28⟩
          have HRq28 := Lib.hid (HRq21.out.below hbq28)
          have HBq28 := Lib.hid (below_next HBq21.out hbq28)
          clear hbq28
          have lsq29 := HRq28.out.head
          have HRq29 : Hid (RowsW (vq28.setRow gq21 (refT n27)) [(gq21, (refT n27), 31), (gq10, (refT n8), 31), ((g0 + 1), (refP 0 0 0 0), 33), (g0, (arrB l), 22)]) := Lib.hid ⟨setRow_heap _ _ _ _ _ _ lsq29, (by rw [setRow_other _ _ _ _ NEq21_2.out]; exact HRq28.out.tail.head), (by rw [setRow_other _ _ _ _ NEq21_1.out]; exact HRq28.out.tail.tail.head), (by rw [setRow_other _ _ _ _ NEq21_0.out]; exact HRq28.out.tail.tail.tail.head), trivial⟩
          have HBq29 := Lib.hid (below_row (g := gq21) (cs := (refT n27)) HBq28.out HGq21.out)
          go_upto_region 10 with (refine wpList_store_row rfl 31 (.tmp 6) (.tmp 35) rfl gq21 (refT n27) rfl rfl 31 (refT n11) lsq29 (refT_info _) (refT_size _ _) (refT_one _) ?_)
          obtain ⟨Wq29, hWq29⟩ : ∃ W, vq28.setRow gq21 (refT n27) = W := ⟨_, rfl⟩
          rw [hWq29] at HRq29 HBq29
          (try rw [hWq29])
          clear hWq29 lsq29
          have l30 := HRq29.out.head
          have l31 := HRq29.out.tail.head
          go_wp2_with (first
              | (refine wpList_load_row rfl 31 (.tmp 6) rfl gq21 rfl 31 (refT n27) (0, 0) _ l30 Try.underlying31 rfl (refT_info _) ?_)
              | (refine wpList_load_row rfl 31 (.tmp 5) rfl gq10 rfl 31 (refT n8) (0, 0) _ l31 Try.underlying31 rfl (refT_info _) ?_))
          obtain ⟨n32, hn32⟩ : ∃ x_ : Nat, (n27 * n8) % PP = x_ := ⟨_, rfl⟩
          have Hn32 := Lib.hid hn32
          have HLn32 : Hid (n32 < PP) := Lib.hid (by rw [← hn32]; exact Nat.mod_lt _ (by decide))
          clear hn32
          have kq33 := fun W : World => (rofN HLn27.out HLn8.out) W
          rw [Hn32.out] at kq33
          have Kq33 := Lib.hid kq33
          clear kq33
          with_reducible refine (Kq33.out _).mono ?_
          rintro e vq33 ⟨rfl, hbq33⟩
          have HRq33 := Lib.hid (HRq29.out.below hbq33)
          have HBq33 := Lib.hid (below_next HBq29.out hbq33)
          clear hbq33
          have lsq34 := HRq33.out.tail.tail.head
          have HRq34 : Hid (RowsW (vq33.setRow (g0 + 1) (refP n27 n8 1 n32)) [(gq21, (refT n27), 31), (gq10, (refT n8), 31), ((g0 + 1), (refP n27 n8 1 n32), 33), (g0, (arrB l), 22)]) := Lib.hid ⟨(by rw [setRow_other _ _ _ _ (Ne.symm NEq21_1.out)]; exact HRq33.out.head), (by rw [setRow_other _ _ _ _ (Ne.symm NEq10_1.out)]; exact HRq33.out.tail.head), setRow_heap _ _ _ _ _ _ lsq34, (by rw [setRow_other _ _ _ _ (by omega)]; exact HRq33.out.tail.tail.tail.head), trivial⟩
          have HBq34 := Lib.hid (below_row (g := (g0 + 1)) (cs := (refP n27 n8 1 n32)) HBq33.out (by have := HG0.out; omega))
          go_wp2_with (refine wpList_store_row rfl 33 (.tmp 2) (.tmp 38) rfl (g0 + 1) (refP n27 n8 1 n32) rfl rfl 33 (refP 0 0 0 0) lsq34 (refP_info _ _ _ _) (refP_sizes _ _ _ _ _ _ _ _) (refP_one _ _ _ _) ?_)
          obtain ⟨Wq34, hWq34⟩ : ∃ W, vq33.setRow (g0 + 1) (refP n27 n8 1 n32) = W := ⟨_, rfl⟩
          rw [hWq34] at HRq34 HBq34
          (try rw [hWq34])
          clear hWq34 lsq34
          (try simp only [Exit.inBlock, Exit.then])
          refine bodyPost_ret (results_ct rfl _ _ (g0 + 1) _ (refP n27 n8 1 n32) _ _ (.bool true) rfl rfl HRq34.out.tail.tail.head Try.underlying33 rfl (refP_info _ _ _ _)) rfl ?_
          have e2 : decF l = true := decF_of HCA.out (by rw [Hn8.out]; exact HFI.out) (by rw [(show ratN (upN (feN l)) (dnN (feN l)) = n11 by rw [Hn8.out, Hn11.out])]; intro e; exact absurd e HX0.out)
          have ex : decX l = n27 := by unfold decX; rw [(show ratN (upN (feN l)) (dnN (feN l)) = n11 by rw [Hn8.out, Hn11.out]), HOD.out, ← Hn27.out]; rfl
          obtain ⟨ea, eb⟩ := decP_xy e2
          rw [ex] at ea
          rw [Hn8.out] at eb
          exact ⟨_, by rw [e2], ⟨_, _, _, _, rfl, by rw [← Hn32.out]; exact co_of ea eb⟩, HBq34.out⟩
  · have HOD : Hid (decS l = false) := Lib.hid (by rw [HS.out]; exact decide_eq_false ho)
    have d1 : decide ((127 : Int) < (t : Int)) = false := decide_eq_false (by omega)
    clear ho
    go_upto_region 2 with fail
    clear cx d1
    cases hcan : canN l
    · have HCA := Lib.hid hcan
      clear hcan
      have l35 := HR0.out.tail.head
      go_wp2_with (refine wpList_load_row rfl 22 (.tmp 1) rfl g0 rfl 22 (arrB l) (0, 0) _ l35 Try.underlying22 rfl (arr32_info HL.out) ?_)
      have kq36 := fun W : World => (rcanN l HL.out) W
      rw [HCA.out] at kq36
      have Kq36 := Lib.hid kq36
      clear kq36
      with_reducible refine (Kq36.out _).mono ?_
      rintro e vq36 ⟨rfl, hbq36⟩
      have HRq36 := Lib.hid (HR0.out.below hbq36)
      have HBq36 := Lib.hid (below_next HB0.out hbq36)
      clear hbq36
      go_upto_region 3 with fail
      go_wp2_with fail
      with_reducible refine (rzeroN _).mono ?_
      rintro e vq37 ⟨rfl, hbq37⟩
      have HRq37 := Lib.hid (HRq36.out.below hbq37)
      have HBq37 := Lib.hid (below_next HBq36.out hbq37)
      clear hbq37
      have lsq38 := HRq37.out.head
      have HRq38 : Hid (RowsW (vq37.setRow (g0 + 1) (refP 0 1 1 0)) [((g0 + 1), (refP 0 1 1 0), 33), (g0, (arrB l), 22)]) := Lib.hid ⟨setRow_heap _ _ _ _ _ _ lsq38, (by rw [setRow_other _ _ _ _ (by omega)]; exact HRq37.out.tail.head), trivial⟩
      have HBq38 := Lib.hid (below_row (g := (g0 + 1)) (cs := (refP 0 1 1 0)) HBq37.out (by have := HG0.out; omega))
      go_wp2_with (refine wpList_store_row rfl 33 (.tmp 2) (.tmp 14) rfl (g0 + 1) (refP 0 1 1 0) rfl rfl 33 (refP 0 0 0 0) lsq38 (refP_info _ _ _ _) (refP_sizes _ _ _ _ _ _ _ _) (refP_one _ _ _ _) ?_)
      obtain ⟨Wq38, hWq38⟩ : ∃ W, vq37.setRow (g0 + 1) (refP 0 1 1 0) = W := ⟨_, rfl⟩
      rw [hWq38] at HRq38 HBq38
      (try rw [hWq38])
      clear hWq38 lsq38
      (try simp only [Exit.inBlock, Exit.then])
      refine bodyPost_ret (results_ct rfl _ _ (g0 + 1) _ (refP 0 1 1 0) _ _ (.bool false) rfl rfl HRq38.out.head Try.underlying33 rfl (refP_info _ _ _ _)) rfl ?_
      have e2 : decF l = false := decF_can HCA.out
      have e1 := decP_no e2
      exact ⟨_, by rw [e2], by rw [e1]; exact ⟨_, _, _, _, rfl, co_zero⟩, HBq38.out⟩
    · have HCA := Lib.hid hcan
      clear hcan
      have l39 := HR0.out.tail.head
      go_wp2_with (refine wpList_load_row rfl 22 (.tmp 1) rfl g0 rfl 22 (arrB l) (0, 0) _ l39 Try.underlying22 rfl (arr32_info HL.out) ?_)
      have kq40 := fun W : World => (rcanN l HL.out) W
      rw [HCA.out] at kq40
      have Kq40 := Lib.hid kq40
      clear kq40
      with_reducible refine (Kq40.out _).mono ?_
      rintro e vq40 ⟨rfl, hbq40⟩
      have HRq40 := Lib.hid (HR0.out.below hbq40)
      have HBq40 := Lib.hid (below_next HB0.out hbq40)
      clear hbq40
      go_upto_region 4 with fail
      have l41 := HRq40.out.tail.head
      go_wp2_with (refine wpList_load_row rfl 22 (.tmp 1) rfl g0 rfl 22 (arrB l) (0, 0) _ l41 Try.underlying22 rfl (arr32_info HL.out) ?_)
      obtain ⟨n42, hn42⟩ : ∃ x_ : Nat, feN l = x_ := ⟨_, rfl⟩
      have Hn42 := Lib.hid hn42
      have HLn42 : Hid (n42 < PP) := Lib.hid (by rw [← hn42]; exact Nat.mod_lt _ (by decide))
      clear hn42
      have kq43 := fun W : World => (rfromN l HL.out) W
      rw [Hn42.out] at kq43
      have Kq43 := Lib.hid kq43
      clear kq43
      with_reducible refine (Kq43.out _).mono ?_
      rintro e vq43 ⟨rfl, hbq43⟩
      have HRq43 := Lib.hid (HRq40.out.below hbq43)
      have HBq43 := Lib.hid (below_next HBq40.out hbq43)
      clear hbq43
      have h0q44 : (vq43.alloc (.cells (refT 0) 31)).heap[vq43.heap.size]? = some (.cells (refT 0) 31 (0, 0)) := heap_alloc_new _ _
      have HRq44 := Lib.hid (HRq43.out.new (refT 0) (refT n42) 31)
      have HBq44 := Lib.hid (below_new HBq43.out (refT 0) (refT n42) 31)
      have HNq44 := Lib.hid HRq43.out.ne
      have HGq44 := Lib.hid HBq43.out.size
      go_upto_region 5 with (refine wpList_store_row rfl 31 (.tmp 5) (.tmp 16) rfl vq43.heap.size (refT n42) rfl rfl 31 (refT 0) h0q44 (refT_info _) (refT_size _ _) (refT_one _) ?_)
      obtain ⟨Wq44, hWq44⟩ : ∃ W, (vq43.alloc (.cells (refT 0) 31)).setRow vq43.heap.size (refT n42) = W := ⟨_, rfl⟩
      obtain ⟨gq44, hgq44⟩ : ∃ g, vq43.heap.size = g := ⟨_, rfl⟩
      rw [hWq44, hgq44] at HRq44
      rw [hWq44] at HBq44
      rw [hgq44] at HNq44 HGq44
      rw [hWq44, hgq44]
      clear hWq44 hgq44 h0q44
      have NEq44_0 : Hid (g0 ≠ gq44) := Lib.hid (HNq44.out (g0, (arrB l), 22) (by simp))
      have NEq44_1 : Hid ((g0 + 1) ≠ gq44) := Lib.hid (HNq44.out ((g0 + 1), (refP 0 0 0 0), 33) (by simp))
      obtain ⟨n45, hn45⟩ : ∃ y : Nat, ratN (upN n42) (dnN n42) = y := ⟨_, rfl⟩
      have Hn45 := Lib.hid hn45
      have HLn45 : Hid (n45 < PP) := Lib.hid (by rw [← hn45]; exact ratN_lt _ _)
      clear hn45
      cases hfi : fineN (upN n42) (dnN n42)
      · have HFI := Lib.hid hfi
        clear hfi
        have l46 := HRq44.out.head
        go_wp2_with (refine wpList_load_row rfl 31 (.tmp 5) rfl gq44 rfl 31 (refT n42) (0, 0) _ l46 Try.underlying31 rfl (refT_info _) ?_)
        have Ht47 : Hid (fineN (upN n42) (dnN n42) = false) := Lib.hid HFI.out
        have kq48 := fun W : World => (rxofN HLn42.out) W
        rw [Hn45.out, Ht47.out] at kq48
        have Kq48 := Lib.hid kq48
        clear kq48
        with_reducible refine (Kq48.out _).mono ?_
        rintro e vq48 ⟨rfl, hbq48⟩
        have HRq48 := Lib.hid (HRq44.out.below hbq48)
        have HBq48 := Lib.hid (below_next HBq44.out hbq48)
        clear hbq48
        have h0q49 : (vq48.alloc (.cells (refT 0) 31)).heap[vq48.heap.size]? = some (.cells (refT 0) 31 (0, 0)) := heap_alloc_new _ _
        have HRq49 := Lib.hid (HRq48.out.new (refT 0) (refT n45) 31)
        have HBq49 := Lib.hid (below_new HBq48.out (refT 0) (refT n45) 31)
        have HNq49 := Lib.hid HRq48.out.ne
        have HGq49 := Lib.hid HBq48.out.size
        go_upto_region 6 with (refine wpList_store_row rfl 31 (.tmp 6) (.tmp 20) rfl vq48.heap.size (refT n45) rfl rfl 31 (refT 0) h0q49 (refT_info _) (refT_size _ _) (refT_one _) ?_)
        obtain ⟨Wq49, hWq49⟩ : ∃ W, (vq48.alloc (.cells (refT 0) 31)).setRow vq48.heap.size (refT n45) = W := ⟨_, rfl⟩
        obtain ⟨gq49, hgq49⟩ : ∃ g, vq48.heap.size = g := ⟨_, rfl⟩
        rw [hWq49, hgq49] at HRq49
        rw [hWq49] at HBq49
        rw [hgq49] at HNq49 HGq49
        rw [hWq49, hgq49]
        clear hWq49 hgq49 h0q49
        have NEq49_0 : Hid (g0 ≠ gq49) := Lib.hid (HNq49.out (g0, (arrB l), 22) (by simp))
        have NEq49_1 : Hid ((g0 + 1) ≠ gq49) := Lib.hid (HNq49.out ((g0 + 1), (refP 0 0 0 0), 33) (by simp))
        have NEq49_2 : Hid (gq44 ≠ gq49) := Lib.hid (HNq49.out (gq44, (refT n42), 31) (by simp))
        go_upto_region 7 with fail
        go_wp2_with fail
        with_reducible refine (rzeroN _).mono ?_
        rintro e vq50 ⟨rfl, hbq50⟩
        have HRq50 := Lib.hid (HRq49.out.below hbq50)
        have HBq50 := Lib.hid (below_next HBq49.out hbq50)
        clear hbq50
        have lsq51 := HRq50.out.tail.tail.head
        have HRq51 : Hid (RowsW (vq50.setRow (g0 + 1) (refP 0 1 1 0)) [(gq49, (refT n45), 31), (gq44, (refT n42), 31), ((g0 + 1), (refP 0 1 1 0), 33), (g0, (arrB l), 22)]) := Lib.hid ⟨(by rw [setRow_other _ _ _ _ (Ne.symm NEq49_1.out)]; exact HRq50.out.head), (by rw [setRow_other _ _ _ _ (Ne.symm NEq44_1.out)]; exact HRq50.out.tail.head), setRow_heap _ _ _ _ _ _ lsq51, (by rw [setRow_other _ _ _ _ (by omega)]; exact HRq50.out.tail.tail.tail.head), trivial⟩
        have HBq51 := Lib.hid (below_row (g := (g0 + 1)) (cs := (refP 0 1 1 0)) HBq50.out (by have := HG0.out; omega))
        go_wp2_with (refine wpList_store_row rfl 33 (.tmp 2) (.tmp 32) rfl (g0 + 1) (refP 0 1 1 0) rfl rfl 33 (refP 0 0 0 0) lsq51 (refP_info _ _ _ _) (refP_sizes _ _ _ _ _ _ _ _) (refP_one _ _ _ _) ?_)
        obtain ⟨Wq51, hWq51⟩ : ∃ W, vq50.setRow (g0 + 1) (refP 0 1 1 0) = W := ⟨_, rfl⟩
        rw [hWq51] at HRq51 HBq51
        (try rw [hWq51])
        clear hWq51 lsq51
        (try simp only [Exit.inBlock, Exit.then])
        refine bodyPost_ret (results_ct rfl _ _ (g0 + 1) _ (refP 0 1 1 0) _ _ (.bool false) rfl rfl HRq51.out.tail.tail.head Try.underlying33 rfl (refP_info _ _ _ _)) rfl ?_
        have e2 : decF l = false := decF_fine (by rw [Hn42.out]; exact HFI.out)
        have e1 := decP_no e2
        exact ⟨_, by rw [e2], by rw [e1]; exact ⟨_, _, _, _, rfl, co_zero⟩, HBq51.out⟩
      · have HFI := Lib.hid hfi
        clear hfi
        have l52 := HRq44.out.head
        go_wp2_with (refine wpList_load_row rfl 31 (.tmp 5) rfl gq44 rfl 31 (refT n42) (0, 0) _ l52 Try.underlying31 rfl (refT_info _) ?_)
        have Ht53 : Hid (fineN (upN n42) (dnN n42) = true) := Lib.hid HFI.out
        have kq54 := fun W : World => (rxofN HLn42.out) W
        rw [Hn45.out, Ht53.out] at kq54
        have Kq54 := Lib.hid kq54
        clear kq54
        with_reducible refine (Kq54.out _).mono ?_
        rintro e vq54 ⟨rfl, hbq54⟩
        have HRq54 := Lib.hid (HRq44.out.below hbq54)
        have HBq54 := Lib.hid (below_next HBq44.out hbq54)
        clear hbq54
        have h0q55 : (vq54.alloc (.cells (refT 0) 31)).heap[vq54.heap.size]? = some (.cells (refT 0) 31 (0, 0)) := heap_alloc_new _ _
        have HRq55 := Lib.hid (HRq54.out.new (refT 0) (refT n45) 31)
        have HBq55 := Lib.hid (below_new HBq54.out (refT 0) (refT n45) 31)
        have HNq55 := Lib.hid HRq54.out.ne
        have HGq55 := Lib.hid HBq54.out.size
        go_upto_region 6 with (refine wpList_store_row rfl 31 (.tmp 6) (.tmp 20) rfl vq54.heap.size (refT n45) rfl rfl 31 (refT 0) h0q55 (refT_info _) (refT_size _ _) (refT_one _) ?_)
        obtain ⟨Wq55, hWq55⟩ : ∃ W, (vq54.alloc (.cells (refT 0) 31)).setRow vq54.heap.size (refT n45) = W := ⟨_, rfl⟩
        obtain ⟨gq55, hgq55⟩ : ∃ g, vq54.heap.size = g := ⟨_, rfl⟩
        rw [hWq55, hgq55] at HRq55
        rw [hWq55] at HBq55
        rw [hgq55] at HNq55 HGq55
        rw [hWq55, hgq55]
        clear hWq55 hgq55 h0q55
        have NEq55_0 : Hid (g0 ≠ gq55) := Lib.hid (HNq55.out (g0, (arrB l), 22) (by simp))
        have NEq55_1 : Hid ((g0 + 1) ≠ gq55) := Lib.hid (HNq55.out ((g0 + 1), (refP 0 0 0 0), 33) (by simp))
        have NEq55_2 : Hid (gq44 ≠ gq55) := Lib.hid (HNq55.out (gq44, (refT n42), 31) (by simp))
        by_cases hx0 : n45 = 0
        · have HX0 := Lib.hid hx0
          clear hx0
          have l56 := HRq55.out.head
          go_upto_region 8 with (first
              | (refine wpList_runsV (o := ⟨some 25, _, _, _, _, _⟩) rfl (.agg (refT n45)) (run_loadR rfl rfl l56 Try.underlying31 rfl (refT_info _)) ?_)
              | (refine wpList_runsV (o := ⟨some 27, _, _, _, _, _⟩) rfl (.bool true) (run_eql2 rfl rfl rfl guardR (eqRefT HLn45.out (show 0 < PP by decide) (HX0.out) _)) ?_))
          go_upto_region 10 with fail
          have l57 := HRq55.out.head
          have l58 := HRq55.out.tail.head
          go_wp2_with (first
              | (refine wpList_load_row rfl 31 (.tmp 6) rfl gq55 rfl 31 (refT n45) (0, 0) _ l57 Try.underlying31 rfl (refT_info _) ?_)
              | (refine wpList_load_row rfl 31 (.tmp 5) rfl gq44 rfl 31 (refT n42) (0, 0) _ l58 Try.underlying31 rfl (refT_info _) ?_))
          obtain ⟨n59, hn59⟩ : ∃ x_ : Nat, (n45 * n42) % PP = x_ := ⟨_, rfl⟩
          have Hn59 := Lib.hid hn59
          have HLn59 : Hid (n59 < PP) := Lib.hid (by rw [← hn59]; exact Nat.mod_lt _ (by decide))
          clear hn59
          have kq60 := fun W : World => (rofN HLn45.out HLn42.out) W
          rw [Hn59.out] at kq60
          have Kq60 := Lib.hid kq60
          clear kq60
          with_reducible refine (Kq60.out _).mono ?_
          rintro e vq60 ⟨rfl, hbq60⟩
          have HRq60 := Lib.hid (HRq55.out.below hbq60)
          have HBq60 := Lib.hid (below_next HBq55.out hbq60)
          clear hbq60
          have lsq61 := HRq60.out.tail.tail.head
          have HRq61 : Hid (RowsW (vq60.setRow (g0 + 1) (refP n45 n42 1 n59)) [(gq55, (refT n45), 31), (gq44, (refT n42), 31), ((g0 + 1), (refP n45 n42 1 n59), 33), (g0, (arrB l), 22)]) := Lib.hid ⟨(by rw [setRow_other _ _ _ _ (Ne.symm NEq55_1.out)]; exact HRq60.out.head), (by rw [setRow_other _ _ _ _ (Ne.symm NEq44_1.out)]; exact HRq60.out.tail.head), setRow_heap _ _ _ _ _ _ lsq61, (by rw [setRow_other _ _ _ _ (by omega)]; exact HRq60.out.tail.tail.tail.head), trivial⟩
          have HBq61 := Lib.hid (below_row (g := (g0 + 1)) (cs := (refP n45 n42 1 n59)) HBq60.out (by have := HG0.out; omega))
          go_wp2_with (refine wpList_store_row rfl 33 (.tmp 2) (.tmp 38) rfl (g0 + 1) (refP n45 n42 1 n59) rfl rfl 33 (refP 0 0 0 0) lsq61 (refP_info _ _ _ _) (refP_sizes _ _ _ _ _ _ _ _) (refP_one _ _ _ _) ?_)
          obtain ⟨Wq61, hWq61⟩ : ∃ W, vq60.setRow (g0 + 1) (refP n45 n42 1 n59) = W := ⟨_, rfl⟩
          rw [hWq61] at HRq61 HBq61
          (try rw [hWq61])
          clear hWq61 lsq61
          (try simp only [Exit.inBlock, Exit.then])
          refine bodyPost_ret (results_ct rfl _ _ (g0 + 1) _ (refP n45 n42 1 n59) _ _ (.bool true) rfl rfl HRq61.out.tail.tail.head Try.underlying33 rfl (refP_info _ _ _ _)) rfl ?_
          have e2 : decF l = true := decF_of HCA.out (by rw [Hn42.out]; exact HFI.out) (by rw [(show ratN (upN (feN l)) (dnN (feN l)) = n45 by rw [Hn42.out, Hn45.out])]; intro _; exact HOD.out)
          have ex : decX l = n45 := by unfold decX; rw [(show ratN (upN (feN l)) (dnN (feN l)) = n45 by rw [Hn42.out, Hn45.out]), HOD.out]; rfl
          obtain ⟨ea, eb⟩ := decP_xy e2
          rw [ex] at ea
          rw [Hn42.out] at eb
          exact ⟨_, by rw [e2], ⟨_, _, _, _, rfl, by rw [← Hn59.out]; exact co_of ea eb⟩, HBq61.out⟩
        · have HX0 := Lib.hid hx0
          clear hx0
          have l62 := HRq55.out.head
          go_upto_region 8 with (first
              | (refine wpList_runsV (o := ⟨some 25, _, _, _, _, _⟩) rfl (.agg (refT n45)) (run_loadR rfl rfl l62 Try.underlying31 rfl (refT_info _)) ?_)
              | (refine wpList_runsV (o := ⟨some 27, _, _, _, _, _⟩) rfl (.bool false) (run_eql2 rfl rfl rfl guardR (eqRefF HLn45.out (show 0 < PP by decide) (HX0.out) _)) ?_))
          go_upto_region 10 with fail
          have l63 := HRq55.out.head
          have l64 := HRq55.out.tail.head
          go_wp2_with (first
              | (refine wpList_load_row rfl 31 (.tmp 6) rfl gq55 rfl 31 (refT n45) (0, 0) _ l63 Try.underlying31 rfl (refT_info _) ?_)
              | (refine wpList_load_row rfl 31 (.tmp 5) rfl gq44 rfl 31 (refT n42) (0, 0) _ l64 Try.underlying31 rfl (refT_info _) ?_))
          obtain ⟨n65, hn65⟩ : ∃ x_ : Nat, (n45 * n42) % PP = x_ := ⟨_, rfl⟩
          have Hn65 := Lib.hid hn65
          have HLn65 : Hid (n65 < PP) := Lib.hid (by rw [← hn65]; exact Nat.mod_lt _ (by decide))
          clear hn65
          have kq66 := fun W : World => (rofN HLn45.out HLn42.out) W
          rw [Hn65.out] at kq66
          have Kq66 := Lib.hid kq66
          clear kq66
          with_reducible refine (Kq66.out _).mono ?_
          rintro e vq66 ⟨rfl, hbq66⟩
          have HRq66 := Lib.hid (HRq55.out.below hbq66)
          have HBq66 := Lib.hid (below_next HBq55.out hbq66)
          clear hbq66
          have lsq67 := HRq66.out.tail.tail.head
          have HRq67 : Hid (RowsW (vq66.setRow (g0 + 1) (refP n45 n42 1 n65)) [(gq55, (refT n45), 31), (gq44, (refT n42), 31), ((g0 + 1), (refP n45 n42 1 n65), 33), (g0, (arrB l), 22)]) := Lib.hid ⟨(by rw [setRow_other _ _ _ _ (Ne.symm NEq55_1.out)]; exact HRq66.out.head), (by rw [setRow_other _ _ _ _ (Ne.symm NEq44_1.out)]; exact HRq66.out.tail.head), setRow_heap _ _ _ _ _ _ lsq67, (by rw [setRow_other _ _ _ _ (by omega)]; exact HRq66.out.tail.tail.tail.head), trivial⟩
          have HBq67 := Lib.hid (below_row (g := (g0 + 1)) (cs := (refP n45 n42 1 n65)) HBq66.out (by have := HG0.out; omega))
          go_wp2_with (refine wpList_store_row rfl 33 (.tmp 2) (.tmp 38) rfl (g0 + 1) (refP n45 n42 1 n65) rfl rfl 33 (refP 0 0 0 0) lsq67 (refP_info _ _ _ _) (refP_sizes _ _ _ _ _ _ _ _) (refP_one _ _ _ _) ?_)
          obtain ⟨Wq67, hWq67⟩ : ∃ W, vq66.setRow (g0 + 1) (refP n45 n42 1 n65) = W := ⟨_, rfl⟩
          rw [hWq67] at HRq67 HBq67
          (try rw [hWq67])
          clear hWq67 lsq67
          (try simp only [Exit.inBlock, Exit.then])
          refine bodyPost_ret (results_ct rfl _ _ (g0 + 1) _ (refP n45 n42 1 n65) _ _ (.bool true) rfl rfl HRq67.out.tail.tail.head Try.underlying33 rfl (refP_info _ _ _ _)) rfl ?_
          have e2 : decF l = true := decF_of HCA.out (by rw [Hn42.out]; exact HFI.out) (by rw [(show ratN (upN (feN l)) (dnN (feN l)) = n45 by rw [Hn42.out, Hn45.out])]; intro _; exact HOD.out)
          have ex : decX l = n45 := by unfold decX; rw [(show ratN (upN (feN l)) (dnN (feN l)) = n45 by rw [Hn42.out, Hn45.out]), HOD.out]; rfl
          obtain ⟨ea, eb⟩ := decP_xy e2
          rw [ex] at ea
          rw [Hn42.out] at eb
          exact ⟨_, by rw [e2], ⟨_, _, _, _, rfl, by rw [← Hn65.out]; exact co_of ea eb⟩, HBq67.out⟩
set_option maxHeartbeats 3200000 in
theorem rencodeN {X1 Y1 Z1 T1 : Nat} {p : PtD} (h1 : Co X1 Y1 Z1 T1 p) (w : World) : Calls Try.prog 13 #[.agg (refP X1 Y1 Z1 T1)] w (RetV w (.agg (bytT (F25519.encN p)))) := by
  have HC1 := Lib.hid h1
  clear h1
  have hzR := refT_zero
  have hz32 := zero32_zero
  have hzP := refP_zero
  have HR0 := Lib.hid (((RowsW.nil w).box (refP X1 Y1 Z1 T1) 33).box zero32 22)
  have HB0 := Lib.hid (below_box (below_box (Below.refl w.heap.size w) (refP X1 Y1 Z1 T1) 33) zero32 22)
  rw [World.size_alloc] at HR0
  go_enter Try.func13, Try.ntmps13
  go_upto_region 1 with fail
  obtain ⟨W0, hW0⟩ : ∃ W, ((w.alloc (.cells (refP X1 Y1 Z1 T1) 33)).alloc (.cells zero32 22)) = W := ⟨_, rfl⟩
  obtain ⟨g0, hg0⟩ : ∃ g, w.heap.size = g := ⟨_, rfl⟩
  rw [hW0] at HR0 HB0
  rw [hg0] at HR0
  rw [hW0, hg0]
  have HG0 := Lib.hid hg0
  clear hW0 hg0
  obtain ⟨CX, CY⟩ := co_enc HC1.out
  have l1 := HR0.out.tail.head
  go_wp2_with (refine wpList_runsV (o := ⟨some 6, _, _, _, _, _⟩) rfl (.agg (refT Z1)) (run_loadP rfl rfl l1 Try.underlying31 rfl (refT_info Z1) (refP_2 _ _ _ _)) ?_)
  obtain ⟨n2, hn2⟩ : ∃ y : Nat, invN Z1 = y := ⟨_, rfl⟩
  have Hn2 := Lib.hid hn2
  have HLn2 : Hid (n2 < PP) := Lib.hid (by rw [← hn2]; exact invN_lt _)
  clear hn2
  have kq3 := fun W : World => (rinvN HC1.out.z) W
  rw [Hn2.out] at kq3
  have Kq3 := Lib.hid kq3
  clear kq3
  with_reducible refine (Kq3.out _).mono ?_
  rintro e vq3 ⟨rfl, hbq3⟩
  have HRq3 := Lib.hid (HR0.out.below hbq3)
  have HBq3 := Lib.hid (below_next HB0.out hbq3)
  clear hbq3
  have h0q4 : (vq3.alloc (.cells (refT 0) 31)).heap[vq3.heap.size]? = some (.cells (refT 0) 31 (0, 0)) := heap_alloc_new _ _
  have HRq4 := Lib.hid (HRq3.out.new (refT 0) (refT n2) 31)
  have HBq4 := Lib.hid (below_new HBq3.out (refT 0) (refT n2) 31)
  have HNq4 := Lib.hid HRq3.out.ne
  have HGq4 := Lib.hid HBq3.out.size
  go_upto_region 2 with (refine wpList_store_row rfl 31 (.tmp 3) (.tmp 7) rfl vq3.heap.size (refT n2) rfl rfl 31 (refT 0) h0q4 (refT_info _) (refT_size _ _) (refT_one _) ?_)
  obtain ⟨Wq4, hWq4⟩ : ∃ W, (vq3.alloc (.cells (refT 0) 31)).setRow vq3.heap.size (refT n2) = W := ⟨_, rfl⟩
  obtain ⟨gq4, hgq4⟩ : ∃ g, vq3.heap.size = g := ⟨_, rfl⟩
  rw [hWq4, hgq4] at HRq4
  rw [hWq4] at HBq4
  rw [hgq4] at HNq4 HGq4
  rw [hWq4, hgq4]
  clear hWq4 hgq4 h0q4
  have NEq4_0 : Hid (g0 ≠ gq4) := Lib.hid (HNq4.out (g0, (refP X1 Y1 Z1 T1), 33) (by simp))
  have NEq4_1 : Hid ((g0 + 1) ≠ gq4) := Lib.hid (HNq4.out ((g0 + 1), zero32, 22) (by simp))
  have l5 := HRq4.out.tail.tail.head
  have l6 := HRq4.out.head
  go_wp2_with (first
      | (refine wpList_runsV (o := ⟨some 9, _, _, _, _, _⟩) rfl (.agg (refT Y1)) (run_loadP rfl rfl l5 Try.underlying31 rfl (refT_info Y1) (refP_1 _ _ _ _)) ?_)
      | (refine wpList_load_row rfl 31 (.tmp 3) rfl gq4 rfl 31 (refT n2) (0, 0) _ l6 Try.underlying31 rfl (refT_info _) ?_))
  obtain ⟨n7, hn7⟩ : ∃ x_ : Nat, (Y1 * n2) % PP = x_ := ⟨_, rfl⟩
  have Hn7 := Lib.hid hn7
  have HLn7 : Hid (n7 < PP) := Lib.hid (by rw [← hn7]; exact Nat.mod_lt _ (by decide))
  clear hn7
  have kq8 := fun W : World => (rmulN HC1.out.y HLn2.out) W
  rw [Hn7.out] at kq8
  have Kq8 := Lib.hid kq8
  clear kq8
  with_reducible refine (Kq8.out _).mono ?_
  rintro e vq8 ⟨rfl, hbq8⟩
  have HRq8 := Lib.hid (HRq4.out.below hbq8)
  have HBq8 := Lib.hid (below_next HBq4.out hbq8)
  clear hbq8
  go_wp2_with fail
  with_reducible refine ((rbytesN n7) _).mono ?_
  rintro e vq9 ⟨rfl, hbq9⟩
  have HRq9 := Lib.hid (HRq8.out.below hbq9)
  have HBq9 := Lib.hid (below_next HBq8.out hbq9)
  clear hbq9
  have h0q10 : (vq9.alloc (.cells zero32 22)).heap[vq9.heap.size]? = some (.cells zero32 22 (0, 0)) := heap_alloc_new _ _
  have HRq10 := Lib.hid (HRq9.out.new zero32 (bytT n7) 22)
  have HBq10 := Lib.hid (below_new HBq9.out zero32 (bytT n7) 22)
  have HNq10 := Lib.hid HRq9.out.ne
  have HGq10 := Lib.hid HBq9.out.size
  go_upto_region 3 with (refine wpList_store_row rfl 22 (.tmp 4) (.tmp 12) rfl vq9.heap.size (bytT n7) rfl rfl 22 zero32 h0q10 (bytT_info _) (zero32_byt _) (bytT_one _) ?_)
  obtain ⟨Wq10, hWq10⟩ : ∃ W, (vq9.alloc (.cells zero32 22)).setRow vq9.heap.size (bytT n7) = W := ⟨_, rfl⟩
  obtain ⟨gq10, hgq10⟩ : ∃ g, vq9.heap.size = g := ⟨_, rfl⟩
  rw [hWq10, hgq10] at HRq10
  rw [hWq10] at HBq10
  rw [hgq10] at HNq10 HGq10
  rw [hWq10, hgq10]
  clear hWq10 hgq10 h0q10
  have NEq10_0 : Hid (g0 ≠ gq10) := Lib.hid (HNq10.out (g0, (refP X1 Y1 Z1 T1), 33) (by simp))
  have NEq10_1 : Hid ((g0 + 1) ≠ gq10) := Lib.hid (HNq10.out ((g0 + 1), zero32, 22) (by simp))
  have NEq10_2 : Hid (gq4 ≠ gq10) := Lib.hid (HNq10.out (gq4, (refT n2), 31) (by simp))
  obtain ⟨n11, hn11⟩ : ∃ x_ : Nat, (X1 * n2) % PP = x_ := ⟨_, rfl⟩
  have Hn11 := Lib.hid hn11
  have HLn11 : Hid (n11 < PP) := Lib.hid (by rw [← hn11]; exact Nat.mod_lt _ (by decide))
  clear hn11
  have HX : Hid (n11 = p.x.val) := Lib.hid (by rw [← Hn11.out, ← Hn2.out]; exact CX)
  have HY : Hid (n7 = p.y.val) := Lib.hid (by rw [← Hn7.out, ← Hn2.out]; exact CY)
  clear CX CY
  by_cases ho : n11 % 2 = 1
  · have HO := Lib.hid ho
    clear ho
    have l12 := HRq10.out.tail.tail.tail.head
    have l13 := HRq10.out.tail.head
    go_wp2_with (first
        | (refine wpList_runsV (o := ⟨some 14, _, _, _, _, _⟩) rfl (.agg (refT X1)) (run_loadP rfl rfl l12 Try.underlying31 rfl (refT_info X1) (refP_0 _ _ _ _)) ?_)
        | (refine wpList_load_row rfl 31 (.tmp 3) rfl gq4 rfl 31 (refT n2) (0, 0) _ l13 Try.underlying31 rfl (refT_info _) ?_))
    have kq14 := fun W : World => (rmulN HC1.out.x HLn2.out) W
    rw [Hn11.out] at kq14
    have Kq14 := Lib.hid kq14
    clear kq14
    with_reducible refine (Kq14.out _).mono ?_
    rintro e vq14 ⟨rfl, hbq14⟩
    have HRq14 := Lib.hid (HRq10.out.below hbq14)
    have HBq14 := Lib.hid (below_next HBq10.out hbq14)
    clear hbq14
    go_wp2_with fail
    have Ht15 : Hid (decide (n11 % 2 = 1) = true) := Lib.hid (decide_eq_true HO.out)
    have kq16 := fun W : World => (roddN n11) W
    rw [Ht15.out] at kq16
    have Kq16 := Lib.hid kq16
    clear kq16
    with_reducible refine (Kq16.out _).mono ?_
    rintro e vq16 ⟨rfl, hbq16⟩
    have HRq16 := Lib.hid (HRq14.out.below hbq16)
    have HBq16 := Lib.hid (below_next HBq14.out hbq16)
    clear hbq16
    go_upto_region 4 with fail
    obtain ⟨t, ht⟩ : ∃ t, ((leB 32 n7).getD 31 0).toNat = t := ⟨_, rfl⟩
    have htl : t < 128 := by rw [← ht, leB_get 32 n7 31 (by omega)]; have h := HLn7.out; rw [P31]; unfold PP at h; simp; omega
    have cx : vq16.cell? ⟨gq10, 31, none⟩ = some (.int .u8 (t : Int)) := by rw [cell_of_row _ _ _ _ _ _ HRq16.out.head, bytT_get _ _ (by omega), ht]
    have fx := frozen_row HRq16.out.head 31
    have e128 : (((leB 32 n7).getD 31 0 + 128).toNat : Int) = ((t + 128 : Nat) : Int) := by rw [UInt8.toNat_add, ht]; simp; omega
    have hs := HRq16.out.set HNq10.out 31 (.int .u8 (((leB 32 n7).getD 31 0 + 128).toNat : Int))
    rw [show bytT n7 = arrB (leB 32 n7) from rfl, arrB_set, e128] at hs
    have hb9 := HBq16.out.setCell (p := ⟨gq10, 31, none⟩) (by show w.heap.size ≤ gq10; exact HGq10.out) (.int .u8 ((t + 128 : Nat) : Int))
    have t1 : IntKind.u8.wrap ((t : Int) + 128) = ((t + 128 : Nat) : Int) := by rw [IntKind.wrap_u8]; omega
    have t2 : (t : Int) + 128 = ((t + 128 : Nat) : Int) := by omega
    have t3 : ((t + 128 : Nat) : Int) % 256 = ((t + 128 : Nat) : Int) := by omega
    obtain ⟨t9, ht9⟩ : ∃ t9 : Nat, t + 128 = t9 := ⟨_, rfl⟩
    rw [ht9] at hs hb9 t1 t2 t3
    have HE9 : Hid (arrB (leB 32 (F25519.encN p)) = arrB ((leB 32 n7).set 31 ((leB 32 n7).getD 31 0 + 128))) := Lib.hid (by rw [enc_bytes, if_pos (by rw [← HX.out]; exact HO.out), ← HY.out])
    have iA : (Try.prog.info? 22).map (·.size) = some (arrB ((leB 32 n7).set 31 ((leB 32 n7).getD 31 0 + 128))).size := arr32_info (by rw [List.length_set, leB_len])
    have zA : zero32.size = (arrB ((leB 32 n7).set 31 ((leB 32 n7).getD 31 0 + 128))).size := zero32_size (by rw [List.length_set, leB_len])
    have oA := arrB_one ((leB 32 n7).set 31 ((leB 32 n7).getD 31 0 + 128))
    generalize arrB ((leB 32 n7).set 31 ((leB 32 n7).getD 31 0 + 128)) = A9 at *
    obtain ⟨W9, hW9⟩ : ∃ W9, vq16.setCell ⟨gq10, 31, none⟩ (.int .u8 (t9 : Int)) = W9 := ⟨_, rfl⟩
    rw [hW9] at hs hb9
    have HR9 := Lib.hid hs
    have HB9 := Lib.hid hb9
    have HW9 := Lib.hid hW9
    clear hs hb9 hW9 ht e128 ht9 htl
    go_upto_region 5 with fail
    rw [HW9.out]
    clear HW9 cx fx t1 t2 t3
    have l17 := HR9.out.head
    have lsq18 := HR9.out.tail.tail.head
    have HRq18 : Hid (RowsW (W9.setRow (g0 + 1) A9) [(gq10, A9, 22), (gq4, (refT n2), 31), ((g0 + 1), A9, 22), (g0, (refP X1 Y1 Z1 T1), 33)]) := Lib.hid ⟨(by rw [setRow_other _ _ _ _ (Ne.symm NEq10_1.out)]; exact HR9.out.head), (by rw [setRow_other _ _ _ _ (Ne.symm NEq4_1.out)]; exact HR9.out.tail.head), setRow_heap _ _ _ _ _ _ lsq18, (by rw [setRow_other _ _ _ _ (by omega)]; exact HR9.out.tail.tail.tail.head), trivial⟩
    have HBq18 := Lib.hid (below_row (g := (g0 + 1)) (cs := A9) HB9.out (by have := HG0.out; omega))
    go_wp2_with (first
        | (refine wpList_load_row rfl 22 (.tmp 4) rfl gq10 rfl 22 A9 (0, 0) _ l17 Try.underlying22 rfl iA ?_)
        | (refine wpList_store_row rfl 22 (.tmp 2) (.tmp 22) rfl (g0 + 1) A9 rfl rfl 22 zero32 lsq18 iA zA oA ?_))
    obtain ⟨Wq18, hWq18⟩ : ∃ W, W9.setRow (g0 + 1) A9 = W := ⟨_, rfl⟩
    rw [hWq18] at HRq18 HBq18
    (try rw [hWq18])
    clear hWq18 lsq18
    (try simp only [Exit.inBlock, Exit.then])
    refine bodyPost_ret (results_cell_row rfl _ _ (g0 + 1) _ A9 _ _ rfl HRq18.out.tail.tail.head Try.underlying22 rfl iA) rfl ?_
    exact ⟨by rw [show bytT (F25519.encN p) = A9 from HE9.out], HBq18.out⟩
  · have HO := Lib.hid ho
    clear ho
    have l19 := HRq10.out.tail.tail.tail.head
    have l20 := HRq10.out.tail.head
    go_wp2_with (first
        | (refine wpList_runsV (o := ⟨some 14, _, _, _, _, _⟩) rfl (.agg (refT X1)) (run_loadP rfl rfl l19 Try.underlying31 rfl (refT_info X1) (refP_0 _ _ _ _)) ?_)
        | (refine wpList_load_row rfl 31 (.tmp 3) rfl gq4 rfl 31 (refT n2) (0, 0) _ l20 Try.underlying31 rfl (refT_info _) ?_))
    have kq21 := fun W : World => (rmulN HC1.out.x HLn2.out) W
    rw [Hn11.out] at kq21
    have Kq21 := Lib.hid kq21
    clear kq21
    with_reducible refine (Kq21.out _).mono ?_
    rintro e vq21 ⟨rfl, hbq21⟩
    have HRq21 := Lib.hid (HRq10.out.below hbq21)
    have HBq21 := Lib.hid (below_next HBq10.out hbq21)
    clear hbq21
    go_wp2_with fail
    have Ht22 : Hid (decide (n11 % 2 = 1) = false) := Lib.hid (decide_eq_false HO.out)
    have kq23 := fun W : World => (roddN n11) W
    rw [Ht22.out] at kq23
    have Kq23 := Lib.hid kq23
    clear kq23
    with_reducible refine (Kq23.out _).mono ?_
    rintro e vq23 ⟨rfl, hbq23⟩
    have HRq23 := Lib.hid (HRq21.out.below hbq23)
    have HBq23 := Lib.hid (below_next HBq21.out hbq23)
    clear hbq23
    go_upto_region 5 with fail
    have l24 := HRq23.out.head
    have lsq25 := HRq23.out.tail.tail.head
    have HRq25 : Hid (RowsW (vq23.setRow (g0 + 1) (bytT n7)) [(gq10, (bytT n7), 22), (gq4, (refT n2), 31), ((g0 + 1), (bytT n7), 22), (g0, (refP X1 Y1 Z1 T1), 33)]) := Lib.hid ⟨(by rw [setRow_other _ _ _ _ (Ne.symm NEq10_1.out)]; exact HRq23.out.head), (by rw [setRow_other _ _ _ _ (Ne.symm NEq4_1.out)]; exact HRq23.out.tail.head), setRow_heap _ _ _ _ _ _ lsq25, (by rw [setRow_other _ _ _ _ (by omega)]; exact HRq23.out.tail.tail.tail.head), trivial⟩
    have HBq25 := Lib.hid (below_row (g := (g0 + 1)) (cs := (bytT n7)) HBq23.out (by have := HG0.out; omega))
    go_wp2_with (first
        | (refine wpList_load_row rfl 22 (.tmp 4) rfl gq10 rfl 22 (bytT n7) (0, 0) _ l24 Try.underlying22 rfl (bytT_info _) ?_)
        | (refine wpList_store_row rfl 22 (.tmp 2) (.tmp 22) rfl (g0 + 1) (bytT n7) rfl rfl 22 zero32 lsq25 (bytT_info _) (zero32_byt _) (bytT_one _) ?_))
    obtain ⟨Wq25, hWq25⟩ : ∃ W, vq23.setRow (g0 + 1) (bytT n7) = W := ⟨_, rfl⟩
    rw [hWq25] at HRq25 HBq25
    (try rw [hWq25])
    clear hWq25 lsq25
    (try simp only [Exit.inBlock, Exit.then])
    refine bodyPost_ret (results_cell_row rfl _ _ (g0 + 1) _ (bytT n7) _ _ rfl HRq25.out.tail.tail.head Try.underlying22 rfl (bytT_info _)) rfl ?_
    exact ⟨by rw [show bytT (F25519.encN p) = (bytT n7) from by { unfold bytT; rw [enc_bytes, if_neg (by rw [← HX.out]; exact HO.out), ← HY.out] }], HBq25.out⟩
theorem rencode_any {c : Array Value} {p : PtD} (h : RQ c p) (w : World) : Calls Try.prog 13 #[.agg c] w (RetV w (.agg (bytT (F25519.encN p)))) := by
  obtain ⟨X, Y, Z, T, rfl, hc⟩ := h
  exact rencodeN hc w
end Go.Proofs.Ytfejabfmhddepaa

