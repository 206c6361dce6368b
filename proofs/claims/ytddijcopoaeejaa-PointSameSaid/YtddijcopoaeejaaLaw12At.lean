/- The walk of at. Written by wip/tools. -/
import Derived.Test.YtddijcopoaeejaaLaw12Alive
import Derived.Test.YtddijcopoaeejaaGheld
namespace Go.Proofs.Ytddijcopoaeejaa
open Go.RowKit
set_option linter.unusedVariables false
set_option maxRecDepth 100000

set_option maxHeartbeats 6400000 in
theorem at12_any {R : Array Value → PtD → Prop} (D : PtC R) (l : List UInt8) (hl : l.length = 32) (w : World) : Calls Try.prog 14 #[.agg (arrB l)] w (RetTwo R w (atP l)) := by
  have HL := Lib.hid hl
  clear hl
  obtain ⟨Z, hZ, sZ⟩ := D.base.zero
  have hz32 := zero32_zero
  have hzP := refP_zero
  have HR0 := Lib.hid ((((RowsW.nil w).box (arrB l) 22).box Z 28).box (refP 0 0 0 0) 34)
  have HB0 := Lib.hid (below_box (below_box (below_box (Below.refl w.heap.size w) (arrB l) 22) Z 28) (refP 0 0 0 0) 34)
  rw [World.size_alloc, World.size_alloc] at HR0
  go_enter Try.func14, Try.ntmps14
  go_upto_region 1 with fail
  obtain ⟨W0, hW0⟩ : ∃ W, ((w.alloc (.cells (arrB l) 22)).alloc (.cells Z 28)).alloc (.cells (refP 0 0 0 0) 34) = W := ⟨_, rfl⟩
  obtain ⟨g0, hg0⟩ : ∃ g, w.heap.size = g := ⟨_, rfl⟩
  rw [hW0] at HR0 HB0
  rw [hg0] at HR0
  rw [hW0, hg0]
  have HG0 := Lib.hid hg0
  clear hW0 hg0
  cases hf : decF l
  · have HF := Lib.hid hf
    clear hf
    have l1 := HR0.out.tail.tail.head
    go_wp2_with (refine wpList_load_row rfl 22 (.tmp 1) rfl g0 rfl 22 (arrB l) (0, 0) _ l1 Try.underlying22 rfl (arr32_info HL.out) ?_)
    obtain ⟨p2, hp2⟩ : ∃ y_ : PtD, decP l = y_ := ⟨_, rfl⟩
    have Hp2 := Lib.hid hp2
    clear hp2
    have Ht3 : Hid (decF l = false) := Lib.hid HF.out
    have kq4 := fun W : World => (D.decode l HL.out) W
    rw [Hp2.out, Ht3.out] at kq4
    have Kq4 := Lib.hid kq4
    clear kq4
    with_reducible refine (Kq4.out _).mono ?_
    rintro e vq4 ⟨cq4, rfl, rq4, hbq4⟩
    have Rq4 := Lib.hid rq4
    clear rq4
    have HRq4 := Lib.hid (HR0.out.below hbq4)
    have HBq4 := Lib.hid (below_next HB0.out hbq4)
    clear hbq4
    have h0q5 : (vq4.alloc (.cells Z 28)).heap[vq4.heap.size]? = some (.cells Z 28 (0, 0)) := heap_alloc_new _ _
    have HRq5 := Lib.hid (HRq4.out.new Z cq4 28)
    have HBq5 := Lib.hid (below_new HBq4.out Z cq4 28)
    have HNq5 := Lib.hid HRq4.out.ne
    have HGq5 := Lib.hid HBq4.out.size
    go_upto_region 2 with (refine wpList_store_row rfl 28 (.tmp 4) (.tmp 12) rfl vq4.heap.size cq4 rfl rfl 28 Z h0q5 (D.base.info Rq4.out) (sZ Rq4.out) (D.base.one Rq4.out) ?_)
    obtain ⟨Wq5, hWq5⟩ : ∃ W, (vq4.alloc (.cells Z 28)).setRow vq4.heap.size cq4 = W := ⟨_, rfl⟩
    obtain ⟨gq5, hgq5⟩ : ∃ g, vq4.heap.size = g := ⟨_, rfl⟩
    rw [hWq5, hgq5] at HRq5
    rw [hWq5] at HBq5
    rw [hgq5] at HNq5 HGq5
    rw [hWq5, hgq5]
    clear hWq5 hgq5 h0q5
    have NEq5_0 : Hid (g0 ≠ gq5) := Lib.hid (HNq5.out (g0, (arrB l), 22) (by simp))
    have NEq5_1 : Hid ((g0 + 1) ≠ gq5) := Lib.hid (HNq5.out ((g0 + 1), Z, 28) (by simp))
    have NEq5_2 : Hid ((g0 + 1 + 1) ≠ gq5) := Lib.hid (HNq5.out ((g0 + 1 + 1), (refP 0 0 0 0), 34) (by simp))
    have l6 := HRq5.out.tail.tail.tail.head
    go_wp2_with (refine wpList_load_row rfl 22 (.tmp 1) rfl g0 rfl 22 (arrB l) (0, 0) _ l6 Try.underlying22 rfl (arr32_info HL.out) ?_)
    have Ht7 : Hid (decF l = false) := Lib.hid HF.out
    have kq8 := fun W : World => (rdecodeN HL.out) W
    rw [Hp2.out, Ht7.out] at kq8
    have Kq8 := Lib.hid kq8
    clear kq8
    with_reducible refine (Kq8.out _).mono ?_
    rintro e vq8 ⟨cq8, rfl, rq8, hbq8⟩
    have Rq8 := Lib.hid rq8
    clear rq8
    have HRq8 := Lib.hid (HRq5.out.below hbq8)
    have HBq8 := Lib.hid (below_next HBq5.out hbq8)
    clear hbq8
    have h0q9 : (vq8.alloc (.cells (refP 0 0 0 0) 34)).heap[vq8.heap.size]? = some (.cells (refP 0 0 0 0) 34 (0, 0)) := heap_alloc_new _ _
    have HRq9 := Lib.hid (HRq8.out.new (refP 0 0 0 0) cq8 34)
    have HBq9 := Lib.hid (below_new HBq8.out (refP 0 0 0 0) cq8 34)
    have HNq9 := Lib.hid HRq8.out.ne
    have HGq9 := Lib.hid HBq8.out.size
    go_upto_region 3 with (refine wpList_store_row rfl 34 (.tmp 6) (.tmp 17) rfl vq8.heap.size cq8 rfl rfl 34 (refP 0 0 0 0) h0q9 (rq_info Rq8.out) (rq_z Rq8.out) (rq_one Rq8.out) ?_)
    obtain ⟨Wq9, hWq9⟩ : ∃ W, (vq8.alloc (.cells (refP 0 0 0 0) 34)).setRow vq8.heap.size cq8 = W := ⟨_, rfl⟩
    obtain ⟨gq9, hgq9⟩ : ∃ g, vq8.heap.size = g := ⟨_, rfl⟩
    rw [hWq9, hgq9] at HRq9
    rw [hWq9] at HBq9
    rw [hgq9] at HNq9 HGq9
    rw [hWq9, hgq9]
    clear hWq9 hgq9 h0q9
    have NEq9_0 : Hid (g0 ≠ gq9) := Lib.hid (HNq9.out (g0, (arrB l), 22) (by simp))
    have NEq9_1 : Hid ((g0 + 1) ≠ gq9) := Lib.hid (HNq9.out ((g0 + 1), Z, 28) (by simp))
    have NEq9_2 : Hid ((g0 + 1 + 1) ≠ gq9) := Lib.hid (HNq9.out ((g0 + 1 + 1), (refP 0 0 0 0), 34) (by simp))
    have NEq9_3 : Hid (gq5 ≠ gq9) := Lib.hid (HNq9.out (gq5, cq4, 28) (by simp))
    go_wp2_with fail
    with_reducible refine ((fun W => D.basep W) _).mono ?_
    rintro e vq10 ⟨cq10, rfl, rq10, hbq10⟩
    have Rq10 := Lib.hid rq10
    clear rq10
    have HRq10 := Lib.hid (HRq9.out.below hbq10)
    have HBq10 := Lib.hid (below_next HBq9.out hbq10)
    clear hbq10
    have lsq11 := HRq10.out.tail.head
    have HRq11 : Hid (RowsW (vq10.setRow gq5 cq10) [(gq9, cq8, 34), (gq5, cq10, 28), ((g0 + 1 + 1), (refP 0 0 0 0), 34), ((g0 + 1), Z, 28), (g0, (arrB l), 22)]) := Lib.hid ⟨(by rw [setRow_other _ _ _ _ (Ne.symm NEq9_3.out)]; exact HRq10.out.head), setRow_heap _ _ _ _ _ _ lsq11, (by rw [setRow_other _ _ _ _ NEq5_2.out]; exact HRq10.out.tail.tail.head), (by rw [setRow_other _ _ _ _ NEq5_1.out]; exact HRq10.out.tail.tail.tail.head), (by rw [setRow_other _ _ _ _ NEq5_0.out]; exact HRq10.out.tail.tail.tail.tail.head), trivial⟩
    have HBq11 := Lib.hid (below_row (g := gq5) (cs := cq10) HBq10.out HGq5.out)
    go_upto_region 6 with (refine wpList_store_row rfl 28 (.tmp 4) (.tmp 25) rfl gq5 cq10 rfl rfl 28 cq4 lsq11 (D.base.info Rq10.out) (by have a := (sZ Rq4.out); have b := (sZ Rq10.out); rw [← a, ← b]) (D.base.one Rq10.out) ?_)
    obtain ⟨Wq11, hWq11⟩ : ∃ W, vq10.setRow gq5 cq10 = W := ⟨_, rfl⟩
    rw [hWq11] at HRq11 HBq11
    (try rw [hWq11])
    clear hWq11 lsq11
    go_wp2_with fail
    with_reducible refine ((fun W => rbaseN W) _).mono ?_
    rintro e vq12 ⟨cq12, rfl, rq12, hbq12⟩
    have Rq12 := Lib.hid rq12
    clear rq12
    have HRq12 := Lib.hid (HRq11.out.below hbq12)
    have HBq12 := Lib.hid (below_next HBq11.out hbq12)
    clear hbq12
    have lsq13 := HRq12.out.head
    have HRq13 : Hid (RowsW (vq12.setRow gq9 cq12) [(gq9, cq12, 34), (gq5, cq10, 28), ((g0 + 1 + 1), (refP 0 0 0 0), 34), ((g0 + 1), Z, 28), (g0, (arrB l), 22)]) := Lib.hid ⟨setRow_heap _ _ _ _ _ _ lsq13, (by rw [setRow_other _ _ _ _ NEq9_3.out]; exact HRq12.out.tail.head), (by rw [setRow_other _ _ _ _ NEq9_2.out]; exact HRq12.out.tail.tail.head), (by rw [setRow_other _ _ _ _ NEq9_1.out]; exact HRq12.out.tail.tail.tail.head), (by rw [setRow_other _ _ _ _ NEq9_0.out]; exact HRq12.out.tail.tail.tail.tail.head), trivial⟩
    have HBq13 := Lib.hid (below_row (g := gq9) (cs := cq12) HBq12.out HGq9.out)
    go_upto_region 7 with (refine wpList_store_row rfl 34 (.tmp 6) (.tmp 26) rfl gq9 cq12 rfl rfl 34 cq8 lsq13 (rq_info Rq12.out) (by have a := (rq_z Rq8.out); have b := (rq_z Rq12.out); rw [← a, ← b]) (rq_one Rq12.out) ?_)
    obtain ⟨Wq13, hWq13⟩ : ∃ W, vq12.setRow gq9 cq12 = W := ⟨_, rfl⟩
    rw [hWq13] at HRq13 HBq13
    (try rw [hWq13])
    clear hWq13 lsq13
    obtain ⟨t, ht⟩ : ∃ t, (l.getD 0 0).toNat = t := ⟨_, rfl⟩
    have htl : t < 256 := by rw [← ht]; exact (l.getD 0 0).toNat_lt
    have HT := Lib.hid ht
    clear ht
    go_wp2_with fail
    go_loopw [8] (fun i wr => ∃ k : Nat, k ≤ t % 7 ∧ i = .int .i64 (k : Int) ∧ ∃ A B, Hid (R A (dblP k F25519.base)) ∧ Hid (RQ B (dblP k F25519.base)) ∧ Hid (RowsW wr [(gq9, B, 34), (gq5, A, 28), (g0 + 1 + 1, refP 0 0 0 0, 34), (g0 + 1, Z, 28), (g0, arrB l, 22)]) ∧ Hid (Below w.heap.size w wr)) (fun i _ => t % 7 - (intOf i).toNat)
    case atStart => exact ⟨0, by omega, rfl, _, _, Rq10, Rq12, HRq13, HBq13⟩
    case round =>
      clear HRq13 HBq13
      obtain ⟨k, hk, rfl, A, B, RA, RB, HR1, HB1⟩ := hrel
      have cx : wr.cell? ⟨g0, 0, none⟩ = some (.int .u8 (t : Int)) := by rw [cell_of_row _ _ _ _ _ _ HR1.out.tail.tail.tail.tail.head, arrB_get _ _ (by rw [HL.out]; omega), HT.out]
      obtain ⟨m, hm⟩ : ∃ m, t % 7 = m := ⟨_, rfl⟩
      have hml : m < 7 := by omega
      have tm : (t : Int).tmod 7 = (m : Int) := by rw [Int.tmod_eq_emod_of_nonneg (by omega)]; omega
      have tm' : (t : Int) % 7 = (m : Int) := by omega
      have tw : IntKind.u8.wrap (m : Int) = (m : Int) := by rw [IntKind.wrap_u8]; omega
      have ti : IntKind.i64.wrap (m : Int) = (m : Int) := by rw [IntKind.wrap_i64]; omega
      rw [hm] at hk
      have HM := Lib.hid hm
      clear hm
      by_cases hlt : k < m
      · have dk : decide ((k : Int) < (m : Int)) = true := decide_eq_true (by omega)
        have dk2 : decide (k < m) = true := decide_eq_true hlt
        have l14 := HR1.out.tail.head
        go_wp2_with (refine wpList_load_row rfl 28 (.tmp 4) rfl gq5 rfl 28 A (0, 0) _ l14 Try.underlying28 rfl (D.base.info RA.out) ?_)
        obtain ⟨p15, hp15⟩ : ∃ y_ : PtD, padd (dblP k F25519.base) (dblP k F25519.base) = y_ := ⟨_, rfl⟩
        have Hp15 := Lib.hid hp15
        clear hp15
        with_reducible refine ((D.double RA.out) _).mono ?_
        rintro e vq16 ⟨cq16, rfl, rq16, hbq16⟩
        rw [Hp15.out] at rq16
        have Rq16 := Lib.hid rq16
        clear rq16
        have HRq16 := Lib.hid (HR1.out.below hbq16)
        have HBq16 := Lib.hid (below_next HB1.out hbq16)
        clear hbq16
        have lsq17 := HRq16.out.tail.head
        have HRq17 : Hid (RowsW (vq16.setRow gq5 cq16) [(gq9, B, 34), (gq5, cq16, 28), ((g0 + 1 + 1), (refP 0 0 0 0), 34), ((g0 + 1), Z, 28), (g0, (arrB l), 22)]) := Lib.hid ⟨(by rw [setRow_other _ _ _ _ (Ne.symm NEq9_3.out)]; exact HRq16.out.head), setRow_heap _ _ _ _ _ _ lsq17, (by rw [setRow_other _ _ _ _ NEq5_2.out]; exact HRq16.out.tail.tail.head), (by rw [setRow_other _ _ _ _ NEq5_1.out]; exact HRq16.out.tail.tail.tail.head), (by rw [setRow_other _ _ _ _ NEq5_0.out]; exact HRq16.out.tail.tail.tail.tail.head), trivial⟩
        have HBq17 := Lib.hid (below_row (g := gq5) (cs := cq16) HBq16.out HGq5.out)
        go_upto_region 11 with (refine wpList_store_row rfl 28 (.tmp 4) (.tmp 36) rfl gq5 cq16 rfl rfl 28 A lsq17 (D.base.info Rq16.out) (by have a := (sZ RA.out); have b := (sZ Rq16.out); rw [← a, ← b]) (D.base.one Rq16.out) ?_)
        obtain ⟨Wq17, hWq17⟩ : ∃ W, vq16.setRow gq5 cq16 = W := ⟨_, rfl⟩
        rw [hWq17] at HRq17 HBq17
        (try rw [hWq17])
        clear hWq17 lsq17
        have l18 := HRq17.out.head
        have l19 := HRq17.out.head
        go_wp2_with (first
            | (refine wpList_load_row rfl 34 (.tmp 6) rfl gq9 rfl 34 B (0, 0) _ l18 Try.underlying34 rfl (rq_info RB.out) ?_)
            | (refine wpList_load_row rfl 34 (.tmp 6) rfl gq9 rfl 34 B (0, 0) _ l19 Try.underlying34 rfl (rq_info RB.out) ?_))
        with_reducible refine ((rplus_any RB.out RB.out) _).mono ?_
        rintro e vq20 ⟨cq20, rfl, rq20, hbq20⟩
        rw [Hp15.out] at rq20
        have Rq20 := Lib.hid rq20
        clear rq20
        have HRq20 := Lib.hid (HRq17.out.below hbq20)
        have HBq20 := Lib.hid (below_next HBq17.out hbq20)
        clear hbq20
        have lsq21 := HRq20.out.head
        have HRq21 : Hid (RowsW (vq20.setRow gq9 cq20) [(gq9, cq20, 34), (gq5, cq16, 28), ((g0 + 1 + 1), (refP 0 0 0 0), 34), ((g0 + 1), Z, 28), (g0, (arrB l), 22)]) := Lib.hid ⟨setRow_heap _ _ _ _ _ _ lsq21, (by rw [setRow_other _ _ _ _ NEq9_3.out]; exact HRq20.out.tail.head), (by rw [setRow_other _ _ _ _ NEq9_2.out]; exact HRq20.out.tail.tail.head), (by rw [setRow_other _ _ _ _ NEq9_1.out]; exact HRq20.out.tail.tail.tail.head), (by rw [setRow_other _ _ _ _ NEq9_0.out]; exact HRq20.out.tail.tail.tail.tail.head), trivial⟩
        have HBq21 := Lib.hid (below_row (g := gq9) (cs := cq20) HBq20.out HGq9.out)
        go_wp2_with (refine wpList_store_row rfl 34 (.tmp 6) (.tmp 39) rfl gq9 cq20 rfl rfl 34 B lsq21 (rq_info Rq20.out) (by have a := (rq_z RB.out); have b := (rq_z Rq20.out); rw [← a, ← b]) (rq_one Rq20.out) ?_)
        obtain ⟨Wq21, hWq21⟩ : ∃ W, vq20.setRow gq9 cq20 = W := ⟨_, rfl⟩
        rw [hWq21] at HRq21 HBq21
        (try rw [hWq21])
        clear hWq21 lsq21
        have HNX : Hid (dblP (k + 1) F25519.base = p15) := Lib.hid Hp15.out
        go_roundw
        case rel => exact ⟨k + 1, by rw [HM.out]; omega, by go_num, _, _, by rw [HNX.out]; exact Rq16, by rw [HNX.out]; exact Rq20, HRq21, HBq21⟩
        case measure => simp [intOf] <;> omega
      · have hkm : k = m := by omega
        have dk : decide ((k : Int) < (m : Int)) = false := decide_eq_false (by omega)
        have dk2 : decide (k < m) = false := decide_eq_false (by omega)
        have HKM := Lib.hid hkm
        clear hkm
        go_upto_region 12 with fail
        have HAT : Hid (atP l = dblP k F25519.base) := Lib.hid (by unfold atP; rw [if_neg (by rw [HF.out]; decide), HT.out, HM.out, HKM.out])
        clear cx dk dk2 tm tm' tw ti
        have la := HR1.out.tail.head
        have lb := HR1.out.head
        have l1 := HR1.out.tail.tail.tail.head
        have l2 := HR1.out.tail.tail.head
        have l2b : (wr.drew.setRow (g0 + 1) A).heap[g0 + 1 + 1]? = some (.cells (refP 0 0 0 0) 34 (0, 0)) := by rw [setRow_other _ _ _ _ (by omega)]; exact l2
        have HBx := Lib.hid (below_row (g := g0 + 1 + 1) (cs := B) (below_row (g := g0 + 1) (cs := A) (HB1.out.drew) (by have := HG0.out; omega)) (by have := HG0.out; omega))
        have f1 : ((wr.drew.setRow (g0 + 1) A).setRow (g0 + 1 + 1) B).heap[g0 + 1]? = some (.cells A 28 (0, 0)) := by rw [setRow_other _ _ _ _ (by omega)]; exact setRow_heap _ _ _ _ _ _ l1
        have f2 : ((wr.drew.setRow (g0 + 1) A).setRow (g0 + 1 + 1) B).heap[g0 + 1 + 1]? = some (.cells B 34 (0, 0)) := setRow_heap _ _ _ _ _ _ l2b
        refine wp_region_noPanic ?_
        refine wp_region_held_drew (S := fun W => W.heap[gq5]? = some (.cells A 28 (0, 0)) ∧ W.heap[gq9]? = some (.cells B 34 (0, 0))) (by kernel_rfl) (by exact ⟨la, lb⟩) (fun hS => ?_)
        refine' take_at 0 rfl (by kernel_rfl) (by kernel_rfl) (by kernel_rfl) (fun _ _ _ h => h) (by rfl) hS ?_ ?_ ?_
        rotate_left 2
        · intro W hSW; exact run_loadR rfl rfl hSW.1 Try.underlying28 rfl (D.base.info RA.out)
        · simp only [List.set_cons_succ, List.set_cons_zero]; rfl
        refine' take_at 1 rfl (by kernel_rfl) (by kernel_rfl) (by kernel_rfl) (fun _ _ _ h => h) (by rfl) hS ?_ ?_ ?_
        rotate_left 2
        · intro W hSW; exact run_loadR rfl rfl hSW.2 Try.underlying34 rfl (rq_info RB.out)
        · simp only [List.set_cons_succ, List.set_cons_zero]; rfl
        refine call_at 2 rfl (by kernel_rfl) (by rfl) (fun K hK => ?_)
        refine wp_store_row 28 (.tmp 2) (.tmp 40) rfl (g0 + 1) A rfl rfl 28 Z l1 (D.base.info RA.out) (sZ RA.out) (D.base.one RA.out) ?_
        refine hK.out _ _ (by exact ⟨by rw [setRow_other _ _ _ _ (Ne.symm NEq5_1.out)]; exact hS.1, by rw [setRow_other _ _ _ _ (Ne.symm NEq9_1.out)]; exact hS.2⟩) (fun hS => ?_)
        clear hK K
        refine call_at 3 rfl (by kernel_rfl) (by rfl) (fun K hK => ?_)
        refine wp_store_row 34 (.tmp 3) (.tmp 41) rfl (g0 + 1 + 1) B rfl rfl 34 (refP 0 0 0 0) l2b (rq_info RB.out) (rq_z RB.out) (rq_one RB.out) ?_
        refine hK.out _ _ (by exact ⟨by rw [setRow_other _ _ _ _ (Ne.symm NEq5_2.out)]; exact hS.1, by rw [setRow_other _ _ _ _ (Ne.symm NEq9_2.out)]; exact hS.2⟩) (fun hS => ?_)
        clear hK K
        refine wpAnyH_done (by kernel_rfl) ?_ _
        refine NoPanic.normal ?_
        clear hS
        (try simp only [Act.put])
        go_wp2_with fail
        (try simp only [Exit.inBlock, Exit.then])
        refine bodyPost_ret (results_2c rfl _ _ (g0 + 1) (g0 + 1 + 1) _ _ A B _ _ _ _ rfl rfl f1 f2 Try.underlying28 rfl (D.base.info RA.out) Try.underlying34 rfl (rq_info RB.out)) rfl ?_
        exact ⟨_, _, rfl, by rw [HAT.out]; exact RA.out, by rw [HAT.out]; exact RB.out, HBx.out⟩
  · have HF := Lib.hid hf
    clear hf
    have l22 := HR0.out.tail.tail.head
    go_wp2_with (refine wpList_load_row rfl 22 (.tmp 1) rfl g0 rfl 22 (arrB l) (0, 0) _ l22 Try.underlying22 rfl (arr32_info HL.out) ?_)
    obtain ⟨p23, hp23⟩ : ∃ y_ : PtD, decP l = y_ := ⟨_, rfl⟩
    have Hp23 := Lib.hid hp23
    clear hp23
    have Ht24 : Hid (decF l = true) := Lib.hid HF.out
    have kq25 := fun W : World => (D.decode l HL.out) W
    rw [Hp23.out, Ht24.out] at kq25
    have Kq25 := Lib.hid kq25
    clear kq25
    with_reducible refine (Kq25.out _).mono ?_
    rintro e vq25 ⟨cq25, rfl, rq25, hbq25⟩
    have Rq25 := Lib.hid rq25
    clear rq25
    have HRq25 := Lib.hid (HR0.out.below hbq25)
    have HBq25 := Lib.hid (below_next HB0.out hbq25)
    clear hbq25
    have h0q26 : (vq25.alloc (.cells Z 28)).heap[vq25.heap.size]? = some (.cells Z 28 (0, 0)) := heap_alloc_new _ _
    have HRq26 := Lib.hid (HRq25.out.new Z cq25 28)
    have HBq26 := Lib.hid (below_new HBq25.out Z cq25 28)
    have HNq26 := Lib.hid HRq25.out.ne
    have HGq26 := Lib.hid HBq25.out.size
    go_upto_region 2 with (refine wpList_store_row rfl 28 (.tmp 4) (.tmp 12) rfl vq25.heap.size cq25 rfl rfl 28 Z h0q26 (D.base.info Rq25.out) (sZ Rq25.out) (D.base.one Rq25.out) ?_)
    obtain ⟨Wq26, hWq26⟩ : ∃ W, (vq25.alloc (.cells Z 28)).setRow vq25.heap.size cq25 = W := ⟨_, rfl⟩
    obtain ⟨gq26, hgq26⟩ : ∃ g, vq25.heap.size = g := ⟨_, rfl⟩
    rw [hWq26, hgq26] at HRq26
    rw [hWq26] at HBq26
    rw [hgq26] at HNq26 HGq26
    rw [hWq26, hgq26]
    clear hWq26 hgq26 h0q26
    have NEq26_0 : Hid (g0 ≠ gq26) := Lib.hid (HNq26.out (g0, (arrB l), 22) (by simp))
    have NEq26_1 : Hid ((g0 + 1) ≠ gq26) := Lib.hid (HNq26.out ((g0 + 1), Z, 28) (by simp))
    have NEq26_2 : Hid ((g0 + 1 + 1) ≠ gq26) := Lib.hid (HNq26.out ((g0 + 1 + 1), (refP 0 0 0 0), 34) (by simp))
    have l27 := HRq26.out.tail.tail.tail.head
    go_wp2_with (refine wpList_load_row rfl 22 (.tmp 1) rfl g0 rfl 22 (arrB l) (0, 0) _ l27 Try.underlying22 rfl (arr32_info HL.out) ?_)
    have Ht28 : Hid (decF l = true) := Lib.hid HF.out
    have kq29 := fun W : World => (rdecodeN HL.out) W
    rw [Hp23.out, Ht28.out] at kq29
    have Kq29 := Lib.hid kq29
    clear kq29
    with_reducible refine (Kq29.out _).mono ?_
    rintro e vq29 ⟨cq29, rfl, rq29, hbq29⟩
    have Rq29 := Lib.hid rq29
    clear rq29
    have HRq29 := Lib.hid (HRq26.out.below hbq29)
    have HBq29 := Lib.hid (below_next HBq26.out hbq29)
    clear hbq29
    have h0q30 : (vq29.alloc (.cells (refP 0 0 0 0) 34)).heap[vq29.heap.size]? = some (.cells (refP 0 0 0 0) 34 (0, 0)) := heap_alloc_new _ _
    have HRq30 := Lib.hid (HRq29.out.new (refP 0 0 0 0) cq29 34)
    have HBq30 := Lib.hid (below_new HBq29.out (refP 0 0 0 0) cq29 34)
    have HNq30 := Lib.hid HRq29.out.ne
    have HGq30 := Lib.hid HBq29.out.size
    go_upto_region 3 with (refine wpList_store_row rfl 34 (.tmp 6) (.tmp 17) rfl vq29.heap.size cq29 rfl rfl 34 (refP 0 0 0 0) h0q30 (rq_info Rq29.out) (rq_z Rq29.out) (rq_one Rq29.out) ?_)
    obtain ⟨Wq30, hWq30⟩ : ∃ W, (vq29.alloc (.cells (refP 0 0 0 0) 34)).setRow vq29.heap.size cq29 = W := ⟨_, rfl⟩
    obtain ⟨gq30, hgq30⟩ : ∃ g, vq29.heap.size = g := ⟨_, rfl⟩
    rw [hWq30, hgq30] at HRq30
    rw [hWq30] at HBq30
    rw [hgq30] at HNq30 HGq30
    rw [hWq30, hgq30]
    clear hWq30 hgq30 h0q30
    have NEq30_0 : Hid (g0 ≠ gq30) := Lib.hid (HNq30.out (g0, (arrB l), 22) (by simp))
    have NEq30_1 : Hid ((g0 + 1) ≠ gq30) := Lib.hid (HNq30.out ((g0 + 1), Z, 28) (by simp))
    have NEq30_2 : Hid ((g0 + 1 + 1) ≠ gq30) := Lib.hid (HNq30.out ((g0 + 1 + 1), (refP 0 0 0 0), 34) (by simp))
    have NEq30_3 : Hid (gq26 ≠ gq30) := Lib.hid (HNq30.out (gq26, cq25, 28) (by simp))
    go_upto_region 4 with fail
    have la := HRq30.out.tail.head
    have lb := HRq30.out.head
    have l1 := HRq30.out.tail.tail.tail.head
    have l2 := HRq30.out.tail.tail.head
    have l2b : (Wq30.drew.setRow (g0 + 1) cq25).heap[g0 + 1 + 1]? = some (.cells (refP 0 0 0 0) 34 (0, 0)) := by rw [setRow_other _ _ _ _ (by omega)]; exact l2
    have HBx := Lib.hid (below_row (g := g0 + 1 + 1) (cs := cq29) (below_row (g := g0 + 1) (cs := cq25) (HBq30.out.drew) (by have := HG0.out; omega)) (by have := HG0.out; omega))
    have f1 : ((Wq30.drew.setRow (g0 + 1) cq25).setRow (g0 + 1 + 1) cq29).heap[g0 + 1]? = some (.cells cq25 28 (0, 0)) := by rw [setRow_other _ _ _ _ (by omega)]; exact setRow_heap _ _ _ _ _ _ l1
    have f2 : ((Wq30.drew.setRow (g0 + 1) cq25).setRow (g0 + 1 + 1) cq29).heap[g0 + 1 + 1]? = some (.cells cq29 34 (0, 0)) := setRow_heap _ _ _ _ _ _ l2b
    refine wp_region_noPanic ?_
    refine wp_region_held_drew (S := fun W => W.heap[gq26]? = some (.cells cq25 28 (0, 0)) ∧ W.heap[gq30]? = some (.cells cq29 34 (0, 0))) (by kernel_rfl) (by exact ⟨la, lb⟩) (fun hS => ?_)
    refine' take_at 0 rfl (by kernel_rfl) (by kernel_rfl) (by kernel_rfl) (fun _ _ _ h => h) (by rfl) hS ?_ ?_ ?_
    rotate_left 2
    · intro W hSW; exact run_loadR rfl rfl hSW.1 Try.underlying28 rfl (D.base.info Rq25.out)
    · simp only [List.set_cons_succ, List.set_cons_zero]; rfl
    refine' take_at 1 rfl (by kernel_rfl) (by kernel_rfl) (by kernel_rfl) (fun _ _ _ h => h) (by rfl) hS ?_ ?_ ?_
    rotate_left 2
    · intro W hSW; exact run_loadR rfl rfl hSW.2 Try.underlying34 rfl (rq_info Rq29.out)
    · simp only [List.set_cons_succ, List.set_cons_zero]; rfl
    refine call_at 2 rfl (by kernel_rfl) (by rfl) (fun K hK => ?_)
    refine wp_store_row 28 (.tmp 2) (.tmp 23) rfl (g0 + 1) cq25 rfl rfl 28 Z l1 (D.base.info Rq25.out) (sZ Rq25.out) (D.base.one Rq25.out) ?_
    refine hK.out _ _ (by exact ⟨by rw [setRow_other _ _ _ _ (Ne.symm NEq26_1.out)]; exact hS.1, by rw [setRow_other _ _ _ _ (Ne.symm NEq30_1.out)]; exact hS.2⟩) (fun hS => ?_)
    clear hK K
    refine call_at 3 rfl (by kernel_rfl) (by rfl) (fun K hK => ?_)
    refine wp_store_row 34 (.tmp 3) (.tmp 24) rfl (g0 + 1 + 1) cq29 rfl rfl 34 (refP 0 0 0 0) l2b (rq_info Rq29.out) (rq_z Rq29.out) (rq_one Rq29.out) ?_
    refine hK.out _ _ (by exact ⟨by rw [setRow_other _ _ _ _ (Ne.symm NEq26_2.out)]; exact hS.1, by rw [setRow_other _ _ _ _ (Ne.symm NEq30_2.out)]; exact hS.2⟩) (fun hS => ?_)
    clear hK K
    refine wpAnyH_done (by kernel_rfl) ?_ _
    refine NoPanic.normal ?_
    clear hS
    (try simp only [Act.put])
    go_wp2_with fail
    (try simp only [Exit.inBlock, Exit.then])
    refine bodyPost_ret (results_2c rfl _ _ (g0 + 1) (g0 + 1 + 1) _ _ cq25 cq29 _ _ _ _ rfl rfl f1 f2 Try.underlying28 rfl (D.base.info Rq25.out) Try.underlying34 rfl (rq_info Rq29.out)) rfl ?_
    exact ⟨_, _, rfl, by rw [show atP l = p23 by unfold atP; rw [if_pos HF.out, Hp23.out]]; exact Rq25.out, by rw [show atP l = p23 by unfold atP; rw [if_pos HF.out, Hp23.out]]; exact Rq29.out, HBx.out⟩
end Go.Proofs.Ytddijcopoaeejaa

