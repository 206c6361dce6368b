/- The walk of PointWrong. Written by wip/tools. -/
import Derived.Test.YtddijcopoaeejaaLaw12At
import Derived.Test.YtddijcopoaeejaaGheld
import Derived.Test.YtddijcopoaeejaaGbyt
namespace Go.Proofs.Ytddijcopoaeejaa
open Go.RowKit
set_option linter.unusedVariables false
set_option maxRecDepth 100000

set_option maxHeartbeats 6400000 in
theorem law12Wrong {R : Array Value → PtD → Prop} (D : PtC R) (n : Int) (n1 : -9223372036854775808 ≤ n) (n2 : n ≤ 9223372036854775807) (b : Bool) (w : World) : Calls Try.prog 8 #[.int .i64 n, .bool b] w fun e w' => e = .returned (.bool true) ∧ Below w.heap.size w w' := by
  have HAL : Hid (∀ W : World, Calls Try.prog 9 #[] W fun e w' => e = .returned (.bool true) ∧ Below W.heap.size W w') := Lib.hid (fun W => alive12_any D W)
  obtain ⟨Z, hZ, sZ⟩ := D.base.zero
  have hz32 := zero32_zero
  have hzP := refP_zero
  by_cases g0 : n < 237
  · have d0 : decide (n < 237) = true := decide_eq_true g0
    clear g0
    go_enter Try.func8, Try.ntmps8
    go_wp2_with fail
    with_reducible refine (HAL.out _).mono ?_
    rintro e v1 ⟨rfl, hb1⟩
    go_wp2_with fail
    go_ret
    exact ⟨rfl, hb1⟩
  have d0 : decide (n < 237) = false := decide_eq_false g0
  by_cases g1 : (255 : Int) < n
  · have d1 : decide ((255 : Int) < n) = true := decide_eq_true g1
    clear g0 g1
    go_enter Try.func8, Try.ntmps8
    go_wp2_with fail
    with_reducible refine (HAL.out _).mono ?_
    rintro e v1 ⟨rfl, hb1⟩
    go_wp2_with fail
    go_ret
    exact ⟨rfl, hb1⟩
  have d1 : decide ((255 : Int) < n) = false := decide_eq_false g1
  obtain ⟨m, rfl⟩ : ∃ m : Nat, n = (m : Int) := ⟨n.toNat, by omega⟩
  have hm : m < 256 := by omega
  have hm2 : 237 ≤ m := by omega
  have Hm := Lib.hid hm
  have Hm2 := Lib.hid hm2
  clear g0 g1 hm hm2 n1 n2
  go_enter Try.func8, Try.ntmps8
  go_wp2_with fail
  with_reducible refine (HAL.out _).mono ?_
  rintro e v1 ⟨rfl, hb1⟩
  have h0 : (v1.alloc (.cells zero32 22)).heap[v1.heap.size]? = some (.cells zero32 22 (0, 0)) := heap_alloc_new _ _
  have HR1 := Lib.hid ((RowsW.nil v1).new zero32 (arrB (fillB 0)) 22)
  have HB1 := Lib.hid (below_new hb1 zero32 (arrB (fillB 0)) 22)
  have HG1 := Lib.hid hb1.size
  have hq : arrB (fillB 0) = zero32 := rfl
  rw [hq] at HR1 HB1
  clear hb1
  go_wp2_with (refine wpList_store_row rfl 22 (.tmp 6) (.tmp 22) rfl v1.heap.size zero32 rfl rfl 22 zero32 h0 zero32_info rfl zero32_one ?_)
  obtain ⟨W1, hW1⟩ : ∃ W, (v1.alloc (.cells zero32 22)).setRow v1.heap.size zero32 = W := ⟨_, rfl⟩
  obtain ⟨g, hg⟩ : ∃ g, v1.heap.size = g := ⟨_, rfl⟩
  rw [hW1, hg] at HR1
  rw [hW1] at HB1
  rw [hg] at HG1
  rw [hg] at hW1
  rw [hg, hW1]
  rw [← hq] at HR1
  clear hW1 hg h0 hq
  go_loopw [7] (fun i wr => ∃ k : Nat, k ≤ 32 ∧ i = .int .i64 (k : Int) ∧ Hid (RowsW wr [(g, arrB (fillB k), 22)]) ∧ Hid (Below w.heap.size w wr)) (fun i _ => 32 - (intOf i).toNat)
  case atStart => exact ⟨0, by omega, rfl, HR1, HB1⟩
  case round =>
    clear HR1 HB1
    obtain ⟨k, hk, rfl, HR1, HB1⟩ := hrel
    by_cases hlt : k < 32
    · have cx : wr.cell? ⟨g, k, none⟩ = some (.int .u8 (((fillB k).getD k 0).toNat : Int)) := by rw [cell_of_row _ _ _ _ _ _ HR1.out.head, arrB_get _ _ (by rw [fillB_len hk]; exact hlt)]
      have fx := frozen_row HR1.out.head k
      have hs := HR1.out.set (by simp) k (.int .u8 255)
      rw [show (255 : Int) = ((255 : UInt8).toNat : Int) from rfl, arrB_set, fillB_set hlt] at hs
      have HR2 : Hid (RowsW (wr.setCell ⟨g, k, none⟩ (.int .u8 255)) [(g, arrB (fillB (k + 1)), 22)]) := Lib.hid hs
      have HB2 := Lib.hid (HB1.out.setCell (p := ⟨g, k, none⟩) (by show w.heap.size ≤ g; exact HG1.out) (.int .u8 255))
      generalize ((fillB k).getD k 0) = old at *
      have b5 : 0 ≤ (k : Int) := by omega
      have b6 : (k : Int) < 32 := by omega
      clear HR1 HB1 hs
      go_wp2_with fail
      go_roundw
      case rel => exact ⟨k + 1, by omega, by go_num, HR2, HB2⟩
      case measure => simp [intOf]; omega
    · obtain rfl : k = 32 := by omega
      have hm := Hm.out
      rw [fillB_end] at HR1
      obtain ⟨L, hL⟩ : ∃ L, List.replicate 32 (255 : UInt8) = L := ⟨_, rfl⟩
      have hLl : L.length = 32 := by rw [← hL]; simp
      rw [hL] at HR1
      have c0 : wr.cell? ⟨g, 0, none⟩ = some (.int .u8 ((L.getD 0 0).toNat : Int)) := by rw [cell_of_row _ _ _ _ _ _ HR1.out.head, arrB_get _ _ (by omega)]
      have f0 := frozen_row HR1.out.head 0
      have e2 : ((UInt8.ofNat m).toNat : Int) = (m : Int) := by simp; omega
      have hs := HR1.out.set (by simp) 0 (.int .u8 ((UInt8.ofNat m).toNat : Int))
      rw [arrB_set, e2] at hs
      have hb2 := HB1.out.setCell (p := ⟨g, 0, none⟩) (by show w.heap.size ≤ g; exact HG1.out) (.int .u8 (m : Int))
      have f2 : IntKind.u8.wrap (m : Int) = (m : Int) := by rw [IntKind.wrap_u8]; omega
      generalize (L.getD 0 0) = old0 at *
      cases b
      · skip
        have c1 : (wr.setCell ⟨g, 0, none⟩ (.int .u8 (m : Int))).cell? ⟨g, 31, none⟩ = some (.int .u8 (((L.set 0 (UInt8.ofNat m)).getD 31 0).toNat : Int)) := by rw [cell_of_row _ _ _ _ _ _ hs.head, arrB_get _ _ (by rw [List.length_set]; omega)]
        have f1 := frozen_row hs.head 31
        have hs2 := hs.set (by simp) 31 (.int .u8 127)
        rw [show (127 : Int) = ((127 : UInt8).toNat : Int) from rfl, arrB_set] at hs2
        have hs3 : RowsW ((wr.setCell ⟨g, 0, none⟩ (.int .u8 (m : Int))).setCell ⟨g, 31, none⟩ (.int .u8 127)) [(g, arrB (edgeB m), 22)] := by unfold edgeB; rw [hL]; exact hs2
        have hb3 := hb2.setCell (p := ⟨g, 31, none⟩) (by show w.heap.size ≤ g; exact HG1.out) (.int .u8 127)
        generalize ((L.set 0 (UInt8.ofNat m)).getD 31 0) = old1 at *
        have HR3 := Lib.hid hs3
        have HB3 := Lib.hid hb3
        clear hs2 hs3 hb3
        clear hs hb2 HR1 HB1 e2 hL hLl hlt hk hm
        go_upto_region 12 with fail
        obtain ⟨W4, hW4⟩ : ∃ W, (wr.setCell ⟨g, 0, none⟩ (.int .u8 (m : Int))).setCell ⟨g, 31, none⟩ (.int .u8 127) = W := ⟨_, rfl⟩
        rw [hW4] at HR3 HB3
        rw [hW4]
        have Hb := Lib.hid (show (edgeB m).length = 32 from (edge_len m))
        clear hW4 c0 f0 f2 c1 f1
        obtain ⟨hF, hP⟩ := edge_no Hm2.out Hm.out
        obtain ⟨B, hB⟩ : ∃ B, (edgeB m) = B := ⟨_, rfl⟩
        rw [hB] at HR3 Hb hF hP
        have HF := Lib.hid hF
        have HP := Lib.hid hP
        clear hB hF hP
        have l1 := HR3.out.head
        go_wp2_with (refine wpList_load_row rfl 22 (.tmp 6) rfl g rfl 22 (arrB B) (0, 0) _ l1 Try.underlying22 rfl (arr32_info Hb.out) ?_)
        obtain ⟨p2, hp2⟩ : ∃ y_ : PtD, decP B = y_ := ⟨_, rfl⟩
        have Hp2 := Lib.hid hp2
        clear hp2
        have Ht3 : Hid (decF B = false) := Lib.hid HF.out
        have kq4 := fun W : World => (D.decode B Hb.out) W
        rw [Hp2.out, Ht3.out] at kq4
        have Kq4 := Lib.hid kq4
        clear kq4
        with_reducible refine (Kq4.out _).mono ?_
        rintro e vq4 ⟨cq4, rfl, rq4, hbq4⟩
        have Rq4 := Lib.hid rq4
        clear rq4
        have HRq4 := Lib.hid (HR3.out.below hbq4)
        have HBq4 := Lib.hid (below_next HB3.out hbq4)
        clear hbq4
        have h0q5 : (vq4.alloc (.cells Z 28)).heap[vq4.heap.size]? = some (.cells Z 28 (0, 0)) := heap_alloc_new _ _
        have HRq5 := Lib.hid (HRq4.out.new Z cq4 28)
        have HBq5 := Lib.hid (below_new HBq4.out Z cq4 28)
        have HNq5 := Lib.hid HRq4.out.ne
        have HGq5 := Lib.hid HBq4.out.size
        go_upto_region 13 with (refine wpList_store_row rfl 28 (.tmp 8) (.tmp 38) rfl vq4.heap.size cq4 rfl rfl 28 Z h0q5 (D.base.info Rq4.out) (sZ Rq4.out) (D.base.one Rq4.out) ?_)
        obtain ⟨Wq5, hWq5⟩ : ∃ W, (vq4.alloc (.cells Z 28)).setRow vq4.heap.size cq4 = W := ⟨_, rfl⟩
        obtain ⟨gq5, hgq5⟩ : ∃ g, vq4.heap.size = g := ⟨_, rfl⟩
        rw [hWq5, hgq5] at HRq5
        rw [hWq5] at HBq5
        rw [hgq5] at HNq5 HGq5
        rw [hWq5, hgq5]
        clear hWq5 hgq5 h0q5
        have NEq5_0 : Hid (g ≠ gq5) := Lib.hid (HNq5.out (g, (arrB B), 22) (by simp))
        refine wp_region_noPanic ?_
        refine wp_region_held_drew (S := fun W => Below Wq5.heap.size Wq5 W) (by kernel_rfl) (by exact (Below.refl _ _).drew) (fun hS => ?_)
        refine' take_at 0 rfl (by kernel_rfl) (by kernel_rfl) (by kernel_rfl) (fun _ _ _ h => h) (by rfl) hS ?_ ?_ ?_
        rotate_left 2
        · intro W hSW; go_simp; try with_reducible rfl
        · simp only [List.set_cons_succ, List.set_cons_zero]; rfl
        refine' take_at 1 rfl (by kernel_rfl) (by kernel_rfl) (by kernel_rfl) (fun _ _ _ h => h) (by rfl) hS ?_ ?_ ?_
        rotate_left 2
        · intro W hSW; go_simp; try with_reducible rfl
        · simp only [List.set_cons_succ, List.set_cons_zero]; rfl
        refine' take_at 2 rfl (by kernel_rfl) (by kernel_rfl) (by kernel_rfl) (fun _ _ _ h => h) (by rfl) hS ?_ ?_ ?_
        rotate_left 2
        · intro W hSW; go_simp; try with_reducible rfl
        · simp only [List.set_cons_succ, List.set_cons_zero]; rfl
        refine' take_at 3 rfl (by kernel_rfl) (by kernel_rfl) (by kernel_rfl) (fun _ _ _ h => h) (by rfl) hS ?_ ?_ ?_
        rotate_left 2
        · intro W hSW; exact run_loadR rfl rfl (HRq5.out.below hSW).head Try.underlying28 rfl (D.base.info Rq4.out)
        · simp only [List.set_cons_succ, List.set_cons_zero]; rfl
        refine call_at 4 rfl (by kernel_rfl) (by rfl) (fun K hK => ?_)
        go_simp
        with_reducible refine ((fun W => D.zero W) _).mono ?_
        rintro e vq6 ⟨cq6, rfl, rq6, hbq6⟩
        have Rq6 := Lib.hid rq6
        clear rq6
        have kbq6 := below_next hS hbq6
        clear hS hbq6
        refine hK.out _ _ (by exact kbq6) (fun hS => ?_)
        clear hK K
        refine call_at 5 rfl (by kernel_rfl) (by rfl) (fun K hK => ?_)
        go_simp
        have kq7 := fun W : World => (D.equal Rq4.out Rq6.out) W
        rw [show ptEq p2 pzero = true from (ptEq_iff.2 (by rw [← Hp2.out]; exact HP.out))] at kq7
        have Kq7 := Lib.hid kq7
        clear kq7
        with_reducible refine (Kq7.out _).mono ?_
        rintro e vq7 ⟨rfl, hbq7⟩
        have kbq7 := below_next kbq6 hbq7
        clear hS hbq7
        refine hK.out _ _ (by exact kbq7) (fun hS => ?_)
        clear hK K
        refine' take_at 6 rfl (by kernel_rfl) (by kernel_rfl) (by kernel_rfl) (fun _ _ _ h => h) (by rfl) hS ?_ ?_ ?_
        rotate_left 2
        · intro W hSW; go_simp; try with_reducible rfl
        · simp only [List.set_cons_succ, List.set_cons_zero]; rfl
        refine' take_at 7 rfl (by kernel_rfl) (by kernel_rfl) (by kernel_rfl) (fun _ _ _ h => h) (by rfl) hS ?_ ?_ ?_
        rotate_left 2
        · intro W hSW; go_simp; try with_reducible rfl
        · simp only [List.set_cons_succ, List.set_cons_zero]; rfl
        refine wpAnyH_done (by kernel_rfl) ?_ _
        refine NoPanic.normal ?_
        clear hS
        (try simp only [Act.put])
        have HRq8 := Lib.hid (HRq5.out.below kbq7)
        have HBq8 := Lib.hid (below_next HBq5.out kbq7)
        go_wp2_with fail
        go_ret
        exact ⟨rfl, HBq8.out⟩
      · skip
        rw [← hL] at hs
        have HR3 := Lib.hid hs
        have HB3 := Lib.hid hb2
        clear hs hb2 HR1 HB1 e2 hL hLl hlt hk hm
        go_upto_region 12 with fail
        obtain ⟨W4, hW4⟩ : ∃ W, wr.setCell ⟨g, 0, none⟩ (.int .u8 (m : Int)) = W := ⟨_, rfl⟩
        rw [hW4] at HR3 HB3
        rw [hW4]
        have Hb := Lib.hid (show ((List.replicate 32 (255 : UInt8)).set 0 (UInt8.ofNat m)).length = 32 from (by simp))
        clear hW4 c0 f0 f2
        obtain ⟨hF, hP⟩ := high_no Hm2.out Hm.out
        obtain ⟨B, hB⟩ : ∃ B, ((List.replicate 32 (255 : UInt8)).set 0 (UInt8.ofNat m)) = B := ⟨_, rfl⟩
        rw [hB] at HR3 Hb hF hP
        have HF := Lib.hid hF
        have HP := Lib.hid hP
        clear hB hF hP
        have l9 := HR3.out.head
        go_wp2_with (refine wpList_load_row rfl 22 (.tmp 6) rfl g rfl 22 (arrB B) (0, 0) _ l9 Try.underlying22 rfl (arr32_info Hb.out) ?_)
        obtain ⟨p10, hp10⟩ : ∃ y_ : PtD, decP B = y_ := ⟨_, rfl⟩
        have Hp10 := Lib.hid hp10
        clear hp10
        have Ht11 : Hid (decF B = false) := Lib.hid HF.out
        have kq12 := fun W : World => (D.decode B Hb.out) W
        rw [Hp10.out, Ht11.out] at kq12
        have Kq12 := Lib.hid kq12
        clear kq12
        with_reducible refine (Kq12.out _).mono ?_
        rintro e vq12 ⟨cq12, rfl, rq12, hbq12⟩
        have Rq12 := Lib.hid rq12
        clear rq12
        have HRq12 := Lib.hid (HR3.out.below hbq12)
        have HBq12 := Lib.hid (below_next HB3.out hbq12)
        clear hbq12
        have h0q13 : (vq12.alloc (.cells Z 28)).heap[vq12.heap.size]? = some (.cells Z 28 (0, 0)) := heap_alloc_new _ _
        have HRq13 := Lib.hid (HRq12.out.new Z cq12 28)
        have HBq13 := Lib.hid (below_new HBq12.out Z cq12 28)
        have HNq13 := Lib.hid HRq12.out.ne
        have HGq13 := Lib.hid HBq12.out.size
        go_upto_region 13 with (refine wpList_store_row rfl 28 (.tmp 8) (.tmp 38) rfl vq12.heap.size cq12 rfl rfl 28 Z h0q13 (D.base.info Rq12.out) (sZ Rq12.out) (D.base.one Rq12.out) ?_)
        obtain ⟨Wq13, hWq13⟩ : ∃ W, (vq12.alloc (.cells Z 28)).setRow vq12.heap.size cq12 = W := ⟨_, rfl⟩
        obtain ⟨gq13, hgq13⟩ : ∃ g, vq12.heap.size = g := ⟨_, rfl⟩
        rw [hWq13, hgq13] at HRq13
        rw [hWq13] at HBq13
        rw [hgq13] at HNq13 HGq13
        rw [hWq13, hgq13]
        clear hWq13 hgq13 h0q13
        have NEq13_0 : Hid (g ≠ gq13) := Lib.hid (HNq13.out (g, (arrB B), 22) (by simp))
        refine wp_region_noPanic ?_
        refine wp_region_held_drew (S := fun W => Below Wq13.heap.size Wq13 W) (by kernel_rfl) (by exact (Below.refl _ _).drew) (fun hS => ?_)
        refine' take_at 0 rfl (by kernel_rfl) (by kernel_rfl) (by kernel_rfl) (fun _ _ _ h => h) (by rfl) hS ?_ ?_ ?_
        rotate_left 2
        · intro W hSW; go_simp; try with_reducible rfl
        · simp only [List.set_cons_succ, List.set_cons_zero]; rfl
        refine' take_at 1 rfl (by kernel_rfl) (by kernel_rfl) (by kernel_rfl) (fun _ _ _ h => h) (by rfl) hS ?_ ?_ ?_
        rotate_left 2
        · intro W hSW; go_simp; try with_reducible rfl
        · simp only [List.set_cons_succ, List.set_cons_zero]; rfl
        refine' take_at 2 rfl (by kernel_rfl) (by kernel_rfl) (by kernel_rfl) (fun _ _ _ h => h) (by rfl) hS ?_ ?_ ?_
        rotate_left 2
        · intro W hSW; go_simp; try with_reducible rfl
        · simp only [List.set_cons_succ, List.set_cons_zero]; rfl
        refine' take_at 3 rfl (by kernel_rfl) (by kernel_rfl) (by kernel_rfl) (fun _ _ _ h => h) (by rfl) hS ?_ ?_ ?_
        rotate_left 2
        · intro W hSW; exact run_loadR rfl rfl (HRq13.out.below hSW).head Try.underlying28 rfl (D.base.info Rq12.out)
        · simp only [List.set_cons_succ, List.set_cons_zero]; rfl
        refine call_at 4 rfl (by kernel_rfl) (by rfl) (fun K hK => ?_)
        go_simp
        with_reducible refine ((fun W => D.zero W) _).mono ?_
        rintro e vq14 ⟨cq14, rfl, rq14, hbq14⟩
        have Rq14 := Lib.hid rq14
        clear rq14
        have kbq14 := below_next hS hbq14
        clear hS hbq14
        refine hK.out _ _ (by exact kbq14) (fun hS => ?_)
        clear hK K
        refine call_at 5 rfl (by kernel_rfl) (by rfl) (fun K hK => ?_)
        go_simp
        have kq15 := fun W : World => (D.equal Rq12.out Rq14.out) W
        rw [show ptEq p10 pzero = true from (ptEq_iff.2 (by rw [← Hp10.out]; exact HP.out))] at kq15
        have Kq15 := Lib.hid kq15
        clear kq15
        with_reducible refine (Kq15.out _).mono ?_
        rintro e vq15 ⟨rfl, hbq15⟩
        have kbq15 := below_next kbq14 hbq15
        clear hS hbq15
        refine hK.out _ _ (by exact kbq15) (fun hS => ?_)
        clear hK K
        refine' take_at 6 rfl (by kernel_rfl) (by kernel_rfl) (by kernel_rfl) (fun _ _ _ h => h) (by rfl) hS ?_ ?_ ?_
        rotate_left 2
        · intro W hSW; go_simp; try with_reducible rfl
        · simp only [List.set_cons_succ, List.set_cons_zero]; rfl
        refine' take_at 7 rfl (by kernel_rfl) (by kernel_rfl) (by kernel_rfl) (fun _ _ _ h => h) (by rfl) hS ?_ ?_ ?_
        rotate_left 2
        · intro W hSW; go_simp; try with_reducible rfl
        · simp only [List.set_cons_succ, List.set_cons_zero]; rfl
        refine wpAnyH_done (by kernel_rfl) ?_ _
        refine NoPanic.normal ?_
        clear hS
        (try simp only [Act.put])
        have HRq16 := Lib.hid (HRq13.out.below kbq15)
        have HBq16 := Lib.hid (below_next HBq13.out kbq15)
        go_wp2_with fail
        go_ret
        exact ⟨rfl, HBq16.out⟩
end Go.Proofs.Ytddijcopoaeejaa

