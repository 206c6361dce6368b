/- The laws' half, plus, at, alive. Written by wip/tools/mk_mult13.py. -/
import Derived.Test.YtfejabfmhddepaaLaw13Spec
import Derived.Test.YtfejabfmhddepaaRefMult
import Derived.Test.YtfejabfmhddepaaGpow
import Derived.Deep.QuietTactic
namespace Go.Proofs.Ytfejabfmhddepaa
open Go.RowKit
set_option linter.unusedVariables false
set_option maxRecDepth 100000

set_option maxHeartbeats 800000 in
theorem half13_any {l : List UInt8} (hl : l.length = 32) (w : World) : Calls Try.prog 17 #[.agg (arrB l)] w (RetV w (.agg (arrB (topC l)))) := by
  have hz32 := zero32_zero
  have HR0 := Lib.hid (((RowsW.nil w).box (arrB l) 22).box zero32 22)
  have HB0 := Lib.hid (below_box (below_box (Below.refl w.heap.size w) (arrB l) 22) zero32 22)
  rw [World.size_alloc] at HR0
  obtain ⟨x, hx⟩ : ∃ x : UInt8, l.getD 31 0 = x := ⟨_, rfl⟩
  have ha : bits .and .u8 (x.toNat : Int) 127 = ((x &&& 127).toNat : Int) := u8_and' x 127
  obtain ⟨t, ht⟩ : ∃ t : Int, ((x &&& 127).toNat : Int) = t := ⟨_, rfl⟩
  have HL := Lib.hid hl
  clear hl
  go_enter Try.func17, Try.ntmps17
  go_upto_region 1 with fail
  obtain ⟨W0, hW0⟩ : ∃ W, (w.alloc (.cells (arrB l) 22)).alloc (.cells zero32 22) = W := ⟨_, rfl⟩
  obtain ⟨g, hg⟩ : ∃ g, w.heap.size = g := ⟨_, rfl⟩
  rw [hW0] at HR0 HB0
  rw [hg] at HR0
  rw [hW0, hg]
  have HG := Lib.hid hg
  clear hW0 hg
  have cx : W0.cell? ⟨g, 31, none⟩ = some (.int .u8 (x.toNat : Int)) := by rw [cell_of_row _ _ _ _ _ _ HR0.out.tail.head, arrB_get _ _ (by rw [HL.out]; omega), hx]
  have fx := frozen_row HR0.out.tail.head 31
  have l1 := HR0.out.tail.head
  have hs := setCell_eq_setRow W0 g 31 _ _ _ (.int .u8 ((x &&& 127).toNat : Int)) l1
  rw [arrB_set, ← hx] at hs
  rw [show l.set 31 (l.getD 31 0 &&& 127) = topC l from rfl, hx, ht] at hs
  rw [ht] at ha
  have l2 : (W0.setRow g (arrB (topC l))).heap[g + 1]? = some (.cells zero32 22 (0, 0)) := by rw [setRow_other _ _ _ _ (by omega)]; exact HR0.out.head
  have l3 : (W0.setRow g (arrB (topC l))).heap[g]? = some (.cells (arrB (topC l)) 22 (0, 0)) := setRow_heap _ _ _ _ _ _ l1
  have iT : (Try.prog.info? 22).map (·.size) = some (arrB (topC l)).size := arr32_info (by rw [topC_len, HL.out])
  have zT : zero32.size = (arrB (topC l)).size := zero32_size (by rw [topC_len, HL.out])
  have oT := arrB_one (topC l)
  have HB1 := Lib.hid (below_row (g := g + 1) (cs := arrB (topC l)) (below_row (g := g) (cs := arrB (topC l)) HB0.out (by rw [HG.out]; exact Nat.le_refl _)) (by rw [HG.out]; omega))
  have HS := Lib.hid hs
  generalize arrB (topC l) = T at *
  clear hs hx l1
  go_upto_region 2 with fail
  rw [HS.out]
  clear cx fx ha HS ht
  go_wp2_with (first
    | (refine wpList_load_row rfl 22 (.tmp 1) rfl g rfl 22 T (0, 0) _ l3 Try.underlying22 rfl iT ?_)
    | (refine wpList_store_row rfl 22 (.tmp 2) (.tmp 7) rfl (g + 1) T rfl rfl 22 zero32 l2 iT zT oT ?_))
  (try simp only [Exit.inBlock, Exit.then])
  refine bodyPost_ret (results_cell_row rfl _ _ (g + 1) _ T _ _ rfl (setRow_heap _ _ _ _ _ _ l2) Try.underlying22 rfl iT) rfl ?_
  exact ⟨rfl, HB1.out⟩

set_option maxHeartbeats 1600000 in
theorem plus13_any {l m : List UInt8} (hl : l.length = 32) (hm : m.length = 32) (w : World) : Calls Try.prog 20 #[.agg (arrB l), .agg (arrB m)] w (RetV w (.agg (bytT (leN l + leN m)))) := by
  have hz32 := zero32_zero
  have HR0 := Lib.hid ((((RowsW.nil w).box (arrB l) 22).box (arrB m) 22).box zero32 22)
  have HB0 := Lib.hid (below_box (below_box (below_box (Below.refl w.heap.size w) (arrB l) 22) (arrB m) 22) zero32 22)
  rw [World.size_alloc, World.size_alloc] at HR0
  have HL := Lib.hid hl
  have HM := Lib.hid hm
  clear hl hm
  go_enter Try.func20, Try.ntmps20
  go_wp2_with fail
  obtain ⟨W0, hW0⟩ : ∃ W, ((w.alloc (.cells (arrB l) 22)).alloc (.cells (arrB m) 22)).alloc (.cells zero32 22) = W := ⟨_, rfl⟩
  obtain ⟨g, hg⟩ : ∃ g, w.heap.size = g := ⟨_, rfl⟩
  rw [hW0] at HR0 HB0
  rw [hg] at HR0
  rw [hW0, hg]
  have HG := Lib.hid hg
  clear hW0 hg
  rw [← sumB_zero l m] at HR0
  go_loopw [5, 6] (fun c_ i_ wr => ∃ k : Nat, k ≤ 32 ∧ i_ = .int .i64 (k : Int) ∧ c_ = .int .i64 (carN l m k : Int) ∧ Hid (RowsW wr [(g + 1 + 1, zero32, 22), (g + 1, arrB m, 22), (g, arrB (sumB l m k), 22)]) ∧ Hid (Below w.heap.size w wr)) (fun _ i_ _ => 32 - (intOf i_).toNat)
  case atStart => exact ⟨0, by omega, rfl, by rw [show carN l m 0 = 0 by unfold carN; rw [lowN_zero, lowN_zero]]; rfl, HR0, HB0⟩
  case round =>
    clear HR0 HB0
    obtain ⟨k, hk, rfl, rfl, HR1, HB1⟩ := hrel
    by_cases hlt : k < 32
    · have hc := carN_le l m (k := k) (by rw [HL.out]; exact hk) (by rw [HM.out]; exact hk)
      have hcs := carN_succ l m (k := k) (by rw [HL.out]; exact hlt) (by rw [HM.out]; exact hlt)
      obtain ⟨x, hx⟩ : ∃ x, (l.getD k 0).toNat = x := ⟨_, rfl⟩
      obtain ⟨y, hy⟩ : ∃ y, (m.getD k 0).toNat = y := ⟨_, rfl⟩
      have hxl : x < 256 := by rw [← hx]; exact (l.getD k 0).toNat_lt
      have hyl : y < 256 := by rw [← hy]; exact (m.getD k 0).toNat_lt
      obtain ⟨c, hcc⟩ : ∃ c, carN l m k = c := ⟨_, rfl⟩
      rw [hx, hy, hcc] at hcs
      rw [hcc] at hc
      rw [hcc]
      obtain ⟨s, hs⟩ : ∃ s, c + x + y = s := ⟨_, rfl⟩
      have hsl : s < 512 := by omega
      rw [hs] at hcs
      obtain ⟨d, hd⟩ : ∃ d, s % 256 = d := ⟨_, rfl⟩
      obtain ⟨e, he⟩ : ∃ e, s / 256 = e := ⟨_, rfl⟩
      rw [he] at hcs
      have cx : wr.cell? ⟨g, k, none⟩ = some (.int .u8 (x : Int)) := by rw [cell_of_row _ _ _ _ _ _ HR1.out.tail.tail.head, arrB_get _ _ (by rw [sumB_len HL.out hk]; exact hlt), sumB_get HL.out hlt, hx]
      have cy : wr.cell? ⟨g + 1, k, none⟩ = some (.int .u8 (y : Int)) := by rw [cell_of_row _ _ _ _ _ _ HR1.out.tail.head, arrB_get _ _ (by rw [HM.out]; exact hlt), hy]
      have cx' : wr.drew.cell? ⟨g, k, none⟩ = some (.int .u8 (x : Int)) := cx
      have fx := frozen_row HR1.out.tail.tail.head k
      have t1 : IntKind.i64.wrap (x : Int) = (x : Int) := by rw [IntKind.wrap_i64]; omega
      have t2 : IntKind.i64.wrap (y : Int) = (y : Int) := by rw [IntKind.wrap_i64]; omega
      have t3 : IntKind.i64.wrap ((c : Int) + (x : Int)) = ((c + x : Nat) : Int) := by rw [IntKind.wrap_i64]; omega
      have t4 : IntKind.i64.wrap (((c + x : Nat) : Int) + (y : Int)) = (s : Int) := by rw [IntKind.wrap_i64]; omega
      have t5 : bits .and .i64 (s : Int) 255 = (d : Int) := by rw [i64_and255]; omega
      have t6 : IntKind.u8.wrap (d : Int) = (d : Int) := by rw [IntKind.wrap_u8]; omega
      have t7 : (s : Int) / 256 = (e : Int) := by omega
      have hb := sumB_set HL.out HM.out hlt (UInt8.ofNat d) (by rw [hx, hy, hcc, hs]; simp; omega)
      have hse : ((UInt8.ofNat d).toNat : Int) = (d : Int) := by simp; omega
      have HCS := Lib.hid hcs
      have b5 : 0 ≤ (k : Int) := by omega
      have b6 : (k : Int) < 32 := by omega
      have HBB := Lib.hid hb
      have HSE := Lib.hid hse
      have t8 : (c : Int) + (x : Int) + (y : Int) = (s : Int) := by omega
      have t9 : (d : Int) % 256 = (d : Int) := by omega
      clear hb hse hd he hx hy hcc hcs hs t3 t4
      go_wp2_with fail
      go_quiet (fail)
      obtain ⟨W5, hW5⟩ : ∃ W, wr.drewN nq = W := ⟨_, rfl⟩
      have hbN : Below wr.heap.size wr W5 := by rw [← hW5]; exact below_drewN' (Below.refl _ _) nq
      have HR5 := Lib.hid (HR1.out.below hbN)
      have HB5 := Lib.hid (below_next HB1.out hbN)
      have cx5 : W5.cell? ⟨g, k, none⟩ = some (.int .u8 (x : Int)) := by rw [← hW5]; exact cx
      have fx5 := frozen_row HR5.out.tail.tail.head k
      rw [hW5]
      have HR2 : Hid (RowsW (W5.setCell ⟨g, k, none⟩ (.int .u8 (d : Int))) [(g + 1 + 1, zero32, 22), (g + 1, arrB m, 22), (g, arrB (sumB l m (k + 1)), 22)]) := Lib.hid (by
        have hr := HR5.out
        rw [setCell_eq_setRow W5 g k _ _ _ (.int .u8 (d : Int)) hr.tail.tail.head, ← HSE.out, arrB_set, HBB.out]
        exact ⟨by rw [setRow_other _ _ _ _ (by omega)]; exact hr.head, by rw [setRow_other _ _ _ _ (by omega)]; exact hr.tail.head, setRow_heap _ _ _ _ _ _ hr.tail.tail.head, trivial⟩)
      have HB2 := Lib.hid (HB5.out.setCell (p := ⟨g, k, none⟩) (by show w.heap.size ≤ g; rw [HG.out]; exact Nat.le_refl _) (.int .u8 (d : Int)))
      clear HR1 HB1 HR5 HB5 hbN hW5 cx cx' cy fx HBB HSE
      go_wp2_with fail
      go_roundw
      case rel => exact ⟨k + 1, by omega, by go_num, by rw [HCS.out], HR2, HB2⟩
      case measure => simp [intOf] <;> omega
    · obtain rfl : k = 32 := by omega
      rw [sumB_end HL.out HM.out] at HR1
      have l1 := HR1.out.tail.tail.head
      have l2 := HR1.out.head
      have HB1' := Lib.hid (below_row (g := g + 1 + 1) (cs := bytT (leN l + leN m)) HB1.out (by rw [HG.out]; omega))
      go_wp2_with (first
        | (refine wpList_load_row rfl 22 (.tmp 2) rfl g rfl 22 (bytT (leN l + leN m)) (0, 0) _ l1 Try.underlying22 rfl (bytT_info _) ?_)
        | (refine wpList_store_row rfl 22 (.tmp 4) (.tmp 29) rfl (g + 1 + 1) (bytT (leN l + leN m)) rfl rfl 22 zero32 l2 (bytT_info _) (zero32_byt _) (bytT_one _) ?_))
      (try simp only [Exit.inBlock, Exit.then])
      refine bodyPost_ret (results_cell_row rfl _ _ (g + 1 + 1) _ (bytT (leN l + leN m)) _ _ rfl (setRow_heap _ _ _ _ _ _ l2) Try.underlying22 rfl (bytT_info _)) rfl ?_
      exact ⟨rfl, HB1'.out⟩

set_option maxHeartbeats 6400000 in
theorem at13_any {R : Array Value → PtD → Prop} (D : PtC R) (l : List UInt8) (hl : l.length = 32) (w : World) : Calls Try.prog 9 #[.agg (arrB l)] w (RetPt R w (atP l)) := by
  have HL := Lib.hid hl
  clear hl
  obtain ⟨Z, hZ, sZ⟩ := D.base.zero
  have hz32 := zero32_zero
  have hzP := refP_zero
  have HR0 := Lib.hid (((RowsW.nil w).box (arrB l) 22).box Z 28)
  have HB0 := Lib.hid (below_box (below_box (Below.refl w.heap.size w) (arrB l) 22) Z 28)
  rw [World.size_alloc] at HR0
  go_enter Try.func9, Try.ntmps9
  go_upto_region 1 with fail
  obtain ⟨W0, hW0⟩ : ∃ W, (w.alloc (.cells (arrB l) 22)).alloc (.cells Z 28) = W := ⟨_, rfl⟩
  obtain ⟨g0, hg0⟩ : ∃ g, w.heap.size = g := ⟨_, rfl⟩
  rw [hW0] at HR0 HB0
  rw [hg0] at HR0
  rw [hW0, hg0]
  have HG0 := Lib.hid hg0
  clear hW0 hg0
  cases hf : decF l
  · have HF := Lib.hid hf
    clear hf
    have l1 := HR0.out.tail.head
    go_wp2_with (refine wpList_load_row rfl 22 (.tmp 1) rfl g0 rfl 22 (arrB l) (0, 0) _ l1 Try.underlying22 rfl (arr32_info HL.out) ?_)
    obtain ⟨p2, hp2⟩ : ∃ y_ : PtD, decP l = y_ := ⟨_, rfl⟩
    have Hp2 := Lib.hid hp2
    clear hp2
    have Ht3 : Hid (decF l = false) := Lib.hid HF.out
    have kq4 := fun W : World => (D.decode l HL.out) W
    rw [Hp2.out, Ht3.out] at kq4
    have Kq4 := Lib.hid kq4
    clear kq4
    with_reducible refine (Kq4.out _).mono ?_
    rintro e vq4 ⟨cq4, rfl, rq4, hbq4⟩
    have Rq4 := Lib.hid rq4
    clear rq4
    have HRq4 := Lib.hid (HR0.out.below hbq4)
    have HBq4 := Lib.hid (below_next HB0.out hbq4)
    clear hbq4
    have h0q5 : (vq4.alloc (.cells Z 28)).heap[vq4.heap.size]? = some (.cells Z 28 (0, 0)) := heap_alloc_new _ _
    have HRq5 := Lib.hid (HRq4.out.new Z cq4 28)
    have HBq5 := Lib.hid (below_new HBq4.out Z cq4 28)
    have HNq5 := Lib.hid HRq4.out.ne
    have HGq5 := Lib.hid HBq4.out.size
    go_upto_region 2 with (refine wpList_store_row rfl 28 (.tmp 3) (.tmp 9) rfl vq4.heap.size cq4 rfl rfl 28 Z h0q5 (D.base.info Rq4.out) (sZ Rq4.out) (D.base.one Rq4.out) ?_)
    obtain ⟨Wq5, hWq5⟩ : ∃ W, (vq4.alloc (.cells Z 28)).setRow vq4.heap.size cq4 = W := ⟨_, rfl⟩
    obtain ⟨gq5, hgq5⟩ : ∃ g, vq4.heap.size = g := ⟨_, rfl⟩
    rw [hWq5, hgq5] at HRq5
    rw [hWq5] at HBq5
    rw [hgq5] at HNq5 HGq5
    rw [hWq5, hgq5]
    clear hWq5 hgq5 h0q5
    have NEq5_0 : Hid (g0 ≠ gq5) := Lib.hid (HNq5.out (g0, (arrB l), 22) (by simp))
    have NEq5_1 : Hid ((g0 + 1) ≠ gq5) := Lib.hid (HNq5.out ((g0 + 1), Z, 28) (by simp))
    go_wp2_with fail
    with_reducible refine ((fun W => D.basep W) _).mono ?_
    rintro e vq6 ⟨cq6, rfl, rq6, hbq6⟩
    have Rq6 := Lib.hid rq6
    clear rq6
    have HRq6 := Lib.hid (HRq5.out.below hbq6)
    have HBq6 := Lib.hid (below_next HBq5.out hbq6)
    clear hbq6
    have lsq7 := HRq6.out.head
    have HRq7 : Hid (RowsW (vq6.setRow gq5 cq6) [(gq5, cq6, 28), ((g0 + 1), Z, 28), (g0, (arrB l), 22)]) := Lib.hid ⟨setRow_heap _ _ _ _ _ _ lsq7, (by rw [setRow_other _ _ _ _ NEq5_1.out]; exact HRq6.out.tail.head), (by rw [setRow_other _ _ _ _ NEq5_0.out]; exact HRq6.out.tail.tail.head), trivial⟩
    have HBq7 := Lib.hid (below_row (g := gq5) (cs := cq6) HBq6.out HGq5.out)
    go_upto_region 5 with (refine wpList_store_row rfl 28 (.tmp 3) (.tmp 13) rfl gq5 cq6 rfl rfl 28 cq4 lsq7 (D.base.info Rq6.out) (by have a := (sZ Rq4.out); have b := (sZ Rq6.out); rw [← a, ← b]) (D.base.one Rq6.out) ?_)
    obtain ⟨Wq7, hWq7⟩ : ∃ W, vq6.setRow gq5 cq6 = W := ⟨_, rfl⟩
    rw [hWq7] at HRq7 HBq7
    (try rw [hWq7])
    clear hWq7 lsq7
    obtain ⟨t, ht⟩ : ∃ t, (l.getD 0 0).toNat = t := ⟨_, rfl⟩
    have htl : t < 256 := by rw [← ht]; exact (l.getD 0 0).toNat_lt
    have HT := Lib.hid ht
    clear ht
    go_wp2_with fail
    go_loopw [5] (fun i wr => ∃ k : Nat, k ≤ t % 7 ∧ i = .int .i64 (k : Int) ∧ ∃ A, Hid (R A (dblP k F25519.base)) ∧ Hid (RowsW wr [(gq5, A, 28), (g0 + 1, Z, 28), (g0, arrB l, 22)]) ∧ Hid (Below w.heap.size w wr)) (fun i _ => t % 7 - (intOf i).toNat)
    case atStart => exact ⟨0, by omega, rfl, _, Rq6, HRq7, HBq7⟩
    case round =>
      clear HRq7 HBq7
      obtain ⟨k, hk, rfl, A, RA, HR1, HB1⟩ := hrel
      have cx : wr.cell? ⟨g0, 0, none⟩ = some (.int .u8 (t : Int)) := by rw [cell_of_row _ _ _ _ _ _ HR1.out.tail.tail.head, arrB_get _ _ (by rw [HL.out]; omega), HT.out]
      obtain ⟨m, hm⟩ : ∃ m, t % 7 = m := ⟨_, rfl⟩
      have hml : m < 7 := by omega
      have tm : (t : Int).tmod 7 = (m : Int) := by rw [Int.tmod_eq_emod_of_nonneg (by omega)]; omega
      have tm' : (t : Int) % 7 = (m : Int) := by omega
      have tw : IntKind.u8.wrap (m : Int) = (m : Int) := by rw [IntKind.wrap_u8]; omega
      have ti : IntKind.i64.wrap (m : Int) = (m : Int) := by rw [IntKind.wrap_i64]; omega
      rw [hm] at hk
      have HM := Lib.hid hm
      clear hm
      by_cases hlt : k < m
      · have dk : decide ((k : Int) < (m : Int)) = true := decide_eq_true (by omega)
        have dk2 : decide (k < m) = true := decide_eq_true hlt
        have l8 := HR1.out.head
        go_wp2_with (refine wpList_load_row rfl 28 (.tmp 3) rfl gq5 rfl 28 A (0, 0) _ l8 Try.underlying28 rfl (D.base.info RA.out) ?_)
        obtain ⟨p9, hp9⟩ : ∃ y_ : PtD, padd (dblP k F25519.base) (dblP k F25519.base) = y_ := ⟨_, rfl⟩
        have Hp9 := Lib.hid hp9
        clear hp9
        with_reducible refine ((D.double RA.out) _).mono ?_
        rintro e vq10 ⟨cq10, rfl, rq10, hbq10⟩
        rw [Hp9.out] at rq10
        have Rq10 := Lib.hid rq10
        clear rq10
        have HRq10 := Lib.hid (HR1.out.below hbq10)
        have HBq10 := Lib.hid (below_next HB1.out hbq10)
        clear hbq10
        have lsq11 := HRq10.out.head
        have HRq11 : Hid (RowsW (vq10.setRow gq5 cq10) [(gq5, cq10, 28), ((g0 + 1), Z, 28), (g0, (arrB l), 22)]) := Lib.hid ⟨setRow_heap _ _ _ _ _ _ lsq11, (by rw [setRow_other _ _ _ _ NEq5_1.out]; exact HRq10.out.tail.head), (by rw [setRow_other _ _ _ _ NEq5_0.out]; exact HRq10.out.tail.tail.head), trivial⟩
        have HBq11 := Lib.hid (below_row (g := gq5) (cs := cq10) HBq10.out HGq5.out)
        go_wp2_with (refine wpList_store_row rfl 28 (.tmp 3) (.tmp 23) rfl gq5 cq10 rfl rfl 28 A lsq11 (D.base.info Rq10.out) (by have a := (sZ RA.out); have b := (sZ Rq10.out); rw [← a, ← b]) (D.base.one Rq10.out) ?_)
        obtain ⟨Wq11, hWq11⟩ : ∃ W, vq10.setRow gq5 cq10 = W := ⟨_, rfl⟩
        rw [hWq11] at HRq11 HBq11
        (try rw [hWq11])
        clear hWq11 lsq11
        have HNX : Hid (dblP (k + 1) F25519.base = p9) := Lib.hid Hp9.out
        go_roundw
        case rel => exact ⟨k + 1, by rw [HM.out]; omega, by go_num, _, by rw [HNX.out]; exact Rq10, HRq11, HBq11⟩
        case measure => simp [intOf] <;> omega
      · have hkm : k = m := by omega
        have dk : decide ((k : Int) < (m : Int)) = false := decide_eq_false (by omega)
        have dk2 : decide (k < m) = false := decide_eq_false (by omega)
        have HKM := Lib.hid hkm
        clear hkm
        go_upto_region 9 with fail
        have HAT : Hid (atP l = dblP k F25519.base) := Lib.hid (by unfold atP; rw [if_neg (by rw [HF.out]; decide), HT.out, HM.out, HKM.out])
        clear cx dk dk2 tm tm' tw ti
        have l12 := HR1.out.head
        have lsq13 := HR1.out.tail.head
        have HRq13 : Hid (RowsW (wr.setRow (g0 + 1) A) [(gq5, A, 28), ((g0 + 1), A, 28), (g0, (arrB l), 22)]) := Lib.hid ⟨(by rw [setRow_other _ _ _ _ (Ne.symm NEq5_1.out)]; exact HR1.out.head), setRow_heap _ _ _ _ _ _ lsq13, (by rw [setRow_other _ _ _ _ (by omega)]; exact HR1.out.tail.tail.head), trivial⟩
        have HBq13 := Lib.hid (below_row (g := (g0 + 1)) (cs := A) HB1.out (by have := HG0.out; omega))
        go_wp2_with (first
            | (refine wpList_load_row rfl 28 (.tmp 3) rfl gq5 rfl 28 A (0, 0) _ l12 Try.underlying28 rfl (D.base.info RA.out) ?_)
            | (refine wpList_store_row rfl 28 (.tmp 2) (.tmp 24) rfl (g0 + 1) A rfl rfl 28 Z lsq13 (D.base.info RA.out) (sZ RA.out) (D.base.one RA.out) ?_))
        obtain ⟨Wq13, hWq13⟩ : ∃ W, wr.setRow (g0 + 1) A = W := ⟨_, rfl⟩
        rw [hWq13] at HRq13 HBq13
        (try rw [hWq13])
        clear hWq13 lsq13
        (try simp only [Exit.inBlock, Exit.then])
        refine bodyPost_ret (results_cell_row rfl _ _ (g0 + 1) _ A _ _ rfl HRq13.out.tail.head Try.underlying28 rfl (D.base.info RA.out)) rfl ?_
        exact ⟨_, rfl, by rw [HAT.out]; exact RA.out, HBq13.out⟩
  · have HF := Lib.hid hf
    clear hf
    have l14 := HR0.out.tail.head
    go_wp2_with (refine wpList_load_row rfl 22 (.tmp 1) rfl g0 rfl 22 (arrB l) (0, 0) _ l14 Try.underlying22 rfl (arr32_info HL.out) ?_)
    obtain ⟨p15, hp15⟩ : ∃ y_ : PtD, decP l = y_ := ⟨_, rfl⟩
    have Hp15 := Lib.hid hp15
    clear hp15
    have Ht16 : Hid (decF l = true) := Lib.hid HF.out
    have kq17 := fun W : World => (D.decode l HL.out) W
    rw [Hp15.out, Ht16.out] at kq17
    have Kq17 := Lib.hid kq17
    clear kq17
    with_reducible refine (Kq17.out _).mono ?_
    rintro e vq17 ⟨cq17, rfl, rq17, hbq17⟩
    have Rq17 := Lib.hid rq17
    clear rq17
    have HRq17 := Lib.hid (HR0.out.below hbq17)
    have HBq17 := Lib.hid (below_next HB0.out hbq17)
    clear hbq17
    have h0q18 : (vq17.alloc (.cells Z 28)).heap[vq17.heap.size]? = some (.cells Z 28 (0, 0)) := heap_alloc_new _ _
    have HRq18 := Lib.hid (HRq17.out.new Z cq17 28)
    have HBq18 := Lib.hid (below_new HBq17.out Z cq17 28)
    have HNq18 := Lib.hid HRq17.out.ne
    have HGq18 := Lib.hid HBq17.out.size
    go_upto_region 2 with (refine wpList_store_row rfl 28 (.tmp 3) (.tmp 9) rfl vq17.heap.size cq17 rfl rfl 28 Z h0q18 (D.base.info Rq17.out) (sZ Rq17.out) (D.base.one Rq17.out) ?_)
    obtain ⟨Wq18, hWq18⟩ : ∃ W, (vq17.alloc (.cells Z 28)).setRow vq17.heap.size cq17 = W := ⟨_, rfl⟩
    obtain ⟨gq18, hgq18⟩ : ∃ g, vq17.heap.size = g := ⟨_, rfl⟩
    rw [hWq18, hgq18] at HRq18
    rw [hWq18] at HBq18
    rw [hgq18] at HNq18 HGq18
    rw [hWq18, hgq18]
    clear hWq18 hgq18 h0q18
    have NEq18_0 : Hid (g0 ≠ gq18) := Lib.hid (HNq18.out (g0, (arrB l), 22) (by simp))
    have NEq18_1 : Hid ((g0 + 1) ≠ gq18) := Lib.hid (HNq18.out ((g0 + 1), Z, 28) (by simp))
    go_upto_region 3 with fail
    have l19 := HRq18.out.head
    have lsq20 := HRq18.out.tail.head
    have HRq20 : Hid (RowsW (Wq18.setRow (g0 + 1) cq17) [(gq18, cq17, 28), ((g0 + 1), cq17, 28), (g0, (arrB l), 22)]) := Lib.hid ⟨(by rw [setRow_other _ _ _ _ (Ne.symm NEq18_1.out)]; exact HRq18.out.head), setRow_heap _ _ _ _ _ _ lsq20, (by rw [setRow_other _ _ _ _ (by omega)]; exact HRq18.out.tail.tail.head), trivial⟩
    have HBq20 := Lib.hid (below_row (g := (g0 + 1)) (cs := cq17) HBq18.out (by have := HG0.out; omega))
    go_wp2_with (first
        | (refine wpList_load_row rfl 28 (.tmp 3) rfl gq18 rfl 28 cq17 (0, 0) _ l19 Try.underlying28 rfl (D.base.info Rq17.out) ?_)
        | (refine wpList_store_row rfl 28 (.tmp 2) (.tmp 12) rfl (g0 + 1) cq17 rfl rfl 28 Z lsq20 (D.base.info Rq17.out) (sZ Rq17.out) (D.base.one Rq17.out) ?_))
    obtain ⟨Wq20, hWq20⟩ : ∃ W, Wq18.setRow (g0 + 1) cq17 = W := ⟨_, rfl⟩
    rw [hWq20] at HRq20 HBq20
    (try rw [hWq20])
    clear hWq20 lsq20
    (try simp only [Exit.inBlock, Exit.then])
    refine bodyPost_ret (results_cell_row rfl _ _ (g0 + 1) _ cq17 _ _ rfl HRq20.out.tail.head Try.underlying28 rfl (D.base.info Rq17.out)) rfl ?_
    exact ⟨_, rfl, by rw [show atP l = p15 by unfold atP; rw [if_pos HF.out, Hp15.out]]; exact Rq17.out, HBq20.out⟩

set_option maxHeartbeats 6400000 in
theorem alive13_any {R : Array Value → PtD → Prop} (D : PtC R) (M : MuC R) (w : World) : Calls Try.prog 8 #[] w fun e w' => e = .returned (.bool true) ∧ Below w.heap.size w w' := by
  obtain ⟨Z, hZ, sZ⟩ := D.base.zero
  have hz32 := zero32_zero
  have hzP := refP_zero
  have HR0 := Lib.hid (RowsW.nil w)
  have HB0 := Lib.hid (Below.refl w.heap.size w)
  go_enter Try.func8, Try.ntmps8
  go_wp2_with (refine wpList_runs (o := ⟨some 1, _, _, _, _, _⟩) rfl (.agg (bytT 1)) (run_one rfl _) ?_)
  obtain ⟨p1, hp1⟩ : ∃ y_ : PtD, pmul (1) F25519.base = y_ := ⟨_, rfl⟩
  have Hp1 := Lib.hid hp1
  clear hp1
  have o2 : ∀ W : World, Calls Try.prog 15 #[.agg (bytT 1)] W (RetPt R W (pmul (1) F25519.base)) := fun W => by have h := (M.base (leB 32 1) (leB_len 32 1)) W; rw [leN_leB 32 1 (by decide)] at h; exact h
  with_reducible refine ((fun W => o2 W) _).mono ?_
  rintro e vq2 ⟨cq2, rfl, rq2, hbq2⟩
  rw [Hp1.out] at rq2
  have Rq2 := Lib.hid rq2
  clear rq2
  have HRq2 := Lib.hid (HR0.out.below hbq2)
  have HBq2 := Lib.hid (below_next HB0.out hbq2)
  clear hbq2
  go_wp2_with fail
  with_reducible refine ((fun W => D.basep W) _).mono ?_
  rintro e vq3 ⟨cq3, rfl, rq3, hbq3⟩
  have Rq3 := Lib.hid rq3
  clear rq3
  have HRq3 := Lib.hid (HRq2.out.below hbq3)
  have HBq3 := Lib.hid (below_next HBq2.out hbq3)
  clear hbq3
  go_wp2_with fail
  have kq4 := fun W : World => (D.equal Rq2.out Rq3.out) W
  rw [show ptEq p1 F25519.base = true from (ptEq_iff.2 (by rw [← Hp1.out]; exact pmul_one _))] at kq4
  have Kq4 := Lib.hid kq4
  clear kq4
  with_reducible refine (Kq4.out _).mono ?_
  rintro e vq4 ⟨rfl, hbq4⟩
  have HRq4 := Lib.hid (HRq3.out.below hbq4)
  have HBq4 := Lib.hid (below_next HBq3.out hbq4)
  clear hbq4
  go_wp2_with (refine wpList_runsV (o := ⟨some 6, _, _, _, _, _⟩) rfl (.agg (bytT 2)) (run_two rfl _) ?_)
  with_reducible refine ((fun W => D.basep W) _).mono ?_
  rintro e vq5 ⟨cq5, rfl, rq5, hbq5⟩
  have Rq5 := Lib.hid rq5
  clear rq5
  have HRq5 := Lib.hid (HRq4.out.below hbq5)
  have HBq5 := Lib.hid (below_next HBq4.out hbq5)
  clear hbq5
  go_wp2_with fail
  obtain ⟨p6, hp6⟩ : ∃ y_ : PtD, pmul (2) F25519.base = y_ := ⟨_, rfl⟩
  have Hp6 := Lib.hid hp6
  clear hp6
  have o8 : ∀ W : World, Calls Try.prog 12 #[.agg (bytT 2), .agg cq5] W (RetPt R W (pmul (2) F25519.base)) := fun W => by have h := (M.mult (leB 32 2) (leB_len 32 2) Rq5.out) W; rw [leN_leB 32 2 (by decide)] at h; exact h
  with_reducible refine ((fun W => o8 W) _).mono ?_
  rintro e vq7 ⟨cq7, rfl, rq7, hbq7⟩
  rw [Hp6.out] at rq7
  have Rq7 := Lib.hid rq7
  clear rq7
  have HRq7 := Lib.hid (HRq5.out.below hbq7)
  have HBq7 := Lib.hid (below_next HBq5.out hbq7)
  clear hbq7
  go_wp2_with fail
  with_reducible refine ((fun W => D.basep W) _).mono ?_
  rintro e vq8 ⟨cq8, rfl, rq8, hbq8⟩
  have Rq8 := Lib.hid rq8
  clear rq8
  have HRq8 := Lib.hid (HRq7.out.below hbq8)
  have HBq8 := Lib.hid (below_next HBq7.out hbq8)
  clear hbq8
  go_wp2_with fail
  obtain ⟨p9, hp9⟩ : ∃ y_ : PtD, padd F25519.base F25519.base = y_ := ⟨_, rfl⟩
  have Hp9 := Lib.hid hp9
  clear hp9
  with_reducible refine ((D.double Rq8.out) _).mono ?_
  rintro e vq10 ⟨cq10, rfl, rq10, hbq10⟩
  rw [Hp9.out] at rq10
  have Rq10 := Lib.hid rq10
  clear rq10
  have HRq10 := Lib.hid (HRq8.out.below hbq10)
  have HBq10 := Lib.hid (below_next HBq8.out hbq10)
  clear hbq10
  go_wp2_with fail
  have kq11 := fun W : World => (D.equal Rq7.out Rq10.out) W
  rw [show ptEq p6 p9 = true from (ptEq_iff.2 (by rw [← Hp6.out, ← Hp9.out]; exact pmul_two _))] at kq11
  have Kq11 := Lib.hid kq11
  clear kq11
  with_reducible refine (Kq11.out _).mono ?_
  rintro e vq11 ⟨rfl, hbq11⟩
  have HRq11 := Lib.hid (HRq10.out.below hbq11)
  have HBq11 := Lib.hid (below_next HBq10.out hbq11)
  clear hbq11
  go_wp2_with fail
  go_ret
  exact ⟨rfl, HBq11.out⟩
end Go.Proofs.Ytfejabfmhddepaa

