/- Two halves laid one behind the other: the law's own wide; its alive. -/
import Derived.Test.YtmmfbbbljhifjaaLaw11Spec
import Derived.Test.YtmmfbbbljhifjaaGbyt
namespace Go.Proofs.Ytmmfbbbljhifjaa
open Go.RowKit
set_option linter.unusedVariables false
set_option maxRecDepth 100000

set_option maxHeartbeats 3200000 in
theorem wide11_any (l m : List UInt8) (hl : l.length = 32) (hm : m.length = 32) (w : World) : Calls Try.prog 14 #[.agg (arrB l), .agg (arrB m)] w (RetV w (.agg (arrB (l ++ m)))) := by
  have hz := fun u => zero64_zero u
  have HL := Lib.hid hl
  have HM := Lib.hid hm
  have i64 : (Try.prog.info? 27).map (·.size) = some zero64.size := by unfold zero64; exact arr64_info (by simp)
  have o64 : zero64.all (·.oneCell') = true := arrB_one _
  have iO : (Try.prog.info? 27).map (·.size) = some (arrB (l ++ m)).size := arr64_info (app64 hl hm)
  have oO := arrB_one (l ++ m)
  have sO : zero64.size = (arrB (l ++ m)).size := by unfold zero64; rw [arrB_size, arrB_size, app64 hl hm]; simp
  have hr0 : RowsW ((((w.alloc (.cells (arrB l) 22)).alloc (.cells (arrB m) 22)).alloc (.cells zero64 27))) [(w.heap.size + 1 + 1, zero64, 27), (w.heap.size + 1, arrB m, 22), (w.heap.size, arrB l, 22)] := by
    have h := (((RowsW.nil w).box (arrB l) 22).box (arrB m) 22).box zero64 27
    simp only [World.size_alloc] at h
    exact h
  have hs0 : (((w.alloc (.cells (arrB l) 22)).alloc (.cells (arrB m) 22)).alloc (.cells zero64 27)).heap.size = w.heap.size + 1 + 1 + 1 := by simp only [World.size_alloc]
  obtain ⟨LA, hLA⟩ : ∃ a, arrB l = a := ⟨_, rfl⟩
  obtain ⟨MA, hMA⟩ : ∃ a, arrB m = a := ⟨_, rfl⟩
  have HLA := Lib.hid hLA
  have HMA := Lib.hid hMA
  rw [hLA, hMA] at hr0 hs0 ⊢
  obtain ⟨W1, hW1⟩ : ∃ Q, ((w.alloc (.cells LA 22)).alloc (.cells MA 22)).alloc (.cells zero64 27) = Q := ⟨_, rfl⟩
  rw [hW1] at hr0 hs0
  have HR1 := Lib.hid (hr0.new zero64 zero64 27)
  have h6 : (W1.alloc (.cells zero64 27)).heap[W1.heap.size]? = some (.cells zero64 27 (0, 0)) := heap_alloc_new _ _
  rw [hs0] at HR1 h6
  have HB1 : Hid (Below w.heap.size w ((W1.alloc (.cells zero64 27)).setRow (w.heap.size + 1 + 1 + 1) zero64)) := Lib.hid (below_row (below_al (by rw [← hW1]; exact below_al (below_al (below_al (Below.refl _ _) _) _) _) _) (by omega))
  have HD : Hid ([w.heap.size + 1 + 1 + 1, w.heap.size + 1 + 1, w.heap.size + 1, w.heap.size].Nodup) := Lib.hid (by
    simp only [List.nodup_cons, List.mem_cons, List.not_mem_nil, or_false, not_or, List.nodup_nil, not_false_eq_true, and_true]; omega)
  have HZ : Hid (zero64 = arrB (widK l m 0)) := Lib.hid (by rw [widK_zero]; rfl)
  rw [← hW1] at h6 HR1 HB1
  clear hr0 hs0 hLA hMA hW1 hl hm
  obtain ⟨z64, hz64⟩ : ∃ z, zero64 = z := ⟨_, rfl⟩
  have HZE := Lib.hid hz64
  rw [hz64] at i64 o64 sO h6 HR1 HB1 HZ
  simp only [hz64] at hz
  clear hz64
  go_enter Try.func14, Try.ntmps14
  go_wp2_with (first
    | (refine wpList_runsV (o := ⟨some 7, _, _, _, _, _⟩) rfl (.agg z64) (by rw [← HZE.out]; kernel_rfl) ?_)
    | (refine wpList_store_row rfl 27 (.tmp 5) (.tmp 7) rfl (w.heap.size + 1 + 1 + 1) z64 rfl rfl 27 z64 h6 i64 rfl o64 ?_))
  obtain ⟨W2, hW2⟩ : ∃ Q, ((((w.alloc (.cells LA 22)).alloc (.cells MA 22)).alloc (.cells z64 27)).alloc (.cells z64 27)).setRow (w.heap.size + 1 + 1 + 1) z64 = Q := ⟨_, rfl⟩
  obtain ⟨g, hg⟩ : ∃ Q, w.heap.size = Q := ⟨_, rfl⟩
  rw [hg] at hW2
  rw [hg, hW2] at HR1
  rw [hg] at HD
  have HB2 : Hid (Below w.heap.size w W2) := Lib.hid (by have h := HB1.out; rw [hg, hW2] at h; rw [hg]; exact h)
  rw [hg, hW2]
  have HG := Lib.hid hg
  clear hW2 hg h6 HB1
  have HR2 : Hid (RowsW W2 [(g + 1 + 1 + 1, arrB (widK l m 0), 27), (g + 1 + 1, z64, 27), (g + 1, MA, 22), (g, LA, 22)]) := Lib.hid (by rw [← HZ.out]; exact HR1.out)
  clear HR1
  go_loopw [6] (fun i wr => ∃ k : Nat, k ≤ 32 ∧ i = .int .i64 (k : Int) ∧ Hid (RowsW wr [(g + 1 + 1 + 1, arrB (widK l m k), 27), (g + 1 + 1, z64, 27), (g + 1, MA, 22), (g, LA, 22)]) ∧ Hid (Below w.heap.size w wr)) (fun i _ => 32 - (intOf i).toNat)
  case atStart => exact ⟨0, by omega, rfl, HR2, HB2⟩
  case round =>
    clear HR2 HB2
    obtain ⟨k, hk, rfl, HR, HB⟩ := hrel
    by_cases hlt : k < 32
    · have hset := widK_set l m k hlt
      obtain ⟨x, hx⟩ : ∃ x, l.getD k 0 = x := ⟨_, rfl⟩
      obtain ⟨y, hy⟩ : ∃ y, m.getD k 0 = y := ⟨_, rfl⟩
      rw [hx, hy] at hset
      have cl : wr.cell? ⟨g, k, none⟩ = some (.int .u8 (x.toNat : Int)) := by rw [cell_of_row _ _ _ _ _ _ HR.out.tail.tail.tail.head, ← HLA.out, arrB_get _ _ (by rw [HL.out]; exact hlt), hx]
      have cd : wr.cell? ⟨g + 1 + 1 + 1, k, none⟩ = some (.int .u8 (((widK l m k).getD k 0).toNat : Int)) := by rw [cell_of_row _ _ _ _ _ _ HR.out.head, arrB_get _ _ (by rw [widK_len]; omega)]
      have fx := frozen_row HR.out.head k
      have HR2 : Hid (RowsW (wr.setCell ⟨g + 1 + 1 + 1, k, none⟩ (.int .u8 (x.toNat : Int))) [(g + 1 + 1 + 1, arrB ((widK l m k).set k x), 27), (g + 1 + 1, z64, 27), (g + 1, MA, 22), (g, LA, 22)]) := Lib.hid (by
        have h := RowsW.setN (k := k) (v := .int .u8 (x.toNat : Int)) 0 HR.out rfl HD.out
        rw [arrB_set] at h; exact h)
      have HB2 := Lib.hid (HB.out.setCell (p := ⟨g + 1 + 1 + 1, k, none⟩) (by show w.heap.size ≤ g + 1 + 1 + 1; have := HG.out; omega) (.int .u8 (x.toNat : Int)))
      have p1 : 0 ≤ (k : Int) := by omega
      have p2 : (k : Int) < 32 := by omega
      have p3 : (k : Int) < 64 := by omega
      have e1 : (32 : Int) + (k : Int) = ((32 + k : Nat) : Int) := by omega
      have p4 : ((32 + k : Nat) : Int) < 64 := by omega
      have p5 : 0 ≤ ((32 + k : Nat) : Int) := by omega
      have e7 : decide ((k : Int) < 32) = true := decide_eq_true p2
      generalize ((widK l m k).getD k 0) = o1 at *
      obtain ⟨k2, hk2⟩ : ∃ q, 32 + k = q := ⟨_, rfl⟩
      rw [hk2] at e1 p4 p5 hset
      have hk2l : k2 < 64 := by omega
      clear HR HB hx
      go_upto_region 6 with fail
      obtain ⟨W3, hW3⟩ : ∃ Q, wr.setCell ⟨g + 1 + 1 + 1, k, none⟩ (.int .u8 (x.toNat : Int)) = Q := ⟨_, rfl⟩
      rw [hW3] at HR2 HB2
      rw [hW3]
      clear hW3 cl cd fx
      have cm : W3.cell? ⟨g + 1, k, none⟩ = some (.int .u8 (y.toNat : Int)) := by rw [cell_of_row _ _ _ _ _ _ HR2.out.tail.tail.head, ← HMA.out, arrB_get _ _ (by rw [HM.out]; exact hlt), hy]
      have ce : W3.cell? ⟨g + 1 + 1 + 1, k2, none⟩ = some (.int .u8 ((((widK l m k).set k x).getD k2 0).toNat : Int)) := by rw [cell_of_row _ _ _ _ _ _ HR2.out.head, arrB_get _ _ (by rw [List.length_set, widK_len]; exact hk2l)]
      have fy := frozen_row HR2.out.head k2
      have HR3 : Hid (RowsW (W3.setCell ⟨g + 1 + 1 + 1, k2, none⟩ (.int .u8 (y.toNat : Int))) [(g + 1 + 1 + 1, arrB (widK l m (k + 1)), 27), (g + 1 + 1, z64, 27), (g + 1, MA, 22), (g, LA, 22)]) := Lib.hid (by
        have h := RowsW.setN (k := k2) (v := .int .u8 (y.toNat : Int)) 0 HR2.out rfl HD.out
        rw [arrB_set, hset] at h; exact h)
      have HB3 := Lib.hid (HB2.out.setCell (p := ⟨g + 1 + 1 + 1, k2, none⟩) (by show w.heap.size ≤ g + 1 + 1 + 1; have := HG.out; omega) (.int .u8 (y.toNat : Int)))
      generalize (((widK l m k).set k x).getD k2 0) = o2 at *
      clear HR2 HB2 hset hy hk2 hk2l
      go_wp2_with fail
      go_roundw
      case rel => exact ⟨k + 1, by omega, by go_num, HR3, HB3⟩
      case measure => simp [intOf]; omega
    · have e7 : decide ((k : Int) < 32) = false := decide_eq_false (by omega)
      have hk32 : k = 32 := by omega
      rw [hk32, widK_end HL.out HM.out] at HR
      obtain ⟨OUT, hOUT⟩ : ∃ o, arrB (l ++ m) = o := ⟨_, rfl⟩
      rw [hOUT] at HR iO oO sO
      have HOE := Lib.hid hOUT
      have h1 := HR.out.head
      have h0 := HR.out.tail.head
      have HE : Hid (Below w.heap.size w (wr.setRow (g + 1 + 1) OUT)) := Lib.hid (below_row HB.out (by have := HG.out; omega))
      clear hk32 hlt hk HR HB hOUT
      go_wp2_with (first
        | (refine wpList_load_row rfl 27 (.tmp 5) rfl (g + 1 + 1 + 1) rfl 27 OUT (0, 0) _ h1 Try.underlying27 rfl iO ?_)
        | (refine wpList_store_row rfl 27 (.tmp 4) (.tmp 23) rfl (g + 1 + 1) OUT rfl rfl 27 z64 h0 iO sO oO ?_))
      (try simp only [Exit.inBlock, Exit.then])
      refine bodyPost_ret (results_cell_row rfl _ _ (g + 1 + 1) _ OUT _ _ rfl (setRow_heap _ _ _ _ _ _ h0) Try.underlying27 rfl iO) rfl ?_
      exact ⟨by rw [HOE.out], HE.out⟩
end Go.Proofs.Ytmmfbbbljhifjaa

