/- The contracts of the developers' plus and minus of package scalar. Written by wip/tools/mk_scal11.py. -/
import Derived.Test.YtmmfbbbljhifjaaScA
import Derived.Test.YtmmfbbbljhifjaaGbase
namespace Go.Proofs.Ytmmfbbbljhifjaa
open Go.RowKit
set_option linter.unusedVariables false
set_option maxRecDepth 100000

set_option maxHeartbeats 3200000 in
theorem scplus_any (n m : Nat) (hn : n < Q4) (hm : m < Q4) (w : World) : Calls Try.prog 37 #[.agg (wdW 4 n), .agg (wdW 4 m)] w (RetV w (.agg (wdW 4 ((n + m) % Q4)))) := by
  have hz4 := wd4_zero
  have HWM : Hid (∀ d, d < 4 → (wdW 4 m)[d]? = some (.int .u64 (wq m d : Int))) := Lib.hid fun d h => wdW_get 4 m d h
  have HNL : Hid (wdW 4 n = wsA (wsL 4 n)) := Lib.hid rfl
  have HWS := Lib.hid (wsL_ws 4 n)
  have HV0 : Hid (vQ (wsL 4 n) = n) := Lib.hid (vQ_eq (by rw [q4_is]; exact hn))
  have HN := Lib.hid hn
  have HM := Lib.hid hm
  have iO := wd4_info ((n + m) % Q4)
  have nO : (wdW 4 0).size = (wdW 4 ((n + m) % Q4)).size := by rw [wdW_size, wdW_size]
  have oO := wdW_one 4 ((n + m) % Q4)
  generalize wdW 4 m = M at *
  generalize hz : wdW 4 0 = z4 at *
  generalize hN0 : wdW 4 n = N at *
  have hr0 : RowsW (((w.alloc (.cells N 38)).alloc (.cells M 38)).alloc (.cells z4 38)) [(w.heap.size + 1 + 1, z4, 38), (w.heap.size + 1, M, 38), (w.heap.size, N, 38)] := by
    have h := (((RowsW.nil w).box N 38).box M 38).box z4 38
    (try simp only [World.size_alloc] at h)
    exact h
  have hb0 : Below w.heap.size w (((w.alloc (.cells N 38)).alloc (.cells M 38)).alloc (.cells z4 38)) := below_alloc (below_alloc (below_alloc (Below.refl _ _) _) _) _
  have HR0 := Lib.hid hr0
  have HB0 := Lib.hid hb0
  clear hr0 hb0 hz hN0 hn hm
  go_enter Try.func37, Try.ntmps37
  go_wp2_with fail
  obtain ⟨W1, hW1⟩ : ∃ W, ((w.alloc (.cells N 38)).alloc (.cells M 38)).alloc (.cells z4 38) = W := ⟨_, rfl⟩
  rw [hW1] at HR0 HB0
  rw [hW1]
  obtain ⟨g, hg⟩ : ∃ g, w.heap.size = g := ⟨_, rfl⟩
  rw [hg] at HR0
  rw [hg]
  have HG := Lib.hid hg
  clear hW1 hg
  have HI : Hid (Lp w W1 g (wsA (wsL 4 n)) 38 [(g + 1, M, 38), (g + 1 + 1, z4, 38)]) := Lib.hid ⟨by rw [← HNL.out]; exact ⟨HR0.out.tail.tail.head, HR0.out.tail.head, HR0.out.head, trivial⟩, by rw [HG.out]; exact Nat.le_refl _, by simp; omega, HB0.out⟩
  clear HR0 HB0 HNL
  go_loopw [5, 7] (fun c_ i_ wr => ∃ (k : Nat) (l : List Nat) (cc : Nat), k ≤ 4 ∧ i_ = .int .i64 (k : Int) ∧ c_ = .int .u64 (cc : Int) ∧ Hid (Ws 4 l) ∧ Hid (cc ≤ 1) ∧ Hid (vQ l + cc * Q64 ^ k = n + m % Q64 ^ k) ∧ Hid (Lp w wr g (wsA l) 38 [(g + 1, M, 38), (g + 1 + 1, z4, 38)])) (fun _ i_ _ => 4 - (intOf i_).toNat)
  case atStart => exact ⟨0, wsL 4 n, 0, by omega, rfl, rfl, HWS, Lib.hid (by omega), Lib.hid (by rw [HV0.out]; simp [Nat.mod_one]), HI⟩
  case round =>
    clear HI HWS HV0
    obtain ⟨k, l, cc, hk, rfl, rfl, HWS, HC, HV, HI⟩ := hrel
    by_cases hlt : k < 4
    · have ha := HWS.out.lt k hlt
      have hb := wq_lt m k
      have cn : wr.cell? ⟨g, k, none⟩ = some (.int .u64 ((l.getD k 0 : Nat) : Int)) := by rw [cell_of_row _ _ _ _ _ _ HI.out.rows.head, wsA_get _ _ (by rw [HWS.out.len]; exact hlt)]
      have cm : wr.cell? ⟨g + 1, k, none⟩ = some (.int .u64 (wq m k : Int)) := by rw [cell_of_row _ _ _ _ _ _ HI.out.rows.tail.head, HWM.out _ hlt]
      have fz := HI.out.fz k
      obtain ⟨z, d, s, e, lz⟩ := add_ex (l.getD k 0) (wq m k) cc HC.out
      have HV2 : Hid (vQ (l.set k z) + d * Q64 ^ (k + 1) = n + m % Q64 ^ (k + 1)) := Lib.hid (by
        rw [mod_q, Nat.pow_succ]
        exact add_wd e (vQ_set l k z (by rw [HWS.out.len]; exact hlt)) HV.out)
      have HC2 : Hid (d ≤ 1) := Lib.hid (by have := HC.out; unfold Q64 at ha hb; omega)
      have HWS2 := Lib.hid (HWS.out.set k z lz)
      have HI2 : Hid (Lp w (wr.drew.setCell ⟨g, k, none⟩ (.int .u64 (z : Int))) g (wsA (l.set k z)) 38 [(g + 1, M, 38), (g + 1 + 1, z4, 38)]) := Lib.hid (by
        rw [← wsA_set]
        exact (HI.out.drew).set k _)
      generalize l.getD k 0 = a at *
      obtain ⟨b, hbm⟩ : ∃ b, wq m k = b := ⟨_, rfl⟩
      rw [hbm] at cm s e hb
      have HBM := Lib.hid hbm
      clear hbm
      have b5 : 0 ≤ (k : Int) := by omega
      have b6 : (k : Int) < 4 := by omega
      have cnd : wr.drew.cell? ⟨g, k, none⟩ = some (.int .u64 (a : Int)) := cn
      have fzd : wr.drew.frozen? ⟨g, k, none⟩ = false := fz
      have cmd : wr.drew.cell? ⟨g + 1, k, none⟩ = some (.int .u64 (b : Int)) := cm
      have HS2 : Hid ((wr.drew.setCell ⟨g, k, none⟩ (.int .u64 (z : Int))).cell? ⟨g + 1, k, none⟩ = some (.int .u64 (b : Int))) := Lib.hid (by rw [cell_of_row _ _ _ _ _ _ HI2.out.rows.tail.head, HWM.out _ hlt, HBM.out])
      clear HI HWS HC HV ha hb e lz hlt cn cm fz
      go_upto_region 5 with fail
      refine wp_region_noPanic ?_
      refine wp_region_held_drew (S := fun W => W.cell? ⟨g + 1, k, none⟩ = some (.int .u64 (b : Int))) (by kernel_rfl) (by exact cmd) (fun hS => ?_)
      refine' take_at 0 rfl (by kernel_rfl) (by kernel_rfl) (by kernel_rfl) (fun _ _ _ h => h) (by rfl) hS ?_ ?_ ?_
      rotate_left 2
      · intro W hSW; go_simp; try with_reducible rfl
      · simp only [List.set_cons_succ, List.set_cons_zero]; rfl
      refine' take_at 1 rfl (by kernel_rfl) (by kernel_rfl) (by kernel_rfl) (fun _ _ _ h => h) (by rfl) hS ?_ ?_ ?_
      rotate_left 2
      · intro W hSW; go_simp; try with_reducible rfl
      · simp only [List.set_cons_succ, List.set_cons_zero]; rfl
      refine' take_at 2 rfl (by kernel_rfl) (by kernel_rfl) (by kernel_rfl) (fun _ _ _ h => h) (by rfl) hS ?_ ?_ ?_
      rotate_left 2
      · intro W hSW; go_simp; try with_reducible rfl
      · simp only [List.set_cons_succ, List.set_cons_zero]; rfl
      refine' take_at 4 rfl (by kernel_rfl) (by kernel_rfl) (by kernel_rfl) (fun _ _ _ h => h) (by rfl) hS ?_ ?_ ?_
      rotate_left 2
      · intro W hSW; go_simp; try with_reducible rfl
      · simp only [List.set_cons_succ, List.set_cons_zero]; rfl
      refine' take_at 5 rfl (by kernel_rfl) (by kernel_rfl) (by kernel_rfl) (fun _ _ _ h => h) (by rfl) hS ?_ ?_ ?_
      rotate_left 2
      · intro W hSW; go_simp; try with_reducible rfl
      · simp only [List.set_cons_succ, List.set_cons_zero]; rfl
      refine' take_at 6 rfl (by kernel_rfl) (by kernel_rfl) (by kernel_rfl) (fun _ _ _ h => h) (by rfl) hS ?_ ?_ ?_
      rotate_left 2
      · intro W hSW; have hc : W.cell? ⟨g + 1, k, none⟩ = some (.int .u64 (b : Int)) := hSW; go_simp; try with_reducible rfl
      · simp only [List.set_cons_succ, List.set_cons_zero]; rfl
      refine' take_at 7 rfl (by kernel_rfl) (by kernel_rfl) (by kernel_rfl) (fun _ _ _ h => h) (by rfl) hS ?_ ?_ ?_
      rotate_left 2
      · intro W hSW; go_simp; try with_reducible rfl
      · simp only [List.set_cons_succ, List.set_cons_zero]; rfl
      refine call_at 3 rfl (by kernel_rfl) (by rfl) (fun K hK => ?_)
      go_simp
      refine hK.out _ _ (by exact hS) (fun hS => ?_)
      clear hK K
      refine' take_at 8 rfl (by kernel_rfl) (by kernel_rfl) (by kernel_rfl) (fun _ _ _ h => h) (by rfl) hS ?_ ?_ ?_
      rotate_left 2
      · intro W hSW; go_simp; try with_reducible rfl
      · simp only [List.set_cons_succ, List.set_cons_zero]; rfl
      refine' take_at 9 rfl (by kernel_rfl) (by kernel_rfl) (by kernel_rfl) (fun _ _ _ h => h) (by rfl) hS ?_ ?_ ?_
      rotate_left 2
      · intro W hSW; go_simp; try with_reducible rfl
      · simp only [List.set_cons_succ, List.set_cons_zero]; rfl
      refine' take_at 10 rfl (by kernel_rfl) (by kernel_rfl) (by kernel_rfl) (fun _ _ _ h => h) (by rfl) hS ?_ ?_ ?_
      rotate_left 2
      · intro W hSW; go_simp; try with_reducible rfl
      · simp only [List.set_cons_succ, List.set_cons_zero]; rfl
      refine' take_at 11 rfl (by kernel_rfl) (by kernel_rfl) (by kernel_rfl) (fun _ _ _ h => h) (by rfl) hS ?_ ?_ ?_
      rotate_left 2
      · intro W hSW; go_simp; try with_reducible rfl
      · simp only [List.set_cons_succ, List.set_cons_zero]; rfl
      refine' take_at 12 rfl (by kernel_rfl) (by kernel_rfl) (by kernel_rfl) (fun _ _ _ h => h) (by rfl) hS ?_ ?_ ?_
      rotate_left 2
      · intro W hSW; go_simp; try with_reducible rfl
      · simp only [List.set_cons_succ, List.set_cons_zero]; rfl
      refine call_at 13 rfl (by kernel_rfl) (by rfl) (fun K hK => ?_)
      go_simp
      refine hK.out _ _ (by exact HS2.out) (fun hS => ?_)
      clear hK K
      refine' take_at 14 rfl (by kernel_rfl) (by kernel_rfl) (by kernel_rfl) (fun _ _ _ h => h) (by rfl) hS ?_ ?_ ?_
      rotate_left 2
      · intro W hSW; go_simp; try with_reducible rfl
      · simp only [List.set_cons_succ, List.set_cons_zero]; rfl
      refine wpAnyH_done (by kernel_rfl) ?_ _
      refine NoPanic.normal ?_
      (try simp only [Act.put])
      go_wp2_with fail
      go_roundw
      case rel => exact ⟨k + 1, _, d, by omega, by go_num, rfl, HWS2, HC2, HV2, HI2⟩
      case measure => simp [intOf]; omega
    · obtain rfl : k = 4 := by omega
      have hv := sum_end (V := vQ l) (c := cc) (n := n) (m := m) (P := Q4) (by have := HV.out; rw [q4_is, Nat.mod_eq_of_lt HM.out] at this; exact this) (by rw [← q4_is]; exact vQ_lt HWS.out)
      rw [ws_row HWS.out hv] at HI
      generalize wdW 4 ((n + m) % Q4) = OUT at *
      have h1 := HI.out.rows.head
      have h0 := HI.out.rows.tail.tail.head
      have HB : Hid (Below w.heap.size w (wr.setRow (g + 1 + 1) OUT)) := Lib.hid (below_row HI.out.below (by rw [HG.out]; omega))
      clear HI HV HWS hv
      go_wp2_with (first
        | (refine wpList_load_row rfl 38 (.tmp 2) rfl g rfl 38 OUT (0, 0) _ h1 Try.underlying38 rfl iO ?_)
        | (refine wpList_store_row rfl 38 (.tmp 4) (.tmp 24) rfl (g + 1 + 1) OUT rfl rfl 38 z4 h0 iO nO oO ?_))
      (try simp only [Exit.inBlock, Exit.then])
      refine bodyPost_ret (results_cell_row rfl _ _ (g + 1 + 1) _ OUT _ _ rfl (setRow_heap _ _ _ _ _ _ h0) Try.underlying38 rfl iO) rfl ?_
      exact ⟨rfl, HB.out⟩
set_option maxHeartbeats 3200000 in
theorem scminus_any (n m : Nat) (hn : n < Q4) (hm : m < Q4) (w : World) : Calls Try.prog 27 #[.agg (wdW 4 n), .agg (wdW 4 m)] w (RetV w (.tuple #[.agg (wdW 4 ((n + (Q4 - m)) % Q4)), .bool (decide (n < m))])) := by
  have hz4 := wd4_zero
  have HWM : Hid (∀ d, d < 4 → (wdW 4 m)[d]? = some (.int .u64 (wq m d : Int))) := Lib.hid fun d h => wdW_get 4 m d h
  have HNL : Hid (wdW 4 n = wsA (wsL 4 n)) := Lib.hid rfl
  have HWS := Lib.hid (wsL_ws 4 n)
  have HV0 : Hid (vQ (wsL 4 n) = n) := Lib.hid (vQ_eq (by rw [q4_is]; exact hn))
  have HN := Lib.hid hn
  have HM := Lib.hid hm
  have iO := wd4_info ((n + (Q4 - m)) % Q4)
  have nO : (wdW 4 0).size = (wdW 4 ((n + (Q4 - m)) % Q4)).size := by rw [wdW_size, wdW_size]
  have oO := wdW_one 4 ((n + (Q4 - m)) % Q4)
  generalize wdW 4 m = M at *
  generalize hz : wdW 4 0 = z4 at *
  generalize hN0 : wdW 4 n = N at *
  have hr0 : RowsW (((w.alloc (.cells N 38)).alloc (.cells M 38)).alloc (.cells z4 38)) [(w.heap.size + 1 + 1, z4, 38), (w.heap.size + 1, M, 38), (w.heap.size, N, 38)] := by
    have h := (((RowsW.nil w).box N 38).box M 38).box z4 38
    (try simp only [World.size_alloc] at h)
    exact h
  have hb0 : Below w.heap.size w (((w.alloc (.cells N 38)).alloc (.cells M 38)).alloc (.cells z4 38)) := below_alloc (below_alloc (below_alloc (Below.refl _ _) _) _) _
  have HR0 := Lib.hid hr0
  have HB0 := Lib.hid hb0
  clear hr0 hb0 hz hN0 hn hm
  go_enter Try.func27, Try.ntmps27
  go_wp2_with fail
  obtain ⟨W1, hW1⟩ : ∃ W, ((w.alloc (.cells N 38)).alloc (.cells M 38)).alloc (.cells z4 38) = W := ⟨_, rfl⟩
  rw [hW1] at HR0 HB0
  rw [hW1]
  obtain ⟨g, hg⟩ : ∃ g, w.heap.size = g := ⟨_, rfl⟩
  rw [hg] at HR0
  rw [hg]
  have HG := Lib.hid hg
  clear hW1 hg
  have HI : Hid (Lp w W1 g (wsA (wsL 4 n)) 38 [(g + 1, M, 38), (g + 1 + 1, z4, 38)]) := Lib.hid ⟨by rw [← HNL.out]; exact ⟨HR0.out.tail.tail.head, HR0.out.tail.head, HR0.out.head, trivial⟩, by rw [HG.out]; exact Nat.le_refl _, by simp; omega, HB0.out⟩
  clear HR0 HB0 HNL
  go_loopw [6, 8] (fun c_ i_ wr => ∃ (k : Nat) (l : List Nat) (cc : Nat), k ≤ 4 ∧ i_ = .int .i64 (k : Int) ∧ c_ = .int .u64 (cc : Int) ∧ Hid (Ws 4 l) ∧ Hid (cc ≤ 1) ∧ Hid (vQ l + m % Q64 ^ k = n + cc * Q64 ^ k) ∧ Hid (Lp w wr g (wsA l) 38 [(g + 1, M, 38), (g + 1 + 1, z4, 38)])) (fun _ i_ _ => 4 - (intOf i_).toNat)
  case atStart => exact ⟨0, wsL 4 n, 0, by omega, rfl, rfl, HWS, Lib.hid (by omega), Lib.hid (by rw [HV0.out]; simp [Nat.mod_one]), HI⟩
  case round =>
    clear HI HWS HV0
    obtain ⟨k, l, cc, hk, rfl, rfl, HWS, HC, HV, HI⟩ := hrel
    by_cases hlt : k < 4
    · have ha := HWS.out.lt k hlt
      have hb := wq_lt m k
      have cn : wr.cell? ⟨g, k, none⟩ = some (.int .u64 ((l.getD k 0 : Nat) : Int)) := by rw [cell_of_row _ _ _ _ _ _ HI.out.rows.head, wsA_get _ _ (by rw [HWS.out.len]; exact hlt)]
      have cm : wr.cell? ⟨g + 1, k, none⟩ = some (.int .u64 (wq m k : Int)) := by rw [cell_of_row _ _ _ _ _ _ HI.out.rows.tail.head, HWM.out _ hlt]
      have fz := HI.out.fz k
      obtain ⟨z, d, s, e, lz, ld⟩ := sub_ex (l.getD k 0) (wq m k) cc ha hb HC.out
      have HV2 : Hid (vQ (l.set k z) + m % Q64 ^ (k + 1) = n + d * Q64 ^ (k + 1)) := Lib.hid (by
        rw [mod_q, Nat.pow_succ]
        exact sub_wd e (vQ_set l k z (by rw [HWS.out.len]; exact hlt)) HV.out)
      have HC2 := Lib.hid ld
      have HWS2 := Lib.hid (HWS.out.set k z lz)
      have HI2 : Hid (Lp w (wr.drew.setCell ⟨g, k, none⟩ (.int .u64 (z : Int))) g (wsA (l.set k z)) 38 [(g + 1, M, 38), (g + 1 + 1, z4, 38)]) := Lib.hid (by
        rw [← wsA_set]
        exact (HI.out.drew).set k _)
      generalize l.getD k 0 = a at *
      obtain ⟨b, hbm⟩ : ∃ b, wq m k = b := ⟨_, rfl⟩
      rw [hbm] at cm s e hb
      have HBM := Lib.hid hbm
      clear hbm
      have b5 : 0 ≤ (k : Int) := by omega
      have b6 : (k : Int) < 4 := by omega
      have cnd : wr.drew.cell? ⟨g, k, none⟩ = some (.int .u64 (a : Int)) := cn
      have fzd : wr.drew.frozen? ⟨g, k, none⟩ = false := fz
      have cmd : wr.drew.cell? ⟨g + 1, k, none⟩ = some (.int .u64 (b : Int)) := cm
      have HS2 : Hid ((wr.drew.setCell ⟨g, k, none⟩ (.int .u64 (z : Int))).cell? ⟨g + 1, k, none⟩ = some (.int .u64 (b : Int))) := Lib.hid (by rw [cell_of_row _ _ _ _ _ _ HI2.out.rows.tail.head, HWM.out _ hlt, HBM.out])
      clear HI HWS HC HV ha hb e lz hlt cn cm fz
      go_upto_region 5 with fail
      refine wp_region_noPanic ?_
      refine wp_region_held_drew (S := fun W => W.cell? ⟨g + 1, k, none⟩ = some (.int .u64 (b : Int))) (by kernel_rfl) (by exact cmd) (fun hS => ?_)
      refine' take_at 0 rfl (by kernel_rfl) (by kernel_rfl) (by kernel_rfl) (fun _ _ _ h => h) (by rfl) hS ?_ ?_ ?_
      rotate_left 2
      · intro W hSW; go_simp; try with_reducible rfl
      · simp only [List.set_cons_succ, List.set_cons_zero]; rfl
      refine' take_at 1 rfl (by kernel_rfl) (by kernel_rfl) (by kernel_rfl) (fun _ _ _ h => h) (by rfl) hS ?_ ?_ ?_
      rotate_left 2
      · intro W hSW; go_simp; try with_reducible rfl
      · simp only [List.set_cons_succ, List.set_cons_zero]; rfl
      refine' take_at 2 rfl (by kernel_rfl) (by kernel_rfl) (by kernel_rfl) (fun _ _ _ h => h) (by rfl) hS ?_ ?_ ?_
      rotate_left 2
      · intro W hSW; go_simp; try with_reducible rfl
      · simp only [List.set_cons_succ, List.set_cons_zero]; rfl
      refine' take_at 4 rfl (by kernel_rfl) (by kernel_rfl) (by kernel_rfl) (fun _ _ _ h => h) (by rfl) hS ?_ ?_ ?_
      rotate_left 2
      · intro W hSW; go_simp; try with_reducible rfl
      · simp only [List.set_cons_succ, List.set_cons_zero]; rfl
      refine' take_at 5 rfl (by kernel_rfl) (by kernel_rfl) (by kernel_rfl) (fun _ _ _ h => h) (by rfl) hS ?_ ?_ ?_
      rotate_left 2
      · intro W hSW; go_simp; try with_reducible rfl
      · simp only [List.set_cons_succ, List.set_cons_zero]; rfl
      refine' take_at 6 rfl (by kernel_rfl) (by kernel_rfl) (by kernel_rfl) (fun _ _ _ h => h) (by rfl) hS ?_ ?_ ?_
      rotate_left 2
      · intro W hSW; have hc : W.cell? ⟨g + 1, k, none⟩ = some (.int .u64 (b : Int)) := hSW; go_simp; try with_reducible rfl
      · simp only [List.set_cons_succ, List.set_cons_zero]; rfl
      refine' take_at 7 rfl (by kernel_rfl) (by kernel_rfl) (by kernel_rfl) (fun _ _ _ h => h) (by rfl) hS ?_ ?_ ?_
      rotate_left 2
      · intro W hSW; go_simp; try with_reducible rfl
      · simp only [List.set_cons_succ, List.set_cons_zero]; rfl
      refine call_at 3 rfl (by kernel_rfl) (by rfl) (fun K hK => ?_)
      go_simp
      refine hK.out _ _ (by exact hS) (fun hS => ?_)
      clear hK K
      refine' take_at 8 rfl (by kernel_rfl) (by kernel_rfl) (by kernel_rfl) (fun _ _ _ h => h) (by rfl) hS ?_ ?_ ?_
      rotate_left 2
      · intro W hSW; go_simp; try with_reducible rfl
      · simp only [List.set_cons_succ, List.set_cons_zero]; rfl
      refine' take_at 9 rfl (by kernel_rfl) (by kernel_rfl) (by kernel_rfl) (fun _ _ _ h => h) (by rfl) hS ?_ ?_ ?_
      rotate_left 2
      · intro W hSW; go_simp; try with_reducible rfl
      · simp only [List.set_cons_succ, List.set_cons_zero]; rfl
      refine' take_at 10 rfl (by kernel_rfl) (by kernel_rfl) (by kernel_rfl) (fun _ _ _ h => h) (by rfl) hS ?_ ?_ ?_
      rotate_left 2
      · intro W hSW; go_simp; try with_reducible rfl
      · simp only [List.set_cons_succ, List.set_cons_zero]; rfl
      refine' take_at 11 rfl (by kernel_rfl) (by kernel_rfl) (by kernel_rfl) (fun _ _ _ h => h) (by rfl) hS ?_ ?_ ?_
      rotate_left 2
      · intro W hSW; go_simp; try with_reducible rfl
      · simp only [List.set_cons_succ, List.set_cons_zero]; rfl
      refine' take_at 12 rfl (by kernel_rfl) (by kernel_rfl) (by kernel_rfl) (fun _ _ _ h => h) (by rfl) hS ?_ ?_ ?_
      rotate_left 2
      · intro W hSW; go_simp; try with_reducible rfl
      · simp only [List.set_cons_succ, List.set_cons_zero]; rfl
      refine call_at 13 rfl (by kernel_rfl) (by rfl) (fun K hK => ?_)
      go_simp
      refine hK.out _ _ (by exact HS2.out) (fun hS => ?_)
      clear hK K
      refine' take_at 14 rfl (by kernel_rfl) (by kernel_rfl) (by kernel_rfl) (fun _ _ _ h => h) (by rfl) hS ?_ ?_ ?_
      rotate_left 2
      · intro W hSW; go_simp; try with_reducible rfl
      · simp only [List.set_cons_succ, List.set_cons_zero]; rfl
      refine wpAnyH_done (by kernel_rfl) ?_ _
      refine NoPanic.normal ?_
      (try simp only [Act.put])
      go_wp2_with fail
      go_roundw
      case rel => exact ⟨k + 1, _, d, by omega, by go_num, rfl, HWS2, HC2, HV2, HI2⟩
      case measure => simp [intOf]; omega
    · obtain rfl : k = 4 := by omega
      have hv := dif_end (V := vQ l) (b := cc) (n := n) (m := m) (P := Q4) (by have := HV.out; rw [q4_is, Nat.mod_eq_of_lt HM.out] at this; exact this) (by rw [← q4_is]; exact vQ_lt HWS.out) HN.out HM.out HC.out
      have hd : Hid (decide (n < m) = ((cc : Int) == 1)) := Lib.hid (by
        have h1 := HC.out
        have : cc = 0 ∨ cc = 1 := by omega
        rcases this with rfl | rfl
        · rw [decide_eq_false (fun h => absurd (hv.2.2 h) (by omega))]; rfl
        · rw [decide_eq_true (hv.2.1 rfl)]; rfl)
      rw [ws_row HWS.out hv.1] at HI
      generalize wdW 4 ((n + (Q4 - m)) % Q4) = OUT at *
      have h1 := HI.out.rows.head
      have h0 := HI.out.rows.tail.tail.head
      have HB : Hid (Below w.heap.size w (wr.setRow (g + 1 + 1) OUT)) := Lib.hid (below_row HI.out.below (by rw [HG.out]; omega))
      clear HI HV HWS hv
      go_wp2_with (first
        | (refine wpList_load_row rfl 38 (.tmp 2) rfl g rfl 38 OUT (0, 0) _ h1 Try.underlying38 rfl iO ?_)
        | (refine wpList_store_row rfl 38 (.tmp 4) (.tmp 25) rfl (g + 1 + 1) OUT rfl rfl 38 z4 h0 iO nO oO ?_))
      (try simp only [Exit.inBlock, Exit.then])
      refine bodyPost_ret (results_ct rfl _ _ (g + 1 + 1) _ OUT _ _ (.bool ((cc : Int) == 1)) rfl rfl (setRow_heap _ _ _ _ _ _ h0) Try.underlying38 rfl iO) rfl ?_
      exact ⟨by rw [hd.out], HB.out⟩
end Go.Proofs.Ytmmfbbbljhifjaa

