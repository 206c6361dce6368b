/- The walk of FeEdges. Written by wip/tools/mk_law9.py. -/
import Derived.Test.YtlhnjdnkjgnooaaLaw9Alive
import Derived.Test.YtlhnjdnkjgnooaaFe9L
namespace Go.Proofs.Ytlhnjdnkjgnooaa
open Go.RowKit
set_option linter.unusedVariables false
set_option maxRecDepth 100000

set_option maxHeartbeats 6400000 in
theorem law9Edges {R : Array Value → Nat → Prop} (C : FeC R) (n : Int) (n1 : -9223372036854775808 ≤ n) (n2 : n ≤ 9223372036854775807) (w : World) : Calls Try.prog 8 #[.int .i64 n] w fun e w' => e = .returned (.bool true) ∧ Below w.heap.size w w' := by
  have HAL : Hid (∀ W : World, Calls Try.prog 9 #[] W fun e w' => e = .returned (.bool true) ∧ Below W.heap.size W w') := Lib.hid (fun W => alive9_any C W)
  obtain ⟨Z, hZ, RZ⟩ := C.base.zero
  have hzR := refT_zero
  have hz32 := zero32_zero
  by_cases g0 : n < 0
  · have d0 : decide (n < 0) = true := decide_eq_true g0
    clear g0
    go_enter Try.func8, Try.ntmps8
    go_wp2_with fail
    with_reducible refine (HAL.out _).mono ?_
    rintro e v1 ⟨rfl, hb1⟩
    go_wp2_with fail
    go_ret
    exact ⟨rfl, hb1⟩
  have d0 : decide (n < 0) = false := decide_eq_false g0
  by_cases g1 : (255 : Int) < n
  · have d1 : decide ((255 : Int) < n) = true := decide_eq_true g1
    clear g0 g1
    go_enter Try.func8, Try.ntmps8
    go_wp2_with fail
    with_reducible refine (HAL.out _).mono ?_
    rintro e v1 ⟨rfl, hb1⟩
    go_wp2_with fail
    go_ret
    exact ⟨rfl, hb1⟩
  have d1 : decide ((255 : Int) < n) = false := decide_eq_false g1
  obtain ⟨m, rfl⟩ : ∃ m : Nat, n = (m : Int) := ⟨n.toNat, by omega⟩
  have hm : m < 256 := by omega
  have Hm := Lib.hid hm
  clear g0 g1 hm n1 n2
  go_enter Try.func8, Try.ntmps8
  go_wp2_with fail
  with_reducible refine (HAL.out _).mono ?_
  rintro e v1 ⟨rfl, hb1⟩
  have h0 : (v1.alloc (.cells zero32 22)).heap[v1.heap.size]? = some (.cells zero32 22 (0, 0)) := heap_alloc_new _ _
  have HR1 := Lib.hid ((RowsW.nil v1).new zero32 (arrB (fillB 0)) 22)
  have HB1 := Lib.hid (below_new hb1 zero32 (arrB (fillB 0)) 22)
  have HG1 := Lib.hid hb1.size
  have hq : arrB (fillB 0) = zero32 := rfl
  rw [hq] at HR1 HB1
  clear hb1
  go_wp2_with (refine wpList_store_row rfl 22 (.tmp 4) (.tmp 19) rfl v1.heap.size zero32 rfl rfl 22 zero32 h0 zero32_info rfl zero32_one ?_)
  obtain ⟨W1, hW1⟩ : ∃ W, (v1.alloc (.cells zero32 22)).setRow v1.heap.size zero32 = W := ⟨_, rfl⟩
  obtain ⟨g, hg⟩ : ∃ g, v1.heap.size = g := ⟨_, rfl⟩
  rw [hW1, hg] at HR1
  rw [hW1] at HB1
  rw [hg] at HG1
  rw [hg] at hW1
  rw [hg, hW1]
  rw [← hq] at HR1
  clear hW1 hg h0 hq
  go_loopw [5] (fun i wr => ∃ k : Nat, k ≤ 32 ∧ i = .int .i64 (k : Int) ∧ Hid (RowsW wr [(g, arrB (fillB k), 22)]) ∧ Hid (Below w.heap.size w wr)) (fun i _ => 32 - (intOf i).toNat)
  case atStart => exact ⟨0, by omega, rfl, HR1, HB1⟩
  case round =>
    clear HR1 HB1
    obtain ⟨k, hk, rfl, HR1, HB1⟩ := hrel
    by_cases hlt : k < 32
    · have cx : wr.cell? ⟨g, k, none⟩ = some (.int .u8 (((fillB k).getD k 0).toNat : Int)) := by rw [cell_of_row _ _ _ _ _ _ HR1.out.head, arrB_get _ _ (by rw [fillB_len hk]; exact hlt)]
      have fx := frozen_row HR1.out.head k
      have hs := HR1.out.set (by simp) k (.int .u8 255)
      rw [show (255 : Int) = ((255 : UInt8).toNat : Int) from rfl, arrB_set, fillB_set hlt] at hs
      have HR2 : Hid (RowsW (wr.setCell ⟨g, k, none⟩ (.int .u8 255)) [(g, arrB (fillB (k + 1)), 22)]) := Lib.hid hs
      have HB2 := Lib.hid (HB1.out.setCell (p := ⟨g, k, none⟩) (by show w.heap.size ≤ g; exact HG1.out) (.int .u8 255))
      generalize ((fillB k).getD k 0) = old at *
      have b5 : 0 ≤ (k : Int) := by omega
      have b6 : (k : Int) < 32 := by omega
      clear HR1 HB1 hs
      go_wp2_with fail
      go_roundw
      case rel => exact ⟨k + 1, by omega, by go_num, HR2, HB2⟩
      case measure => simp [intOf]; omega
    · obtain rfl : k = 32 := by omega
      have hm := Hm.out
      rw [fillB_end] at HR1
      obtain ⟨L, hL⟩ : ∃ L, List.replicate 32 (255 : UInt8) = L := ⟨_, rfl⟩
      have hLl : L.length = 32 := by rw [← hL]; simp
      rw [hL] at HR1
      have c0 : wr.cell? ⟨g, 0, none⟩ = some (.int .u8 ((L.getD 0 0).toNat : Int)) := by rw [cell_of_row _ _ _ _ _ _ HR1.out.head, arrB_get _ _ (by omega)]
      have f0 := frozen_row HR1.out.head 0
      have e2 : ((UInt8.ofNat m).toNat : Int) = (m : Int) := by simp; omega
      have hs := HR1.out.set (by simp) 0 (.int .u8 ((UInt8.ofNat m).toNat : Int))
      rw [arrB_set, e2] at hs
      have c1 : (wr.setCell ⟨g, 0, none⟩ (.int .u8 (m : Int))).cell? ⟨g, 31, none⟩ = some (.int .u8 (((L.set 0 (UInt8.ofNat m)).getD 31 0).toNat : Int)) := by rw [cell_of_row _ _ _ _ _ _ hs.head, arrB_get _ _ (by rw [List.length_set]; omega)]
      have f1 := frozen_row hs.head 31
      have hs2 := hs.set (by simp) 31 (.int .u8 127)
      rw [show (127 : Int) = ((127 : UInt8).toNat : Int) from rfl, arrB_set] at hs2
      have hs3 : RowsW ((wr.setCell ⟨g, 0, none⟩ (.int .u8 (m : Int))).setCell ⟨g, 31, none⟩ (.int .u8 127)) [(g, arrB (edgeB m), 22)] := by unfold edgeB; rw [hL]; exact hs2
      have hb3 := (HB1.out.setCell (p := ⟨g, 0, none⟩) (by show w.heap.size ≤ g; exact HG1.out) (.int .u8 (m : Int))).setCell (p := ⟨g, 31, none⟩) (by show w.heap.size ≤ g; exact HG1.out) (.int .u8 127)
      generalize (L.getD 0 0) = old0 at *
      generalize ((L.set 0 (UInt8.ofNat m)).getD 31 0) = old1 at *
      have f2 : IntKind.u8.wrap (m : Int) = (m : Int) := by rw [IntKind.wrap_u8]; omega
      have HR3 := Lib.hid hs3
      have HB3 := Lib.hid hb3
      clear hs hs2 hs3 hb3 HR1 HB1 e2 hL hLl hlt hk hm
      go_upto_region 11 with fail
      obtain ⟨W4, hW4⟩ : ∃ W, (wr.setCell ⟨g, 0, none⟩ (.int .u8 (m : Int))).setCell ⟨g, 31, none⟩ (.int .u8 127) = W := ⟨_, rfl⟩
      rw [hW4] at HR3 HB3
      rw [hW4]
      have Hb := Lib.hid (edge_len m)
      clear hW4 c0 c1 f0 f1 f2
      have l1 := HR3.out.head
      go_wp2_with (refine wpList_load_row rfl 22 (.tmp 4) rfl g rfl 22 (arrB (edgeB m)) (0, 0) _ l1 Try.underlying22 rfl (arr32_info Hb.out) ?_)
      obtain ⟨n2, hn2⟩ : ∃ x : Nat, feN (edgeB m) = x := ⟨_, rfl⟩
      have Hn2 := Lib.hid hn2
      have HLn2 : Hid (n2 < PP) := Lib.hid (by rw [← hn2]; exact Nat.mod_lt _ (by decide))
      clear hn2
      with_reducible refine ((C.from_ (edgeB m) Hb.out) _).mono ?_
      rintro e vq3 ⟨cq3, rfl, rq3, hbq3⟩
      rw [Hn2.out] at rq3
      have Rq3 := Lib.hid rq3
      clear rq3
      have HRq3 := Lib.hid (HR3.out.below hbq3)
      have HBq3 := Lib.hid (below_next HB3.out hbq3)
      clear hbq3
      have h0q4 : (vq3.alloc (.cells Z 26)).heap[vq3.heap.size]? = some (.cells Z 26 (0, 0)) := heap_alloc_new _ _
      have HRq4 := Lib.hid (HRq3.out.new Z cq3 26)
      have HBq4 := Lib.hid (below_new HBq3.out Z cq3 26)
      have HNq4 := Lib.hid HRq3.out.ne
      have HGq4 := Lib.hid HBq3.out.size
      go_upto_region 12 with (refine wpList_store_row rfl 26 (.tmp 6) (.tmp 31) rfl vq3.heap.size cq3 rfl rfl 26 Z h0q4 (C.base.info Rq3.out) (C.base.size RZ Rq3.out) (C.base.one Rq3.out) ?_)
      obtain ⟨Wq4, hWq4⟩ : ∃ W, (vq3.alloc (.cells Z 26)).setRow vq3.heap.size cq3 = W := ⟨_, rfl⟩
      obtain ⟨gq4, hgq4⟩ : ∃ g, vq3.heap.size = g := ⟨_, rfl⟩
      rw [hWq4, hgq4] at HRq4
      rw [hWq4] at HBq4
      rw [hgq4] at HNq4 HGq4
      rw [hWq4, hgq4]
      clear hWq4 hgq4 h0q4
      have NEq4_0 : Hid (g ≠ gq4) := Lib.hid (HNq4.out (g, (arrB (edgeB m)), 22) (by simp))
      have hm := Hm.out
      by_cases hlo : m < 237
      · have dlo : decide ((m : Int) < 237) = true := decide_eq_true (by omega)
        obtain ⟨e1, e2, e3, e4⟩ := edge_low hlo
        obtain ⟨d, hd⟩ : ∃ d, 237 - m = d := ⟨_, rfl⟩
        have t1 : IntKind.i64.wrap (237 - (m : Int)) = (d : Int) := by rw [IntKind.wrap_i64]; omega
        have t2 : (237 : Int) - (m : Int) = (d : Int) := by omega
        have t3 : IntKind.u64.wrap (d : Int) = (d : Int) := by rw [IntKind.wrap_u64]; omega
        have t4 : IntKind.i64.wrap (d : Int) = (d : Int) := by rw [IntKind.wrap_i64]; omega
        have Hd : Hid (d < 18446744073709551616) := Lib.hid (by omega)
        have Hdlt : Hid (d < PP) := Lib.hid (by unfold PP; omega)
        have hx := Hn2.out
        have E4 : Hid ((n2 + d) % PP = 0) := Lib.hid (by rw [← hx, e1, ← hd]; exact e4)
        have heqE : ∀ u : World, (binOp .eql 22 (.agg (bytT n2)) (.agg (arrB (edgeB m)))).run Try.prog u = .ok (.bool true) u := fun u => by
          have h := eqByt (l := leB 32 n2) (m := edgeB m) (leB_len 32 _) (edge_len m) u
          rw [decide_eq_true (show leB 32 n2 = edgeB m by rw [← hx]; exact e3)] at h
          exact h
        have HCA : Hid (canN (edgeB m) = true) := Lib.hid e2
        clear e1 e2 e3 e4 hd hx hlo hm
        go_upto_region 13 with fail
        refine wp_region_noPanic ?_
        refine wp_region_held_drew (S := fun W => Below Wq4.heap.size Wq4 W) (by kernel_rfl) (by exact (Below.refl _ _).drew) (fun hS => ?_)
        refine' take_at 0 rfl (by kernel_rfl) (by kernel_rfl) (by kernel_rfl) (fun _ _ _ h => h) (by rfl) hS ?_ ?_ ?_
        rotate_left 2
        · intro W hSW; exact run_loadR rfl rfl (HRq4.out.below hSW).tail.head Try.underlying22 rfl (arr32_info Hb.out)
        · simp only [List.set_cons_succ, List.set_cons_zero]; rfl
        refine call_at 1 rfl (by kernel_rfl) (by rfl) (fun K hK => ?_)
        go_simp
        have kq5 := fun W : World => (C.can (edgeB m) Hb.out) W
        rw [HCA.out] at kq5
        have Kq5 := Lib.hid kq5
        clear kq5
        with_reducible refine (Kq5.out _).mono ?_
        rintro e vq5 ⟨rfl, hbq5⟩
        have kbq5 := below_next hS hbq5
        clear hS hbq5
        refine hK.out _ _ (by exact kbq5) (fun hS => ?_)
        clear hK K
        refine' take_at 2 rfl (by kernel_rfl) (by kernel_rfl) (by kernel_rfl) (fun _ _ _ h => h) (by rfl) hS ?_ ?_ ?_
        rotate_left 2
        · intro W hSW; go_simp; try with_reducible rfl
        · simp only [List.set_cons_succ, List.set_cons_zero]; rfl
        refine' take_at 3 rfl (by kernel_rfl) (by kernel_rfl) (by kernel_rfl) (fun _ _ _ h => h) (by rfl) hS ?_ ?_ ?_
        rotate_left 2
        · intro W hSW; exact run_loadR rfl rfl (HRq4.out.below hSW).head Try.underlying26 rfl (C.base.info Rq3.out)
        · simp only [List.set_cons_succ, List.set_cons_zero]; rfl
        refine' take_at 4 rfl (by kernel_rfl) (by kernel_rfl) (by kernel_rfl) (fun _ _ _ h => h) (by rfl) hS ?_ ?_ ?_
        rotate_left 2
        · intro W hSW; go_simp; try with_reducible rfl
        · simp only [List.set_cons_succ, List.set_cons_zero]; rfl
        refine' take_at 5 rfl (by kernel_rfl) (by kernel_rfl) (by kernel_rfl) (fun _ _ _ h => h) (by rfl) hS ?_ ?_ ?_
        rotate_left 2
        · intro W hSW; go_simp; try with_reducible rfl
        · simp only [List.set_cons_succ, List.set_cons_zero]; rfl
        refine' take_at 6 rfl (by kernel_rfl) (by kernel_rfl) (by kernel_rfl) (fun _ _ _ h => h) (by rfl) hS ?_ ?_ ?_
        rotate_left 2
        · intro W hSW; go_simp; try with_reducible rfl
        · simp only [List.set_cons_succ, List.set_cons_zero]; rfl
        refine call_at 7 rfl (by kernel_rfl) (by rfl) (fun K hK => ?_)
        go_simp
        with_reducible refine ((C.small d Hd.out) _).mono ?_
        rintro e vq6 ⟨cq6, rfl, rq6, hbq6⟩
        have Rq6 := Lib.hid rq6
        clear rq6
        have kbq6 := below_next kbq5 hbq6
        clear hS hbq6
        refine hK.out _ _ (by exact kbq6) (fun hS => ?_)
        clear hK K
        refine call_at 8 rfl (by kernel_rfl) (by rfl) (fun K hK => ?_)
        go_simp
        obtain ⟨n7, hn7⟩ : ∃ x : Nat, (n2 + d) % PP = x := ⟨_, rfl⟩
        have Hn7 := Lib.hid hn7
        have HLn7 : Hid (n7 < PP) := Lib.hid (by rw [← hn7]; exact Nat.mod_lt _ (by decide))
        clear hn7
        with_reducible refine ((C.add Rq3.out Rq6.out) _).mono ?_
        rintro e vq8 ⟨cq8, rfl, rq8, hbq8⟩
        rw [Hn7.out] at rq8
        have Rq8 := Lib.hid rq8
        clear rq8
        have kbq8 := below_next kbq6 hbq8
        clear hS hbq8
        refine hK.out _ _ (by exact kbq8) (fun hS => ?_)
        clear hK K
        refine call_at 9 rfl (by kernel_rfl) (by rfl) (fun K hK => ?_)
        go_simp
        have s43_0 : ∀ W : World, Calls Try.prog 14 #[.int .u64 0] W (RetFe R W 0) := fun W => C.small 0 (by decide) W
        with_reducible refine (s43_0 _).mono ?_
        rintro e vq9 ⟨cq9, rfl, rq9, hbq9⟩
        have Rq9 := Lib.hid rq9
        clear rq9
        have kbq9 := below_next kbq8 hbq9
        clear hS hbq9
        refine hK.out _ _ (by exact kbq9) (fun hS => ?_)
        clear hK K
        refine call_at 10 rfl (by kernel_rfl) (by rfl) (fun K hK => ?_)
        go_simp
        have kq10 := fun W : World => (C.equal Rq8.out Rq9.out) W
        rw [decide_eq_true (show n7 = 0 from (by rw [← Hn7.out]; exact E4.out))] at kq10
        have Kq10 := Lib.hid kq10
        clear kq10
        with_reducible refine (Kq10.out _).mono ?_
        rintro e vq10 ⟨rfl, hbq10⟩
        have kbq10 := below_next kbq9 hbq10
        clear hS hbq10
        refine hK.out _ _ (by exact kbq10) (fun hS => ?_)
        clear hK K
        refine' take_at 11 rfl (by kernel_rfl) (by kernel_rfl) (by kernel_rfl) (fun _ _ _ h => h) (by rfl) hS ?_ ?_ ?_
        rotate_left 2
        · intro W hSW; go_simp; try with_reducible rfl
        · simp only [List.set_cons_succ, List.set_cons_zero]; rfl
        refine' take_at 12 rfl (by kernel_rfl) (by kernel_rfl) (by kernel_rfl) (fun _ _ _ h => h) (by rfl) hS ?_ ?_ ?_
        rotate_left 2
        · intro W hSW; go_simp; try with_reducible rfl
        · simp only [List.set_cons_succ, List.set_cons_zero]; rfl
        refine' take_at 13 rfl (by kernel_rfl) (by kernel_rfl) (by kernel_rfl) (fun _ _ _ h => h) (by rfl) hS ?_ ?_ ?_
        rotate_left 2
        · intro W hSW; exact run_loadR rfl rfl (HRq4.out.below hSW).head Try.underlying26 rfl (C.base.info Rq3.out)
        · simp only [List.set_cons_succ, List.set_cons_zero]; rfl
        refine' take_at 15 rfl (by kernel_rfl) (by kernel_rfl) (by kernel_rfl) (fun _ _ _ h => h) (by rfl) hS ?_ ?_ ?_
        rotate_left 2
        · intro W hSW; exact run_loadR rfl rfl (HRq4.out.below hSW).tail.head Try.underlying22 rfl (arr32_info Hb.out)
        · simp only [List.set_cons_succ, List.set_cons_zero]; rfl
        refine call_at 14 rfl (by kernel_rfl) (by rfl) (fun K hK => ?_)
        go_simp
        with_reducible refine ((C.bytes Rq3.out) _).mono ?_
        rintro e vq11 ⟨rfl, hbq11⟩
        have kbq11 := below_next kbq10 hbq11
        clear hS hbq11
        refine hK.out _ _ (by exact kbq11) (fun hS => ?_)
        clear hK K
        refine' take_at 16 rfl (by kernel_rfl) (by kernel_rfl) (by kernel_rfl) (fun _ _ _ h => h) (by rfl) hS ?_ ?_ ?_
        rotate_left 2
        · intro W hSW; exact run_eql2 rfl rfl rfl guardB (heqE W)
        · simp only [List.set_cons_succ, List.set_cons_zero]; rfl
        refine' take_at 17 rfl (by kernel_rfl) (by kernel_rfl) (by kernel_rfl) (fun _ _ _ h => h) (by rfl) hS ?_ ?_ ?_
        rotate_left 2
        · intro W hSW; go_simp; try with_reducible rfl
        · simp only [List.set_cons_succ, List.set_cons_zero]; rfl
        refine' take_at 18 rfl (by kernel_rfl) (by kernel_rfl) (by kernel_rfl) (fun _ _ _ h => h) (by rfl) hS ?_ ?_ ?_
        rotate_left 2
        · intro W hSW; go_simp; try with_reducible rfl
        · simp only [List.set_cons_succ, List.set_cons_zero]; rfl
        refine wpAnyH_done (by kernel_rfl) ?_ _
        refine NoPanic.normal ?_
        clear hS
        (try simp only [Act.put])
        have HRq12 := Lib.hid (HRq4.out.below kbq11)
        have HBq12 := Lib.hid (below_next HBq4.out kbq11)
        go_wp2_with fail
        go_ret
        exact ⟨rfl, HBq12.out⟩
      · have dlo : decide ((m : Int) < 237) = false := decide_eq_false (by omega)
        obtain ⟨e1, e2⟩ := edge_high (by omega) hm
        obtain ⟨d, hd⟩ : ∃ d, m - 237 = d := ⟨_, rfl⟩
        have t1 : IntKind.i64.wrap ((m : Int) - 237) = (d : Int) := by rw [IntKind.wrap_i64]; omega
        have t2 : (m : Int) - 237 = (d : Int) := by omega
        have t3 : IntKind.u64.wrap (d : Int) = (d : Int) := by rw [IntKind.wrap_u64]; omega
        have t4 : IntKind.i64.wrap (d : Int) = (d : Int) := by rw [IntKind.wrap_i64]; omega
        have Hd : Hid (d < 18446744073709551616) := Lib.hid (by omega)
        have Hdlt : Hid (d < PP) := Lib.hid (by unfold PP; omega)
        have E4 : Hid (n2 = d) := Lib.hid (by rw [← Hn2.out, e1, hd])
        have HCA : Hid (canN (edgeB m) = false) := Lib.hid e2
        clear e1 e2 hd hlo hm
        go_upto_region 14 with fail
        refine wp_region_noPanic ?_
        refine wp_region_held_drew (S := fun W => Below Wq4.heap.size Wq4 W) (by kernel_rfl) (by exact (Below.refl _ _).drew) (fun hS => ?_)
        refine' take_at 0 rfl (by kernel_rfl) (by kernel_rfl) (by kernel_rfl) (fun _ _ _ h => h) (by rfl) hS ?_ ?_ ?_
        rotate_left 2
        · intro W hSW; exact run_loadR rfl rfl (HRq4.out.below hSW).tail.head Try.underlying22 rfl (arr32_info Hb.out)
        · simp only [List.set_cons_succ, List.set_cons_zero]; rfl
        refine call_at 1 rfl (by kernel_rfl) (by rfl) (fun K hK => ?_)
        go_simp
        have kq13 := fun W : World => (C.can (edgeB m) Hb.out) W
        rw [HCA.out] at kq13
        have Kq13 := Lib.hid kq13
        clear kq13
        with_reducible refine (Kq13.out _).mono ?_
        rintro e vq13 ⟨rfl, hbq13⟩
        have kbq13 := below_next hS hbq13
        clear hS hbq13
        refine hK.out _ _ (by exact kbq13) (fun hS => ?_)
        clear hK K
        refine' take_at 2 rfl (by kernel_rfl) (by kernel_rfl) (by kernel_rfl) (fun _ _ _ h => h) (by rfl) hS ?_ ?_ ?_
        rotate_left 2
        · intro W hSW; go_simp; try with_reducible rfl
        · simp only [List.set_cons_succ, List.set_cons_zero]; rfl
        refine' take_at 3 rfl (by kernel_rfl) (by kernel_rfl) (by kernel_rfl) (fun _ _ _ h => h) (by rfl) hS ?_ ?_ ?_
        rotate_left 2
        · intro W hSW; go_simp; try with_reducible rfl
        · simp only [List.set_cons_succ, List.set_cons_zero]; rfl
        refine' take_at 4 rfl (by kernel_rfl) (by kernel_rfl) (by kernel_rfl) (fun _ _ _ h => h) (by rfl) hS ?_ ?_ ?_
        rotate_left 2
        · intro W hSW; exact run_loadR rfl rfl (HRq4.out.below hSW).head Try.underlying26 rfl (C.base.info Rq3.out)
        · simp only [List.set_cons_succ, List.set_cons_zero]; rfl
        refine' take_at 5 rfl (by kernel_rfl) (by kernel_rfl) (by kernel_rfl) (fun _ _ _ h => h) (by rfl) hS ?_ ?_ ?_
        rotate_left 2
        · intro W hSW; go_simp; try with_reducible rfl
        · simp only [List.set_cons_succ, List.set_cons_zero]; rfl
        refine' take_at 6 rfl (by kernel_rfl) (by kernel_rfl) (by kernel_rfl) (fun _ _ _ h => h) (by rfl) hS ?_ ?_ ?_
        rotate_left 2
        · intro W hSW; go_simp; try with_reducible rfl
        · simp only [List.set_cons_succ, List.set_cons_zero]; rfl
        refine' take_at 7 rfl (by kernel_rfl) (by kernel_rfl) (by kernel_rfl) (fun _ _ _ h => h) (by rfl) hS ?_ ?_ ?_
        rotate_left 2
        · intro W hSW; go_simp; try with_reducible rfl
        · simp only [List.set_cons_succ, List.set_cons_zero]; rfl
        refine call_at 8 rfl (by kernel_rfl) (by rfl) (fun K hK => ?_)
        go_simp
        with_reducible refine ((C.small d Hd.out) _).mono ?_
        rintro e vq14 ⟨cq14, rfl, rq14, hbq14⟩
        have Rq14 := Lib.hid rq14
        clear rq14
        have kbq14 := below_next kbq13 hbq14
        clear hS hbq14
        refine hK.out _ _ (by exact kbq14) (fun hS => ?_)
        clear hK K
        refine call_at 9 rfl (by kernel_rfl) (by rfl) (fun K hK => ?_)
        go_simp
        have kq15 := fun W : World => (C.equal Rq3.out Rq14.out) W
        rw [decide_eq_true (show n2 = d from E4.out)] at kq15
        have Kq15 := Lib.hid kq15
        clear kq15
        with_reducible refine (Kq15.out _).mono ?_
        rintro e vq15 ⟨rfl, hbq15⟩
        have kbq15 := below_next kbq14 hbq15
        clear hS hbq15
        refine hK.out _ _ (by exact kbq15) (fun hS => ?_)
        clear hK K
        refine' take_at 10 rfl (by kernel_rfl) (by kernel_rfl) (by kernel_rfl) (fun _ _ _ h => h) (by rfl) hS ?_ ?_ ?_
        rotate_left 2
        · intro W hSW; go_simp; try with_reducible rfl
        · simp only [List.set_cons_succ, List.set_cons_zero]; rfl
        refine' take_at 11 rfl (by kernel_rfl) (by kernel_rfl) (by kernel_rfl) (fun _ _ _ h => h) (by rfl) hS ?_ ?_ ?_
        rotate_left 2
        · intro W hSW; go_simp; try with_reducible rfl
        · simp only [List.set_cons_succ, List.set_cons_zero]; rfl
        refine wpAnyH_done (by kernel_rfl) ?_ _
        refine NoPanic.normal ?_
        clear hS
        (try simp only [Act.put])
        have HRq16 := Lib.hid (HRq4.out.below kbq15)
        have HBq16 := Lib.hid (below_next HBq4.out kbq15)
        go_wp2_with fail
        go_ret
        exact ⟨rfl, HBq16.out⟩
end Go.Proofs.Ytlhnjdnkjgnooaa

