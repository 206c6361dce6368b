/- The walk of PointSmall. Written by wip/tools. -/
import Derived.Test.YtddijcopoaeejaaPtS
import Derived.Test.YtddijcopoaeejaaLaw12At
import Derived.Test.YtddijcopoaeejaaGheld
import Derived.Test.YtddijcopoaeejaaGbyt
namespace Go.Proofs.Ytddijcopoaeejaa
open Go.RowKit
set_option linter.unusedVariables false
set_option maxRecDepth 100000

/-- 128 bytes of 0 -/
def z128 : Array Value := arrB (List.replicate 128 0)
theorem zero128 (u : World) : (zeroValue 51).run Try.prog u = .ok (.agg z128) u := by kernel_rfl
theorem z128_info : (Try.prog.info? 51).map (·.size) = some z128.size := by kernel_rfl
theorem z128_one : z128.all (·.oneCell') = true := arrB_one _
theorem z128_one_set : z128.setIfInBounds 0 (.int .u8 1) = arrB (fourL 0) := by
  unfold z128
  rw [show (1 : Int) = ((1 : UInt8).toNat : Int) from rfl, arrB_set]
  exact congrArg arrB (by decide)

set_option maxHeartbeats 6400000 in
theorem law12Small {R : Array Value → PtD → Prop} (D : PtC R) (n : Int) (n1 : -9223372036854775808 ≤ n) (n2 : n ≤ 9223372036854775807) (w : World) : Calls Try.prog 7 #[.int .i64 n] w fun e w' => e = .returned (.bool true) ∧ Below w.heap.size w w' := by
  have HAL : Hid (∀ W : World, Calls Try.prog 9 #[] W fun e w' => e = .returned (.bool true) ∧ Below W.heap.size W w') := Lib.hid (fun W => alive12_any D W)
  obtain ⟨Z, hZ, sZ⟩ := D.base.zero
  have hz32 := zero32_zero
  have hzP := refP_zero
  have hz4 := zero128
  go_enter Try.func7, Try.ntmps7
  go_wp2_with fail
  with_reducible refine (HAL.out _).mono ?_
  rintro e v1 ⟨rfl, hb1⟩
  have h0 : (v1.alloc (.cells z128 51)).heap[v1.heap.size]? = some (.cells z128 51 (0, 0)) := heap_alloc_new _ _
  have HR1 := Lib.hid ((RowsW.nil v1).new z128 z128 51)
  have HB1 := Lib.hid (below_new hb1 z128 z128 51)
  have HG1 := Lib.hid hb1.size
  clear hb1
  go_upto_region 3 with (refine wpList_store_row rfl 51 (.tmp 4) (.tmp 15) rfl v1.heap.size z128 rfl rfl 51 z128 h0 z128_info rfl z128_one ?_)
  obtain ⟨W1, hW1⟩ : ∃ W, (v1.alloc (.cells z128 51)).setRow v1.heap.size z128 = W := ⟨_, rfl⟩
  obtain ⟨g, hg⟩ : ∃ g, v1.heap.size = g := ⟨_, rfl⟩
  rw [hW1, hg] at HR1
  rw [hW1] at HB1
  rw [hg] at HG1
  rw [hg] at hW1
  rw [hg, hW1]
  clear hW1 hg h0
  have c0 : W1.cell? ⟨g, 0, none⟩ = some (.int .u8 0) := by rw [cell_of_row _ _ _ _ _ _ HR1.out.head]; rfl
  have f0 := frozen_row HR1.out.head 0
  have hs := HR1.out.set (by simp) 0 (.int .u8 1)
  rw [z128_one_set] at hs
  have hb2 := HB1.out.setCell (p := ⟨g, 0, none⟩) (by show w.heap.size ≤ g; exact HG1.out) (.int .u8 1)
  have HR2 := Lib.hid hs
  have HB2 := Lib.hid hb2
  clear hs hb2 HR1 HB1
  go_wp2_with fail
  obtain ⟨W2, hW2⟩ : ∃ W, W1.setCell ⟨g, 0, none⟩ (.int .u8 1) = W := ⟨_, rfl⟩
  rw [hW2] at HR2 HB2
  rw [hW2]
  clear hW2 c0 f0
  go_loopw [5] (fun i wr => ∃ k : Nat, k ≤ 32 ∧ i = .int .i64 (k : Int) ∧ Hid (RowsW wr [(g, arrB (fourL k), 51)]) ∧ Hid (Below w.heap.size w wr)) (fun i _ => 32 - (intOf i).toNat)
  case atStart => exact ⟨0, by omega, rfl, HR2, HB2⟩
  case round =>
    clear HR2 HB2
    obtain ⟨k, hk, rfl, HR1, HB1⟩ := hrel
    by_cases hlt : k < 32
    · have cx : wr.cell? ⟨g, 32 + k, none⟩ = some (.int .u8 (((fourL k).getD (32 + k) 0).toNat : Int)) := by rw [cell_of_row _ _ _ _ _ _ HR1.out.head, arrB_get _ _ (by rw [fourL_len hk]; omega)]
      have fx := frozen_row HR1.out.head (32 + k)
      have hs := HR1.out.set (by simp) (32 + k) (.int .u8 255)
      rw [show (255 : Int) = ((255 : UInt8).toNat : Int) from rfl, arrB_set, fourL_set hlt] at hs
      have HR2 : Hid (RowsW (wr.setCell ⟨g, 32 + k, none⟩ (.int .u8 255)) [(g, arrB (fourL (k + 1)), 51)]) := Lib.hid hs
      have HB2 := Lib.hid (HB1.out.setCell (p := ⟨g, 32 + k, none⟩) (by show w.heap.size ≤ g; exact HG1.out) (.int .u8 255))
      generalize ((fourL k).getD (32 + k) 0) = old at *
      have b5 : 0 ≤ (k : Int) := by omega
      have b6 : (k : Int) < 32 := by omega
      clear HR1 HB1 hs
      go_wp2_with fail
      go_roundw
      case rel => exact ⟨k + 1, by omega, by go_num, HR2, HB2⟩
      case measure => simp [intOf]; omega
    · obtain rfl : k = 32 := by omega
      obtain ⟨L, hL⟩ : ∃ L, fourL 32 = L := ⟨_, rfl⟩
      have hLl : L.length = 128 := by rw [← hL]; exact fourL_len (by omega)
      rw [hL] at HR1
      have c0 : wr.cell? ⟨g, 32, none⟩ = some (.int .u8 ((L.getD 32 0).toNat : Int)) := by rw [cell_of_row _ _ _ _ _ _ HR1.out.head, arrB_get _ _ (by omega)]
      have f0 := frozen_row HR1.out.head 32
      have hs := HR1.out.set (by simp) 32 (.int .u8 236)
      rw [show (236 : Int) = ((236 : UInt8).toNat : Int) from rfl, arrB_set] at hs
      rw [show ((236 : UInt8).toNat : Int) = 236 from rfl] at hs
      have c1 : (wr.setCell ⟨g, 32, none⟩ (.int .u8 236)).cell? ⟨g, 63, none⟩ = some (.int .u8 (((L.set 32 236).getD 63 0).toNat : Int)) := by rw [cell_of_row _ _ _ _ _ _ hs.head, arrB_get _ _ (by rw [List.length_set]; omega)]
      have f1 := frozen_row hs.head 63
      have hs2 := hs.set (by simp) 63 (.int .u8 127)
      rw [show (127 : Int) = ((127 : UInt8).toNat : Int) from rfl, arrB_set] at hs2
      rw [show ((127 : UInt8).toNat : Int) = 127 from rfl] at hs2
      have c2 : ((wr.setCell ⟨g, 32, none⟩ (.int .u8 236)).setCell ⟨g, 63, none⟩ (.int .u8 127)).cell? ⟨g, 127, none⟩ = some (.int .u8 ((((L.set 32 236).set 63 127).getD 127 0).toNat : Int)) := by rw [cell_of_row _ _ _ _ _ _ hs2.head, arrB_get _ _ (by rw [List.length_set, List.length_set]; omega)]
      have f2 := frozen_row hs2.head 127
      have hs3 := hs2.set (by simp) 127 (.int .u8 128)
      rw [show (128 : Int) = ((128 : UInt8).toNat : Int) from rfl, arrB_set] at hs3
      rw [show ((128 : UInt8).toNat : Int) = 128 from rfl, ← hL] at hs3
      have hb4 := ((HB1.out.setCell (p := ⟨g, 32, none⟩) (by show w.heap.size ≤ g; exact HG1.out) (.int .u8 236)).setCell (p := ⟨g, 63, none⟩) (by show w.heap.size ≤ g; exact HG1.out) (.int .u8 127)).setCell (p := ⟨g, 127, none⟩) (by show w.heap.size ≤ g; exact HG1.out) (.int .u8 128)
      generalize (L.getD 32 0) = old0 at *
      generalize ((L.set 32 236).getD 63 0) = old1 at *
      generalize (((L.set 32 236).set 63 127).getD 127 0) = old2 at *
      have HR3 : Hid (RowsW (((wr.setCell ⟨g, 32, none⟩ (.int .u8 236)).setCell ⟨g, 63, none⟩ (.int .u8 127)).setCell ⟨g, 127, none⟩ (.int .u8 128)) [(g, arrB fourE, 51)]) := Lib.hid hs3
      have HB3 := Lib.hid hb4
      clear hs hs2 hs3 hb4 HR1 HB1 hL hLl hlt hk
      go_upto_region 11 with fail
      obtain ⟨W4, hW4⟩ : ∃ W, ((wr.setCell ⟨g, 32, none⟩ (.int .u8 236)).setCell ⟨g, 63, none⟩ (.int .u8 127)).setCell ⟨g, 127, none⟩ (.int .u8 128) = W := ⟨_, rfl⟩
      rw [hW4] at HR3 HB3
      rw [hW4]
      clear hW4 c0 c1 c2 f0 f1 f2
      by_cases g0 : n < 0
      · have d0 : decide (n < 0) = true := decide_eq_true g0
        clear g0
        go_wp2_with fail
        go_ret
        exact ⟨rfl, HB3.out⟩
      have d0 : decide (n < 0) = false := decide_eq_false g0
      by_cases g1 : (3 : Int) < n
      · have d1 : decide ((3 : Int) < n) = true := decide_eq_true g1
        clear g0 g1
        go_wp2_with fail
        go_ret
        exact ⟨rfl, HB3.out⟩
      have d1 : decide ((3 : Int) < n) = false := decide_eq_false g1
      obtain ⟨i, rfl⟩ : ∃ i : Nat, n = (i : Int) := ⟨n.toNat, by omega⟩
      have hi : i < 4 := by omega
      have Hi := Lib.hid hi
      clear g0 g1 n1 n2
      go_upto_region 13 with fail
      clear d0 d1
      have l1 := HR3.out.head
      have hrow := small_row i hi
      have b5 : 0 ≤ (i : Int) := by omega
      have b6 : (i : Int) < 4 := by omega
      have HP1 : Hid (∀ j, j < (bytT (F25519.encN (smallP i))).size → (arrB fourE)[i * 32 + j]? = (bytT (F25519.encN (smallP i)))[j]?) := Lib.hid (fun j hj => by rw [Nat.mul_comm i 32]; unfold bytT at *; rw [← hrow] at hj ⊢; rw [arrB_size, rowE_len i hi] at hj; rw [arrB_get _ _ (by rw [fourE_len]; omega), arrB_get _ _ (by rw [rowE_len i hi]; omega), row_at i hi j hj])
      go_wp2_with (refine wpList_runsV (o := ⟨some 45, _, _, _, _, _⟩) rfl (.agg (bytT (F25519.encN (smallP i)))) (run_loadP rfl rfl l1 Try.underlying22 rfl (bytT_info _) HP1.out) ?_)
      have z46 : ∀ W : World, Calls Try.prog 10 #[.agg (bytT (F25519.encN (smallP i)))] W (RetPtB R W (smallP i) true) := fun W => by have h := D.decode _ (leB_len 32 (F25519.encN (smallP i))) W; rw [(dec_enc (smallP i)).1, (dec_enc (smallP i)).2] at h; exact h
      with_reducible refine ((fun W => z46 W) _).mono ?_
      rintro e vq1 ⟨cq1, rfl, rq1, hbq1⟩
      have Rq1 := Lib.hid rq1
      clear rq1
      have HRq1 := Lib.hid (HR3.out.below hbq1)
      have HBq1 := Lib.hid (below_next HB3.out hbq1)
      clear hbq1
      have h0q2 : (vq1.alloc (.cells Z 28)).heap[vq1.heap.size]? = some (.cells Z 28 (0, 0)) := heap_alloc_new _ _
      have HRq2 := Lib.hid (HRq1.out.new Z cq1 28)
      have HBq2 := Lib.hid (below_new HBq1.out Z cq1 28)
      have HNq2 := Lib.hid HRq1.out.ne
      have HGq2 := Lib.hid HBq1.out.size
      go_upto_region 14 with (refine wpList_store_row rfl 28 (.tmp 6) (.tmp 47) rfl vq1.heap.size cq1 rfl rfl 28 Z h0q2 (D.base.info Rq1.out) (sZ Rq1.out) (D.base.one Rq1.out) ?_)
      obtain ⟨Wq2, hWq2⟩ : ∃ W, (vq1.alloc (.cells Z 28)).setRow vq1.heap.size cq1 = W := ⟨_, rfl⟩
      obtain ⟨gq2, hgq2⟩ : ∃ g, vq1.heap.size = g := ⟨_, rfl⟩
      rw [hWq2, hgq2] at HRq2
      rw [hWq2] at HBq2
      rw [hgq2] at HNq2 HGq2
      rw [hWq2, hgq2]
      clear hWq2 hgq2 h0q2
      have NEq2_0 : Hid (g ≠ gq2) := Lib.hid (HNq2.out (g, (arrB fourE), 51) (by simp))
      go_upto_region 15 with fail
      have hget : ∀ h, ([Value.int .i64 0, Value.int .i64 1, Value.int .i64 2, Value.int .i64 2] : List Value)[i]'h = .int .i64 (ordN i : Int) := by
        intro h
        have : i = 0 ∨ i = 1 ∨ i = 2 ∨ i = 3 := by have := Hi.out; omega
        rcases this with rfl | rfl | rfl | rfl <;> rfl
      rw [hget]
      clear hget
      have HO := Lib.hid (small_ord i hi)
      obtain ⟨o, ho⟩ : ∃ o, ordN i = o := ⟨_, rfl⟩
      rw [ho] at HO
      rw [ho]
      have hol : o < 3 := by rw [← ho]; unfold ordN; split <;> omega
      clear ho
      obtain ⟨W5, hW5⟩ : ∃ W, Wq2.alloc (Obj.cells #[Value.int IntKind.i64 0, Value.int IntKind.i64 1, Value.int IntKind.i64 2, Value.int IntKind.i64 2] 3) = W := ⟨_, rfl⟩
      have hbA : Below Wq2.heap.size Wq2 W5 := by rw [← hW5]; exact (Below.refl _ _).alloc (Nat.le_refl _) _
      have HR5 := Lib.hid (HRq2.out.below hbA)
      have HB5 := Lib.hid (below_next HBq2.out hbA)
      rw [hW5]
      clear hW5 hbA
      have l3 := HR5.out.head
      have h0q4 : (W5.alloc (.cells Z 28)).heap[W5.heap.size]? = some (.cells Z 28 (0, 0)) := heap_alloc_new _ _
      have HRq4 := Lib.hid (HR5.out.new Z cq1 28)
      have HBq4 := Lib.hid (below_new HB5.out Z cq1 28)
      have HNq4 := Lib.hid HR5.out.ne
      have HGq4 := Lib.hid HB5.out.size
      go_upto_region 16 with (first
          | (refine wpList_load_row rfl 28 (.tmp 6) rfl gq2 rfl 28 cq1 (0, 0) _ l3 Try.underlying28 rfl (D.base.info Rq1.out) ?_)
          | (refine wpList_store_row rfl 28 (.tmp 9) (.tmp 53) rfl W5.heap.size cq1 rfl rfl 28 Z h0q4 (D.base.info Rq1.out) (sZ Rq1.out) (D.base.one Rq1.out) ?_))
      obtain ⟨Wq4, hWq4⟩ : ∃ W, (W5.alloc (.cells Z 28)).setRow W5.heap.size cq1 = W := ⟨_, rfl⟩
      obtain ⟨gq4, hgq4⟩ : ∃ g, W5.heap.size = g := ⟨_, rfl⟩
      rw [hWq4, hgq4] at HRq4
      rw [hWq4] at HBq4
      rw [hgq4] at HNq4 HGq4
      rw [hWq4, hgq4]
      clear hWq4 hgq4 h0q4
      have NEq4_0 : Hid (g ≠ gq4) := Lib.hid (HNq4.out (g, (arrB fourE), 51) (by simp))
      have NEq4_1 : Hid (gq2 ≠ gq4) := Lib.hid (HNq4.out (gq2, cq1, 28) (by simp))
      go_wp2_with fail
      go_loopw [10] (fun i_ wr => ∃ k : Nat, k ≤ 3 ∧ i_ = .int .i64 (k : Int) ∧ ∃ A, Hid (R A (dblP k (smallP i))) ∧ Hid (RowsW wr [(gq4, A, 28), (gq2, cq1, 28), (g, arrB fourE, 51)]) ∧ Hid (Below w.heap.size w wr)) (fun i_ _ => 3 - (intOf i_).toNat)
      case atStart => exact ⟨0, by omega, rfl, _, Rq1, HRq4, HBq4⟩
      case round =>
        clear HRq4 HBq4
        obtain ⟨k, hk, rfl, A, RA, HR6, HB6⟩ := hrel
        skip
        by_cases hk3 : k < 3
        · have HK3 := Lib.hid hk3
          have dk : decide (k < 3) = true := decide_eq_true hk3
          go_upto_region 19 with fail
          by_cases hok : o ≤ k
          · have HOK := Lib.hid hok
            have d1 : decide (o ≤ k) = true := decide_eq_true hok
            have d2 : decide ((o : Int) ≤ (k : Int)) = true := decide_eq_true (by omega)
            refine wp_region_noPanic ?_
            refine wp_region_held_drew (S := fun W => Below wr.heap.size wr W) (by kernel_rfl) (by exact (Below.refl _ _).drew) (fun hS => ?_)
            refine' take_at 0 rfl (by kernel_rfl) (by kernel_rfl) (by kernel_rfl) (fun _ _ _ h => h) (by rfl) hS ?_ ?_ ?_
            rotate_left 2
            · intro W hSW; exact run_loadR rfl rfl (HR6.out.below hSW).head Try.underlying28 rfl (D.base.info RA.out)
            · simp only [List.set_cons_succ, List.set_cons_zero]; rfl
            refine' take_at 3 rfl (by kernel_rfl) (by kernel_rfl) (by kernel_rfl) (fun _ _ _ h => h) (by rfl) hS ?_ ?_ ?_
            rotate_left 2
            · intro W hSW; go_simp; try with_reducible rfl
            · simp only [List.set_cons_succ, List.set_cons_zero]; rfl
            refine' take_at 4 rfl (by kernel_rfl) (by kernel_rfl) (by kernel_rfl) (fun _ _ _ h => h) (by rfl) hS ?_ ?_ ?_
            rotate_left 2
            · intro W hSW; go_simp; try with_reducible rfl
            · simp only [List.set_cons_succ, List.set_cons_zero]; rfl
            refine' take_at 5 rfl (by kernel_rfl) (by kernel_rfl) (by kernel_rfl) (fun _ _ _ h => h) (by rfl) hS ?_ ?_ ?_
            rotate_left 2
            · intro W hSW; go_simp; try with_reducible rfl
            · simp only [List.set_cons_succ, List.set_cons_zero]; rfl
            refine call_at 1 rfl (by kernel_rfl) (by rfl) (fun K hK => ?_)
            go_simp
            with_reducible refine ((fun W => D.zero W) _).mono ?_
            rintro e vq5 ⟨cq5, rfl, rq5, hbq5⟩
            have Rq5 := Lib.hid rq5
            clear rq5
            have kbq5 := below_next hS hbq5
            clear hS hbq5
            refine hK.out _ _ (by exact kbq5) (fun hS => ?_)
            clear hK K
            refine call_at 2 rfl (by kernel_rfl) (by rfl) (fun K hK => ?_)
            go_simp
            have kq6 := fun W : World => (D.equal RA.out Rq5.out) W
            rw [show ptEq (dblP k (smallP i)) pzero = true from (by rw [HO.out k HK3.out]; exact d1)] at kq6
            have Kq6 := Lib.hid kq6
            clear kq6
            with_reducible refine (Kq6.out _).mono ?_
            rintro e vq6 ⟨rfl, hbq6⟩
            have kbq6 := below_next kbq5 hbq6
            clear hS hbq6
            refine hK.out _ _ (by exact kbq6) (fun hS => ?_)
            clear hK K
            refine' take_at 6 rfl (by kernel_rfl) (by kernel_rfl) (by kernel_rfl) (fun _ _ _ h => h) (by rfl) hS ?_ ?_ ?_
            rotate_left 2
            · intro W hSW; go_simp; try with_reducible rfl
            · simp only [List.set_cons_succ, List.set_cons_zero]; rfl
            refine wpAnyH_done (by kernel_rfl) ?_ _
            refine NoPanic.normal ?_
            clear hS
            (try simp only [Act.put])
            have HRq7 := Lib.hid (HR6.out.below kbq6)
            have HBq7 := Lib.hid (below_next HB6.out kbq6)
            go_upto_region 21 with fail
            have l8 := HRq7.out.head
            go_wp2_with (refine wpList_load_row rfl 28 (.tmp 9) rfl gq4 rfl 28 A (0, 0) _ l8 Try.underlying28 rfl (D.base.info RA.out) ?_)
            obtain ⟨p9, hp9⟩ : ∃ y_ : PtD, padd (dblP k (smallP i)) (dblP k (smallP i)) = y_ := ⟨_, rfl⟩
            have Hp9 := Lib.hid hp9
            clear hp9
            with_reducible refine ((D.double RA.out) _).mono ?_
            rintro e vq10 ⟨cq10, rfl, rq10, hbq10⟩
            rw [Hp9.out] at rq10
            have Rq10 := Lib.hid rq10
            clear rq10
            have HRq10 := Lib.hid (HRq7.out.below hbq10)
            have HBq10 := Lib.hid (below_next HBq7.out hbq10)
            clear hbq10
            have lsq11 := HRq10.out.head
            have HRq11 : Hid (RowsW (vq10.setRow gq4 cq10) [(gq4, cq10, 28), (gq2, cq1, 28), (g, (arrB fourE), 51)]) := Lib.hid ⟨setRow_heap _ _ _ _ _ _ lsq11, (by rw [setRow_other _ _ _ _ NEq4_1.out]; exact HRq10.out.tail.head), (by rw [setRow_other _ _ _ _ NEq4_0.out]; exact HRq10.out.tail.tail.head), trivial⟩
            have HBq11 := Lib.hid (below_row (g := gq4) (cs := cq10) HBq10.out HGq4.out)
            go_wp2_with (refine wpList_store_row rfl 28 (.tmp 9) (.tmp 66) rfl gq4 cq10 rfl rfl 28 A lsq11 (D.base.info Rq10.out) (by have a := (sZ RA.out); have b := (sZ Rq10.out); rw [← a, ← b]) (D.base.one Rq10.out) ?_)
            obtain ⟨Wq11, hWq11⟩ : ∃ W, vq10.setRow gq4 cq10 = W := ⟨_, rfl⟩
            rw [hWq11] at HRq11 HBq11
            (try rw [hWq11])
            clear hWq11 lsq11
            go_roundw
            case rel => exact ⟨k + 1, by omega, by go_num, _, by rw [show dblP (k + 1) (smallP i) = p9 from Hp9.out]; exact Rq10, HRq11, HBq11⟩
            case measure => simp [intOf] <;> omega
          · have HOK := Lib.hid hok
            have d1 : decide (o ≤ k) = false := decide_eq_false hok
            have d2 : decide ((o : Int) ≤ (k : Int)) = false := decide_eq_false (by omega)
            refine wp_region_noPanic ?_
            refine wp_region_held_drew (S := fun W => Below wr.heap.size wr W) (by kernel_rfl) (by exact (Below.refl _ _).drew) (fun hS => ?_)
            refine' take_at 0 rfl (by kernel_rfl) (by kernel_rfl) (by kernel_rfl) (fun _ _ _ h => h) (by rfl) hS ?_ ?_ ?_
            rotate_left 2
            · intro W hSW; exact run_loadR rfl rfl (HR6.out.below hSW).head Try.underlying28 rfl (D.base.info RA.out)
            · simp only [List.set_cons_succ, List.set_cons_zero]; rfl
            refine' take_at 3 rfl (by kernel_rfl) (by kernel_rfl) (by kernel_rfl) (fun _ _ _ h => h) (by rfl) hS ?_ ?_ ?_
            rotate_left 2
            · intro W hSW; go_simp; try with_reducible rfl
            · simp only [List.set_cons_succ, List.set_cons_zero]; rfl
            refine' take_at 4 rfl (by kernel_rfl) (by kernel_rfl) (by kernel_rfl) (fun _ _ _ h => h) (by rfl) hS ?_ ?_ ?_
            rotate_left 2
            · intro W hSW; go_simp; try with_reducible rfl
            · simp only [List.set_cons_succ, List.set_cons_zero]; rfl
            refine' take_at 5 rfl (by kernel_rfl) (by kernel_rfl) (by kernel_rfl) (fun _ _ _ h => h) (by rfl) hS ?_ ?_ ?_
            rotate_left 2
            · intro W hSW; go_simp; try with_reducible rfl
            · simp only [List.set_cons_succ, List.set_cons_zero]; rfl
            refine call_at 1 rfl (by kernel_rfl) (by rfl) (fun K hK => ?_)
            go_simp
            with_reducible refine ((fun W => D.zero W) _).mono ?_
            rintro e vq12 ⟨cq12, rfl, rq12, hbq12⟩
            have Rq12 := Lib.hid rq12
            clear rq12
            have kbq12 := below_next hS hbq12
            clear hS hbq12
            refine hK.out _ _ (by exact kbq12) (fun hS => ?_)
            clear hK K
            refine call_at 2 rfl (by kernel_rfl) (by rfl) (fun K hK => ?_)
            go_simp
            have kq13 := fun W : World => (D.equal RA.out Rq12.out) W
            rw [show ptEq (dblP k (smallP i)) pzero = false from (by rw [HO.out k HK3.out]; exact d1)] at kq13
            have Kq13 := Lib.hid kq13
            clear kq13
            with_reducible refine (Kq13.out _).mono ?_
            rintro e vq13 ⟨rfl, hbq13⟩
            have kbq13 := below_next kbq12 hbq13
            clear hS hbq13
            refine hK.out _ _ (by exact kbq13) (fun hS => ?_)
            clear hK K
            refine' take_at 6 rfl (by kernel_rfl) (by kernel_rfl) (by kernel_rfl) (fun _ _ _ h => h) (by rfl) hS ?_ ?_ ?_
            rotate_left 2
            · intro W hSW; go_simp; try with_reducible rfl
            · simp only [List.set_cons_succ, List.set_cons_zero]; rfl
            refine wpAnyH_done (by kernel_rfl) ?_ _
            refine NoPanic.normal ?_
            clear hS
            (try simp only [Act.put])
            have HRq14 := Lib.hid (HR6.out.below kbq13)
            have HBq14 := Lib.hid (below_next HB6.out kbq13)
            go_upto_region 21 with fail
            have l15 := HRq14.out.head
            go_wp2_with (refine wpList_load_row rfl 28 (.tmp 9) rfl gq4 rfl 28 A (0, 0) _ l15 Try.underlying28 rfl (D.base.info RA.out) ?_)
            obtain ⟨p16, hp16⟩ : ∃ y_ : PtD, padd (dblP k (smallP i)) (dblP k (smallP i)) = y_ := ⟨_, rfl⟩
            have Hp16 := Lib.hid hp16
            clear hp16
            with_reducible refine ((D.double RA.out) _).mono ?_
            rintro e vq17 ⟨cq17, rfl, rq17, hbq17⟩
            rw [Hp16.out] at rq17
            have Rq17 := Lib.hid rq17
            clear rq17
            have HRq17 := Lib.hid (HRq14.out.below hbq17)
            have HBq17 := Lib.hid (below_next HBq14.out hbq17)
            clear hbq17
            have lsq18 := HRq17.out.head
            have HRq18 : Hid (RowsW (vq17.setRow gq4 cq17) [(gq4, cq17, 28), (gq2, cq1, 28), (g, (arrB fourE), 51)]) := Lib.hid ⟨setRow_heap _ _ _ _ _ _ lsq18, (by rw [setRow_other _ _ _ _ NEq4_1.out]; exact HRq17.out.tail.head), (by rw [setRow_other _ _ _ _ NEq4_0.out]; exact HRq17.out.tail.tail.head), trivial⟩
            have HBq18 := Lib.hid (below_row (g := gq4) (cs := cq17) HBq17.out HGq4.out)
            go_wp2_with (refine wpList_store_row rfl 28 (.tmp 9) (.tmp 66) rfl gq4 cq17 rfl rfl 28 A lsq18 (D.base.info Rq17.out) (by have a := (sZ RA.out); have b := (sZ Rq17.out); rw [← a, ← b]) (D.base.one Rq17.out) ?_)
            obtain ⟨Wq18, hWq18⟩ : ∃ W, vq17.setRow gq4 cq17 = W := ⟨_, rfl⟩
            rw [hWq18] at HRq18 HBq18
            (try rw [hWq18])
            clear hWq18 lsq18
            go_roundw
            case rel => exact ⟨k + 1, by omega, by go_num, _, by rw [show dblP (k + 1) (smallP i) = p16 from Hp16.out]; exact Rq17, HRq18, HBq18⟩
            case measure => simp [intOf] <;> omega
        · obtain rfl : k = 3 := by omega
          clear hk3 hk
          go_upto_region 22 with fail
          have l2 := HR6.out.tail.tail.head
          have h0q19 : (wr.alloc (.cells zero32 22)).heap[wr.heap.size]? = some (.cells zero32 22 (0, 0)) := heap_alloc_new _ _
          have HRq19 := Lib.hid (HR6.out.new zero32 (bytT (F25519.encN (smallP i))) 22)
          have HBq19 := Lib.hid (below_new HB6.out zero32 (bytT (F25519.encN (smallP i))) 22)
          have HNq19 := Lib.hid HR6.out.ne
          have HGq19 := Lib.hid HB6.out.size
          go_upto_region 23 with (first
              | (refine wpList_runsV (o := ⟨some 69, _, _, _, _, _⟩) rfl (.agg (bytT (F25519.encN (smallP i)))) (run_loadP rfl rfl l2 Try.underlying22 rfl (bytT_info _) HP1.out) ?_)
              | (refine wpList_store_row rfl 22 (.tmp 11) (.tmp 69) rfl wr.heap.size (bytT (F25519.encN (smallP i))) rfl rfl 22 zero32 h0q19 (bytT_info _) (zero32_byt _) (bytT_one _) ?_))
          obtain ⟨Wq19, hWq19⟩ : ∃ W, (wr.alloc (.cells zero32 22)).setRow wr.heap.size (bytT (F25519.encN (smallP i))) = W := ⟨_, rfl⟩
          obtain ⟨gq19, hgq19⟩ : ∃ g, wr.heap.size = g := ⟨_, rfl⟩
          rw [hWq19, hgq19] at HRq19
          rw [hWq19] at HBq19
          rw [hgq19] at HNq19 HGq19
          rw [hWq19, hgq19]
          clear hWq19 hgq19 h0q19
          have NEq19_0 : Hid (g ≠ gq19) := Lib.hid (HNq19.out (g, (arrB fourE), 51) (by simp))
          have NEq19_1 : Hid (gq2 ≠ gq19) := Lib.hid (HNq19.out (gq2, cq1, 28) (by simp))
          have NEq19_2 : Hid (gq4 ≠ gq19) := Lib.hid (HNq19.out (gq4, A, 28) (by simp))
          obtain ⟨x, hx⟩ : ∃ x : UInt8, (rowE i).getD 31 0 = x := ⟨_, rfl⟩
          have cx : Wq19.cell? ⟨gq19, 31, none⟩ = some (.int .u8 (x.toNat : Int)) := by rw [cell_of_row _ _ _ _ _ _ HRq19.out.head, bytT_get _ _ (by omega), ← hrow, hx]
          have fx := frozen_row HRq19.out.head 31
          have hxor : bits .xor .u8 (x.toNat : Int) 128 = ((x ^^^ 128).toNat : Int) := u8_xorM x 128
          have hs := HRq19.out.set HNq19.out 31 (.int .u8 ((x ^^^ 128).toNat : Int))
          rw [show bytT (F25519.encN (smallP i)) = arrB (rowE i) by unfold bytT; rw [hrow], arrB_set, ← hx] at hs
          rw [show (rowE i).set 31 ((rowE i).getD 31 0 ^^^ 128) = turnE i from rfl, hx] at hs
          obtain ⟨t, ht⟩ : ∃ t : Int, ((x ^^^ 128).toNat : Int) = t := ⟨_, rfl⟩
          rw [ht] at hs hxor
          have hb9 := HBq19.out.setCell (p := ⟨gq19, 31, none⟩) (by show w.heap.size ≤ gq19; exact HGq19.out) (.int .u8 t)
          have HR9 := Lib.hid hs
          have HB9 := Lib.hid hb9
          clear hs hb9 hx ht
          go_upto_region 24 with fail
          obtain ⟨W9, hW9⟩ : ∃ W9, Wq19.setCell ⟨gq19, 31, none⟩ (.int .u8 t) = W9 := ⟨_, rfl⟩
          rw [hW9] at HR9 HB9
          rw [hW9]
          clear hW9 cx fx hxor
          by_cases h2 : i < 2
          · have HF := Lib.hid (small_turn_low i h2)
            have HN2 := Lib.hid (small_neg_low i h2)
            have d2 : decide (i < 2) = true := decide_eq_true h2
            have d3 : decide ((i : Int) < 2) = true := decide_eq_true (by omega)
            clear h2
            have l20 := HR9.out.head
            go_wp2_with (refine wpList_load_row rfl 22 (.tmp 11) rfl gq19 rfl 22 (arrB (turnE i)) (0, 0) _ l20 Try.underlying22 rfl (arr32_info (turn_len i Hi.out)) ?_)
            obtain ⟨p21, hp21⟩ : ∃ y_ : PtD, decP (turnE i) = y_ := ⟨_, rfl⟩
            have Hp21 := Lib.hid hp21
            clear hp21
            have Ht22 : Hid (decF (turnE i) = false) := Lib.hid HF.out
            have kq23 := fun W : World => (D.decode (turnE i) (turn_len i Hi.out)) W
            rw [Hp21.out, Ht22.out] at kq23
            have Kq23 := Lib.hid kq23
            clear kq23
            with_reducible refine (Kq23.out _).mono ?_
            rintro e vq23 ⟨cq23, rfl, rq23, hbq23⟩
            have Rq23 := Lib.hid rq23
            clear rq23
            have HRq23 := Lib.hid (HR9.out.below hbq23)
            have HBq23 := Lib.hid (below_next HB9.out hbq23)
            clear hbq23
            have h0q24 : (vq23.alloc (.cells Z 28)).heap[vq23.heap.size]? = some (.cells Z 28 (0, 0)) := heap_alloc_new _ _
            have HRq24 := Lib.hid (HRq23.out.new Z cq23 28)
            have HBq24 := Lib.hid (below_new HBq23.out Z cq23 28)
            have HNq24 := Lib.hid HRq23.out.ne
            have HGq24 := Lib.hid HBq23.out.size
            go_upto_region 25 with (refine wpList_store_row rfl 28 (.tmp 12) (.tmp 77) rfl vq23.heap.size cq23 rfl rfl 28 Z h0q24 (D.base.info Rq23.out) (sZ Rq23.out) (D.base.one Rq23.out) ?_)
            obtain ⟨Wq24, hWq24⟩ : ∃ W, (vq23.alloc (.cells Z 28)).setRow vq23.heap.size cq23 = W := ⟨_, rfl⟩
            obtain ⟨gq24, hgq24⟩ : ∃ g, vq23.heap.size = g := ⟨_, rfl⟩
            rw [hWq24, hgq24] at HRq24
            rw [hWq24] at HBq24
            rw [hgq24] at HNq24 HGq24
            rw [hWq24, hgq24]
            clear hWq24 hgq24 h0q24
            have NEq24_0 : Hid (g ≠ gq24) := Lib.hid (HNq24.out (g, (arrB fourE), 51) (by simp))
            have NEq24_1 : Hid (gq2 ≠ gq24) := Lib.hid (HNq24.out (gq2, cq1, 28) (by simp))
            have NEq24_2 : Hid (gq4 ≠ gq24) := Lib.hid (HNq24.out (gq4, A, 28) (by simp))
            have NEq24_3 : Hid (gq19 ≠ gq24) := Lib.hid (HNq24.out (gq19, (arrB (turnE i)), 22) (by simp))
            go_upto_region 26 with fail
            refine wp_region_noPanic ?_
            refine wp_region_held_drew (S := fun W => Below Wq24.heap.size Wq24 W) (by kernel_rfl) (by exact (Below.refl _ _).drew) (fun hS => ?_)
            refine' take_at 0 rfl (by kernel_rfl) (by kernel_rfl) (by kernel_rfl) (fun _ _ _ h => h) (by rfl) hS ?_ ?_ ?_
            rotate_left 2
            · intro W hSW; go_simp; try with_reducible rfl
            · simp only [List.set_cons_succ, List.set_cons_zero]; rfl
            refine' take_at 1 rfl (by kernel_rfl) (by kernel_rfl) (by kernel_rfl) (fun _ _ _ h => h) (by rfl) hS ?_ ?_ ?_
            rotate_left 2
            · intro W hSW; go_simp; try with_reducible rfl
            · simp only [List.set_cons_succ, List.set_cons_zero]; rfl
            refine' take_at 2 rfl (by kernel_rfl) (by kernel_rfl) (by kernel_rfl) (fun _ _ _ h => h) (by rfl) hS ?_ ?_ ?_
            rotate_left 2
            · intro W hSW; go_simp; try with_reducible rfl
            · simp only [List.set_cons_succ, List.set_cons_zero]; rfl
            refine' take_at 3 rfl (by kernel_rfl) (by kernel_rfl) (by kernel_rfl) (fun _ _ _ h => h) (by rfl) hS ?_ ?_ ?_
            rotate_left 2
            · intro W hSW; go_simp; try with_reducible rfl
            · simp only [List.set_cons_succ, List.set_cons_zero]; rfl
            refine' take_at 4 rfl (by kernel_rfl) (by kernel_rfl) (by kernel_rfl) (fun _ _ _ h => h) (by rfl) hS ?_ ?_ ?_
            rotate_left 2
            · intro W hSW; go_simp; try with_reducible rfl
            · simp only [List.set_cons_succ, List.set_cons_zero]; rfl
            refine' take_at 5 rfl (by kernel_rfl) (by kernel_rfl) (by kernel_rfl) (fun _ _ _ h => h) (by rfl) hS ?_ ?_ ?_
            rotate_left 2
            · intro W hSW; go_simp; try with_reducible rfl
            · simp only [List.set_cons_succ, List.set_cons_zero]; rfl
            refine' take_at 6 rfl (by kernel_rfl) (by kernel_rfl) (by kernel_rfl) (fun _ _ _ h => h) (by rfl) hS ?_ ?_ ?_
            rotate_left 2
            · intro W hSW; exact run_loadR rfl rfl (HRq24.out.below hSW).tail.tail.tail.head Try.underlying28 rfl (D.base.info Rq1.out)
            · simp only [List.set_cons_succ, List.set_cons_zero]; rfl
            refine' take_at 7 rfl (by kernel_rfl) (by kernel_rfl) (by kernel_rfl) (fun _ _ _ h => h) (by rfl) hS ?_ ?_ ?_
            rotate_left 2
            · intro W hSW; exact run_loadR rfl rfl (HRq24.out.below hSW).tail.tail.tail.head Try.underlying28 rfl (D.base.info Rq1.out)
            · simp only [List.set_cons_succ, List.set_cons_zero]; rfl
            refine call_at 8 rfl (by kernel_rfl) (by rfl) (fun K hK => ?_)
            go_simp
            obtain ⟨p25, hp25⟩ : ∃ y_ : PtD, Ed.Pt.neg (smallP i) = y_ := ⟨_, rfl⟩
            have Hp25 := Lib.hid hp25
            clear hp25
            with_reducible refine ((D.neg Rq1.out) _).mono ?_
            rintro e vq26 ⟨cq26, rfl, rq26, hbq26⟩
            rw [Hp25.out] at rq26
            have Rq26 := Lib.hid rq26
            clear rq26
            have kbq26 := below_next hS hbq26
            clear hS hbq26
            refine hK.out _ _ (by exact kbq26) (fun hS => ?_)
            clear hK K
            refine call_at 9 rfl (by kernel_rfl) (by rfl) (fun K hK => ?_)
            go_simp
            have kq27 := fun W : World => (D.equal Rq1.out Rq26.out) W
            rw [show ptEq (smallP i) p25 = true from (ptEq_iff.2 (by rw [← Hp25.out]; exact HN2.out.symm))] at kq27
            have Kq27 := Lib.hid kq27
            clear kq27
            with_reducible refine (Kq27.out _).mono ?_
            rintro e vq27 ⟨rfl, hbq27⟩
            have kbq27 := below_next kbq26 hbq27
            clear hS hbq27
            refine hK.out _ _ (by exact kbq27) (fun hS => ?_)
            clear hK K
            refine' take_at 10 rfl (by kernel_rfl) (by kernel_rfl) (by kernel_rfl) (fun _ _ _ h => h) (by rfl) hS ?_ ?_ ?_
            rotate_left 2
            · intro W hSW; go_simp; try with_reducible rfl
            · simp only [List.set_cons_succ, List.set_cons_zero]; rfl
            refine' take_at 11 rfl (by kernel_rfl) (by kernel_rfl) (by kernel_rfl) (fun _ _ _ h => h) (by rfl) hS ?_ ?_ ?_
            rotate_left 2
            · intro W hSW; go_simp; try with_reducible rfl
            · simp only [List.set_cons_succ, List.set_cons_zero]; rfl
            refine wpAnyH_done (by kernel_rfl) ?_ _
            refine NoPanic.normal ?_
            clear hS
            (try simp only [Act.put])
            have HRq28 := Lib.hid (HRq24.out.below kbq27)
            have HBq28 := Lib.hid (below_next HBq24.out kbq27)
            go_wp2_with fail
            go_ret
            exact ⟨rfl, HBq28.out⟩
          · have h3 : 2 ≤ i := by omega
            have HN3 := Lib.hid (small_neg_high i h3 Hi.out)
            have d2 : decide (i < 2) = false := decide_eq_false h2
            have d3 : decide ((i : Int) < 2) = false := decide_eq_false (by omega)
            have ht := small_turn_high i h3 Hi.out
            rw [ht] at HR9
            have HR10 : Hid (RowsW W9 [(gq19, bytT (F25519.encN (Ed.Pt.neg (smallP i))), 22), (gq4, A, 28), (gq2, cq1, 28), (g, arrB fourE, 51)]) := HR9
            clear HR9 ht h3
            have l29 := HR10.out.head
            go_wp2_with (refine wpList_load_row rfl 22 (.tmp 11) rfl gq19 rfl 22 (bytT (F25519.encN (Ed.Pt.neg (smallP i)))) (0, 0) _ l29 Try.underlying22 rfl (bytT_info _) ?_)
            have z76 : ∀ W : World, Calls Try.prog 10 #[.agg (bytT (F25519.encN (Ed.Pt.neg (smallP i))))] W (RetPtB R W (Ed.Pt.neg (smallP i)) true) := fun W => by have h := D.decode _ (leB_len 32 (F25519.encN (Ed.Pt.neg (smallP i)))) W; rw [(dec_enc (Ed.Pt.neg (smallP i))).1, (dec_enc (Ed.Pt.neg (smallP i))).2] at h; exact h
            with_reducible refine ((fun W => z76 W) _).mono ?_
            rintro e vq30 ⟨cq30, rfl, rq30, hbq30⟩
            have Rq30 := Lib.hid rq30
            clear rq30
            have HRq30 := Lib.hid (HR10.out.below hbq30)
            have HBq30 := Lib.hid (below_next HB9.out hbq30)
            clear hbq30
            have h0q31 : (vq30.alloc (.cells Z 28)).heap[vq30.heap.size]? = some (.cells Z 28 (0, 0)) := heap_alloc_new _ _
            have HRq31 := Lib.hid (HRq30.out.new Z cq30 28)
            have HBq31 := Lib.hid (below_new HBq30.out Z cq30 28)
            have HNq31 := Lib.hid HRq30.out.ne
            have HGq31 := Lib.hid HBq30.out.size
            go_upto_region 25 with (refine wpList_store_row rfl 28 (.tmp 12) (.tmp 77) rfl vq30.heap.size cq30 rfl rfl 28 Z h0q31 (D.base.info Rq30.out) (sZ Rq30.out) (D.base.one Rq30.out) ?_)
            obtain ⟨Wq31, hWq31⟩ : ∃ W, (vq30.alloc (.cells Z 28)).setRow vq30.heap.size cq30 = W := ⟨_, rfl⟩
            obtain ⟨gq31, hgq31⟩ : ∃ g, vq30.heap.size = g := ⟨_, rfl⟩
            rw [hWq31, hgq31] at HRq31
            rw [hWq31] at HBq31
            rw [hgq31] at HNq31 HGq31
            rw [hWq31, hgq31]
            clear hWq31 hgq31 h0q31
            have NEq31_0 : Hid (g ≠ gq31) := Lib.hid (HNq31.out (g, (arrB fourE), 51) (by simp))
            have NEq31_1 : Hid (gq2 ≠ gq31) := Lib.hid (HNq31.out (gq2, cq1, 28) (by simp))
            have NEq31_2 : Hid (gq4 ≠ gq31) := Lib.hid (HNq31.out (gq4, A, 28) (by simp))
            have NEq31_3 : Hid (gq19 ≠ gq31) := Lib.hid (HNq31.out (gq19, (bytT (F25519.encN (Ed.Pt.neg (smallP i)))), 22) (by simp))
            go_upto_region 27 with fail
            refine wp_region_noPanic ?_
            refine wp_region_held_drew (S := fun W => Below Wq31.heap.size Wq31 W) (by kernel_rfl) (by exact (Below.refl _ _).drew) (fun hS => ?_)
            refine' take_at 0 rfl (by kernel_rfl) (by kernel_rfl) (by kernel_rfl) (fun _ _ _ h => h) (by rfl) hS ?_ ?_ ?_
            rotate_left 2
            · intro W hSW; go_simp; try with_reducible rfl
            · simp only [List.set_cons_succ, List.set_cons_zero]; rfl
            refine' take_at 1 rfl (by kernel_rfl) (by kernel_rfl) (by kernel_rfl) (fun _ _ _ h => h) (by rfl) hS ?_ ?_ ?_
            rotate_left 2
            · intro W hSW; go_simp; try with_reducible rfl
            · simp only [List.set_cons_succ, List.set_cons_zero]; rfl
            refine' take_at 2 rfl (by kernel_rfl) (by kernel_rfl) (by kernel_rfl) (fun _ _ _ h => h) (by rfl) hS ?_ ?_ ?_
            rotate_left 2
            · intro W hSW; go_simp; try with_reducible rfl
            · simp only [List.set_cons_succ, List.set_cons_zero]; rfl
            refine' take_at 3 rfl (by kernel_rfl) (by kernel_rfl) (by kernel_rfl) (fun _ _ _ h => h) (by rfl) hS ?_ ?_ ?_
            rotate_left 2
            · intro W hSW; go_simp; try with_reducible rfl
            · simp only [List.set_cons_succ, List.set_cons_zero]; rfl
            refine' take_at 4 rfl (by kernel_rfl) (by kernel_rfl) (by kernel_rfl) (fun _ _ _ h => h) (by rfl) hS ?_ ?_ ?_
            rotate_left 2
            · intro W hSW; go_simp; try with_reducible rfl
            · simp only [List.set_cons_succ, List.set_cons_zero]; rfl
            refine' take_at 5 rfl (by kernel_rfl) (by kernel_rfl) (by kernel_rfl) (fun _ _ _ h => h) (by rfl) hS ?_ ?_ ?_
            rotate_left 2
            · intro W hSW; exact run_loadR rfl rfl (HRq31.out.below hSW).head Try.underlying28 rfl (D.base.info Rq30.out)
            · simp only [List.set_cons_succ, List.set_cons_zero]; rfl
            refine' take_at 6 rfl (by kernel_rfl) (by kernel_rfl) (by kernel_rfl) (fun _ _ _ h => h) (by rfl) hS ?_ ?_ ?_
            rotate_left 2
            · intro W hSW; exact run_loadR rfl rfl (HRq31.out.below hSW).tail.tail.tail.head Try.underlying28 rfl (D.base.info Rq1.out)
            · simp only [List.set_cons_succ, List.set_cons_zero]; rfl
            refine call_at 7 rfl (by kernel_rfl) (by rfl) (fun K hK => ?_)
            go_simp
            obtain ⟨p32, hp32⟩ : ∃ y_ : PtD, Ed.Pt.neg (smallP i) = y_ := ⟨_, rfl⟩
            have Hp32 := Lib.hid hp32
            clear hp32
            with_reducible refine ((D.neg Rq1.out) _).mono ?_
            rintro e vq33 ⟨cq33, rfl, rq33, hbq33⟩
            rw [Hp32.out] at rq33
            have Rq33 := Lib.hid rq33
            clear rq33
            have kbq33 := below_next hS hbq33
            clear hS hbq33
            refine hK.out _ _ (by exact kbq33) (fun hS => ?_)
            clear hK K
            refine call_at 8 rfl (by kernel_rfl) (by rfl) (fun K hK => ?_)
            go_simp
            have kq34 := fun W : World => (D.equal Rq30.out Rq33.out) W
            rw [show ptEq (Ed.Pt.neg (smallP i)) p32 = true from (ptEq_iff.2 Hp32.out)] at kq34
            have Kq34 := Lib.hid kq34
            clear kq34
            with_reducible refine (Kq34.out _).mono ?_
            rintro e vq34 ⟨rfl, hbq34⟩
            have kbq34 := below_next kbq33 hbq34
            clear hS hbq34
            refine hK.out _ _ (by exact kbq34) (fun hS => ?_)
            clear hK K
            refine' take_at 9 rfl (by kernel_rfl) (by kernel_rfl) (by kernel_rfl) (fun _ _ _ h => h) (by rfl) hS ?_ ?_ ?_
            rotate_left 2
            · intro W hSW; go_simp; try with_reducible rfl
            · simp only [List.set_cons_succ, List.set_cons_zero]; rfl
            refine' take_at 10 rfl (by kernel_rfl) (by kernel_rfl) (by kernel_rfl) (fun _ _ _ h => h) (by rfl) hS ?_ ?_ ?_
            rotate_left 2
            · intro W hSW; go_simp; try with_reducible rfl
            · simp only [List.set_cons_succ, List.set_cons_zero]; rfl
            refine' take_at 11 rfl (by kernel_rfl) (by kernel_rfl) (by kernel_rfl) (fun _ _ _ h => h) (by rfl) hS ?_ ?_ ?_
            rotate_left 2
            · intro W hSW; exact run_loadR rfl rfl (HRq31.out.below hSW).head Try.underlying28 rfl (D.base.info Rq30.out)
            · simp only [List.set_cons_succ, List.set_cons_zero]; rfl
            refine' take_at 12 rfl (by kernel_rfl) (by kernel_rfl) (by kernel_rfl) (fun _ _ _ h => h) (by rfl) hS ?_ ?_ ?_
            rotate_left 2
            · intro W hSW; exact run_loadR rfl rfl (HRq31.out.below hSW).tail.tail.tail.head Try.underlying28 rfl (D.base.info Rq1.out)
            · simp only [List.set_cons_succ, List.set_cons_zero]; rfl
            refine call_at 13 rfl (by kernel_rfl) (by rfl) (fun K hK => ?_)
            go_simp
            have kq35 := fun W : World => (D.equal Rq30.out Rq1.out) W
            rw [show ptEq (Ed.Pt.neg (smallP i)) (smallP i) = false from (ptEq_ne HN3.out)] at kq35
            have Kq35 := Lib.hid kq35
            clear kq35
            with_reducible refine (Kq35.out _).mono ?_
            rintro e vq35 ⟨rfl, hbq35⟩
            have kbq35 := below_next kbq34 hbq35
            clear hS hbq35
            refine hK.out _ _ (by exact kbq35) (fun hS => ?_)
            clear hK K
            refine' take_at 14 rfl (by kernel_rfl) (by kernel_rfl) (by kernel_rfl) (fun _ _ _ h => h) (by rfl) hS ?_ ?_ ?_
            rotate_left 2
            · intro W hSW; go_simp; try with_reducible rfl
            · simp only [List.set_cons_succ, List.set_cons_zero]; rfl
            refine' take_at 15 rfl (by kernel_rfl) (by kernel_rfl) (by kernel_rfl) (fun _ _ _ h => h) (by rfl) hS ?_ ?_ ?_
            rotate_left 2
            · intro W hSW; go_simp; try with_reducible rfl
            · simp only [List.set_cons_succ, List.set_cons_zero]; rfl
            refine' take_at 16 rfl (by kernel_rfl) (by kernel_rfl) (by kernel_rfl) (fun _ _ _ h => h) (by rfl) hS ?_ ?_ ?_
            rotate_left 2
            · intro W hSW; go_simp; try with_reducible rfl
            · simp only [List.set_cons_succ, List.set_cons_zero]; rfl
            refine wpAnyH_done (by kernel_rfl) ?_ _
            refine NoPanic.normal ?_
            clear hS
            (try simp only [Act.put])
            have HRq36 := Lib.hid (HRq31.out.below kbq35)
            have HBq36 := Lib.hid (below_next HBq31.out kbq35)
            go_wp2_with fail
            go_ret
            exact ⟨rfl, HBq36.out⟩
end Go.Proofs.Ytddijcopoaeejaa

