/- The walk of PowersSums. Written by wip/tools. -/
import Derived.Test.YtjekeblcppkghaaLaw10Alive
import Derived.Test.YtjekeblcppkghaaGbyt
namespace Go.Proofs.Ytjekeblcppkghaa
open Go.RowKit
set_option linter.unusedVariables false
set_option maxRecDepth 100000

theorem le32 {m : Nat} (h : m < 4294967296) : leN (leB 32 m) = m := leN_leB 32 m (Nat.lt_trans h (by decide))
theorem le64 {m : Nat} (h : m < 18446744073709551616) : leN (leB 32 m) = m := leN_leB 32 m (Nat.lt_trans h (by decide))
theorem sums_add {x m n s : Nat} (hm : m < 4294967296) (hn : n < 4294967296) (hs : s = m + n) : (pwN x (leN (leB 32 m)) * pwN x (leN (leB 32 n))) % PP = pwN x (leN (leB 32 s)) := by
  rw [le32 hm, le32 hn, le64 (by omega), pwN_add, hs]
theorem sums_mul {x m n t : Nat} (hm : m < 4294967296) (hn : n < 4294967296) (ht : t = m * n) : pwN (pwN x (leN (leB 32 m))) (leN (leB 32 n)) = pwN x (leN (leB 32 t)) := by
  have hmn : m * n ≤ 4294967295 * 4294967295 := Nat.mul_le_mul (by omega) (by omega)
  rw [le32 hm, le32 hn, le64 (by omega), pwN_pw, ht]

set_option maxHeartbeats 6400000 in
theorem law10Sums {R : Array Value → Nat → Prop} (C : Fe10C R) (D : PowC R) (a : List UInt8) (ha : a.length = 32) (m n : Nat) (hm : m < 4294967296) (hn : n < 4294967296) (w : World) : Calls Try.prog 6 #[.agg (arrB a), .int .u32 (m : Int), .int .u32 (n : Int)] w fun e w' => e = .returned (.bool true) ∧ Below w.heap.size w w' := by
  have HAL : Hid (∀ W : World, Calls Try.prog 8 #[] W fun e w' => e = .returned (.bool true) ∧ Below W.heap.size W w') := Lib.hid (fun W => alive10_any C D W)
  obtain ⟨Z, hZ, RZ⟩ := C.base.zero
  have hzR := refT_zero
  have hz32 := zero32_zero
  have Ha := Lib.hid ha
  clear ha
  have Hm := Lib.hid hm
  have Hn := Lib.hid hn
  clear hm hn
  go_enter Try.func6, Try.ntmps6
  go_wp2_with fail
  have HR0 := Lib.hid ((RowsW.nil w).box (arrB a) 22)
  have HB0 := Lib.hid (below_box (Below.refl w.heap.size w) (arrB a) 22)
  obtain ⟨W0, hW0⟩ : ∃ W, (w.alloc (.cells (arrB a) 22)) = W := ⟨_, rfl⟩
  obtain ⟨g0, hg0⟩ : ∃ g, w.heap.size = g := ⟨_, rfl⟩
  rw [hW0] at HR0 HB0
  rw [hg0] at HR0
  rw [hW0, hg0]
  have HG0 := Lib.hid hg0
  clear hW0 hg0
  with_reducible refine (HAL.out _).mono ?_
  rintro e v1 ⟨rfl, hb1⟩
  have HR1 := Lib.hid (HR0.out.below hb1)
  have HB1 := Lib.hid (below_next HB0.out hb1)
  clear hb1
  go_upto_region 2 with fail
  have l1 := HR1.out.head
  go_wp2_with (refine wpList_load_row rfl 22 (.tmp 3) rfl g0 rfl 22 (arrB a) (0, 0) _ l1 Try.underlying22 rfl (arr32_info Ha.out) ?_)
  obtain ⟨n2, hn2⟩ : ∃ x : Nat, feN a = x := ⟨_, rfl⟩
  have Hn2 := Lib.hid hn2
  have HLn2 : Hid (n2 < PP) := Lib.hid (by rw [← hn2]; exact Nat.mod_lt _ (by decide))
  clear hn2
  with_reducible refine ((C.from_ a Ha.out) _).mono ?_
  rintro e vq3 ⟨cq3, rfl, rq3, hbq3⟩
  rw [Hn2.out] at rq3
  have Rq3 := Lib.hid rq3
  clear rq3
  have HRq3 := Lib.hid (HR1.out.below hbq3)
  have HBq3 := Lib.hid (below_next HB1.out hbq3)
  clear hbq3
  have h0q4 : (vq3.alloc (.cells Z 26)).heap[vq3.heap.size]? = some (.cells Z 26 (0, 0)) := heap_alloc_new _ _
  have HRq4 := Lib.hid (HRq3.out.new Z cq3 26)
  have HBq4 := Lib.hid (below_new HBq3.out Z cq3 26)
  have HNq4 := Lib.hid HRq3.out.ne
  have HGq4 := Lib.hid HBq3.out.size
  go_upto_region 3 with (refine wpList_store_row rfl 26 (.tmp 8) (.tmp 18) rfl vq3.heap.size cq3 rfl rfl 26 Z h0q4 (C.base.info Rq3.out) (C.base.size RZ Rq3.out) (C.base.one Rq3.out) ?_)
  obtain ⟨Wq4, hWq4⟩ : ∃ W, (vq3.alloc (.cells Z 26)).setRow vq3.heap.size cq3 = W := ⟨_, rfl⟩
  obtain ⟨gq4, hgq4⟩ : ∃ g, vq3.heap.size = g := ⟨_, rfl⟩
  rw [hWq4, hgq4] at HRq4
  rw [hWq4] at HBq4
  rw [hgq4] at HNq4 HGq4
  rw [hWq4, hgq4]
  clear hWq4 hgq4 h0q4
  have NEq4_0 : Hid (g0 ≠ gq4) := Lib.hid (HNq4.out (g0, (arrB a), 22) (by simp))
  have h0q5 : (Wq4.alloc (.cells zero32 22)).heap[Wq4.heap.size]? = some (.cells zero32 22 (0, 0)) := heap_alloc_new _ _
  have HRq5 := Lib.hid (HRq4.out.new zero32 zero32 22)
  have HBq5 := Lib.hid (below_new HBq4.out zero32 zero32 22)
  have HNq5 := Lib.hid HRq4.out.ne
  have HGq5 := Lib.hid HBq4.out.size
  go_upto_region 4 with (refine wpList_store_row rfl 22 (.tmp 9) (.tmp 19) rfl Wq4.heap.size zero32 rfl rfl 22 zero32 h0q5 zero32_info (Eq.refl zero32.size) zero32_one ?_)
  obtain ⟨Wq5, hWq5⟩ : ∃ W, (Wq4.alloc (.cells zero32 22)).setRow Wq4.heap.size zero32 = W := ⟨_, rfl⟩
  obtain ⟨gq5, hgq5⟩ : ∃ g, Wq4.heap.size = g := ⟨_, rfl⟩
  rw [hWq5, hgq5] at HRq5
  rw [hWq5] at HBq5
  rw [hgq5] at HNq5 HGq5
  rw [hWq5, hgq5]
  clear hWq5 hgq5 h0q5
  have NEq5_0 : Hid (g0 ≠ gq5) := Lib.hid (HNq5.out (g0, (arrB a), 22) (by simp))
  have NEq5_1 : Hid (gq4 ≠ gq5) := Lib.hid (HNq5.out (gq4, cq3, 26) (by simp))
  have h0q6 : (Wq5.alloc (.cells zero32 22)).heap[Wq5.heap.size]? = some (.cells zero32 22 (0, 0)) := heap_alloc_new _ _
  have HRq6 := Lib.hid (HRq5.out.new zero32 zero32 22)
  have HBq6 := Lib.hid (below_new HBq5.out zero32 zero32 22)
  have HNq6 := Lib.hid HRq5.out.ne
  have HGq6 := Lib.hid HBq5.out.size
  go_upto_region 5 with (refine wpList_store_row rfl 22 (.tmp 10) (.tmp 20) rfl Wq5.heap.size zero32 rfl rfl 22 zero32 h0q6 zero32_info (Eq.refl zero32.size) zero32_one ?_)
  obtain ⟨Wq6, hWq6⟩ : ∃ W, (Wq5.alloc (.cells zero32 22)).setRow Wq5.heap.size zero32 = W := ⟨_, rfl⟩
  obtain ⟨gq6, hgq6⟩ : ∃ g, Wq5.heap.size = g := ⟨_, rfl⟩
  rw [hWq6, hgq6] at HRq6
  rw [hWq6] at HBq6
  rw [hgq6] at HNq6 HGq6
  rw [hWq6, hgq6]
  clear hWq6 hgq6 h0q6
  have NEq6_0 : Hid (g0 ≠ gq6) := Lib.hid (HNq6.out (g0, (arrB a), 22) (by simp))
  have NEq6_1 : Hid (gq4 ≠ gq6) := Lib.hid (HNq6.out (gq4, cq3, 26) (by simp))
  have NEq6_2 : Hid (gq5 ≠ gq6) := Lib.hid (HNq6.out (gq5, zero32, 22) (by simp))
  have h0q7 : (Wq6.alloc (.cells zero32 22)).heap[Wq6.heap.size]? = some (.cells zero32 22 (0, 0)) := heap_alloc_new _ _
  have HRq7 := Lib.hid (HRq6.out.new zero32 zero32 22)
  have HBq7 := Lib.hid (below_new HBq6.out zero32 zero32 22)
  have HNq7 := Lib.hid HRq6.out.ne
  have HGq7 := Lib.hid HBq6.out.size
  go_upto_region 6 with (refine wpList_store_row rfl 22 (.tmp 11) (.tmp 21) rfl Wq6.heap.size zero32 rfl rfl 22 zero32 h0q7 zero32_info (Eq.refl zero32.size) zero32_one ?_)
  obtain ⟨Wq7, hWq7⟩ : ∃ W, (Wq6.alloc (.cells zero32 22)).setRow Wq6.heap.size zero32 = W := ⟨_, rfl⟩
  obtain ⟨gq7, hgq7⟩ : ∃ g, Wq6.heap.size = g := ⟨_, rfl⟩
  rw [hWq7, hgq7] at HRq7
  rw [hWq7] at HBq7
  rw [hgq7] at HNq7 HGq7
  rw [hWq7, hgq7]
  clear hWq7 hgq7 h0q7
  have NEq7_0 : Hid (g0 ≠ gq7) := Lib.hid (HNq7.out (g0, (arrB a), 22) (by simp))
  have NEq7_1 : Hid (gq4 ≠ gq7) := Lib.hid (HNq7.out (gq4, cq3, 26) (by simp))
  have NEq7_2 : Hid (gq5 ≠ gq7) := Lib.hid (HNq7.out (gq5, zero32, 22) (by simp))
  have NEq7_3 : Hid (gq6 ≠ gq7) := Lib.hid (HNq7.out (gq6, zero32, 22) (by simp))
  have h0q8 : (Wq7.alloc (.cells zero32 22)).heap[Wq7.heap.size]? = some (.cells zero32 22 (0, 0)) := heap_alloc_new _ _
  have HRq8 := Lib.hid (HRq7.out.new zero32 zero32 22)
  have HBq8 := Lib.hid (below_new HBq7.out zero32 zero32 22)
  have HNq8 := Lib.hid HRq7.out.ne
  have HGq8 := Lib.hid HBq7.out.size
  go_upto_region 7 with (refine wpList_store_row rfl 22 (.tmp 12) (.tmp 22) rfl Wq7.heap.size zero32 rfl rfl 22 zero32 h0q8 zero32_info (Eq.refl zero32.size) zero32_one ?_)
  obtain ⟨Wq8, hWq8⟩ : ∃ W, (Wq7.alloc (.cells zero32 22)).setRow Wq7.heap.size zero32 = W := ⟨_, rfl⟩
  obtain ⟨gq8, hgq8⟩ : ∃ g, Wq7.heap.size = g := ⟨_, rfl⟩
  rw [hWq8, hgq8] at HRq8
  rw [hWq8] at HBq8
  rw [hgq8] at HNq8 HGq8
  rw [hWq8, hgq8]
  clear hWq8 hgq8 h0q8
  have NEq8_0 : Hid (g0 ≠ gq8) := Lib.hid (HNq8.out (g0, (arrB a), 22) (by simp))
  have NEq8_1 : Hid (gq4 ≠ gq8) := Lib.hid (HNq8.out (gq4, cq3, 26) (by simp))
  have NEq8_2 : Hid (gq5 ≠ gq8) := Lib.hid (HNq8.out (gq5, zero32, 22) (by simp))
  have NEq8_3 : Hid (gq6 ≠ gq8) := Lib.hid (HNq8.out (gq6, zero32, 22) (by simp))
  have NEq8_4 : Hid (gq7 ≠ gq8) := Lib.hid (HNq8.out (gq7, zero32, 22) (by simp))
  have HD : Hid ([gq8, gq7, gq6, gq5, gq4, g0].Nodup) := Lib.hid (by
    have e0 := NEq4_0.out
    have e1 := NEq5_0.out
    have e2 := NEq5_1.out
    have e3 := NEq6_0.out
    have e4 := NEq6_1.out
    have e5 := NEq6_2.out
    have e6 := NEq7_0.out
    have e7 := NEq7_1.out
    have e8 := NEq7_2.out
    have e9 := NEq7_3.out
    have e10 := NEq8_0.out
    have e11 := NEq8_1.out
    have e12 := NEq8_2.out
    have e13 := NEq8_3.out
    have e14 := NEq8_4.out
    simp only [List.nodup_cons, List.mem_cons, List.not_mem_nil, or_false, not_or, List.nodup_nil, not_false_eq_true, and_true]
    omega)
  have hm := Hm.out
  have hn := Hn.out
  obtain ⟨s, w1, b1, hs⟩ : ∃ s : Nat, (m : Int) + (n : Int) = (s : Int) ∧ s < 18446744073709551616 ∧ s = m + n := ⟨m + n, by omega, by omega, rfl⟩
  have hmn : m * n ≤ 4294967295 * 4294967295 := Nat.mul_le_mul (by omega) (by omega)
  obtain ⟨t, w2, b2, ht⟩ : ∃ t : Nat, (m : Int) * (n : Int) = (t : Int) ∧ t < 18446744073709551616 ∧ t = m * n := ⟨m * n, by rw [Int.natCast_mul], by omega, rfl⟩
  have Hs := Lib.hid hs
  have Ht := Lib.hid ht
  have Hsl : Hid (s < 256 ^ 8) := Lib.hid (by rw [show (256 : Nat) ^ 8 = 18446744073709551616 by decide]; exact b1)
  have Htl : Hid (t < 256 ^ 8) := Lib.hid (by rw [show (256 : Nat) ^ 8 = 18446744073709551616 by decide]; exact b2)
  have w3 : IntKind.u64.wrap (m : Int) = (m : Int) := by rw [IntKind.wrap_u64]; omega
  have w4 : IntKind.u64.wrap (n : Int) = (n : Int) := by rw [IntKind.wrap_u64]; omega
  clear hs ht hmn
  go_wp2_with fail
  clear w1 w2 w3 w4
  have HR9 : Hid (RowsW Wq8 [(gq8, (arrB (byK t 0)), 22), (gq7, (arrB (byK s 0)), 22), (gq6, (arrB (byK n 0)), 22), (gq5, (arrB (byK m 0)), 22), (gq4, cq3, 26), (g0, arrB a, 22)]) := Lib.hid (by rw [byK_zero, byK_zero, byK_zero, byK_zero]; exact HRq8.out)
  have HB9 := HBq8
  clear HRq8 HBq8
  go_loopw [15] (fun i wr => ∃ k : Nat, k ≤ 8 ∧ i = .int .i64 (k : Int) ∧ Hid (RowsW wr [(gq8, (arrB (byK t k)), 22), (gq7, (arrB (byK s k)), 22), (gq6, (arrB (byK n (min k 4))), 22), (gq5, (arrB (byK m (min k 4))), 22), (gq4, cq3, 26), (g0, arrB a, 22)]) ∧ Hid (Below w.heap.size w wr)) (fun i _ => 8 - (intOf i).toNat)
  case atStart => exact ⟨0, by omega, rfl, HR9, HB9⟩
  case round =>
    clear HR9 HB9
    obtain ⟨k, hk, rfl, HR0, HB0⟩ := hrel
    by_cases hlt : k < 8
    · have hm := Hm.out
      have hn := Hn.out
      obtain ⟨e, he⟩ : ∃ e, 8 * k = e := ⟨_, rfl⟩
      have he2 : (256 : Nat) ^ k = 2 ^ e := by rw [pow_shift, he]
      have f0 : (8 : Int) * (k : Int) = (e : Int) := by omega
      have f1 : IntKind.u64.wrap (e : Int) = (e : Int) := by rw [IntKind.wrap_u64]; omega
      have q5 : 0 ≤ (k : Int) := by omega
      have q6 : (k : Int) < 8 := by omega
      have q7 : 0 ≤ (e : Int) := by omega
      obtain ⟨mk, hmk⟩ : ∃ y, m / 2 ^ e = y := ⟨_, rfl⟩
      have gm : (m : Int) / 2 ^ e = (mk : Int) := by rw [← hmk, Int.natCast_ediv]; simp
      have km : IntKind.u8.wrap (mk : Int) = ((byF m k).toNat : Int) := by rw [byF_nat, he2, hmk, IntKind.wrap_u8]; omega
      clear hmk
      obtain ⟨nk, hnk⟩ : ∃ y, n / 2 ^ e = y := ⟨_, rfl⟩
      have gn : (n : Int) / 2 ^ e = (nk : Int) := by rw [← hnk, Int.natCast_ediv]; simp
      have kn : IntKind.u8.wrap (nk : Int) = ((byF n k).toNat : Int) := by rw [byF_nat, he2, hnk, IntKind.wrap_u8]; omega
      clear hnk
      obtain ⟨sk, hsk⟩ : ∃ y, s / 2 ^ e = y := ⟨_, rfl⟩
      have gs : (s : Int) / 2 ^ e = (sk : Int) := by rw [← hsk, Int.natCast_ediv]; simp
      have ks : IntKind.u8.wrap (sk : Int) = ((byF s k).toNat : Int) := by rw [byF_nat, he2, hsk, IntKind.wrap_u8]; omega
      clear hsk
      obtain ⟨tk, htk⟩ : ∃ y, t / 2 ^ e = y := ⟨_, rfl⟩
      have gt : (t : Int) / 2 ^ e = (tk : Int) := by rw [← htk, Int.natCast_ediv]; simp
      have kt : IntKind.u8.wrap (tk : Int) = ((byF t k).toNat : Int) := by rw [byF_nat, he2, htk, IntKind.wrap_u8]; omega
      clear htk
      clear he he2 hm hn
      by_cases h4 : k < 4
      · have h4d : decide ((k : Int) < 4) = true := by simp; omega
        rw [show min k 4 = k by omega] at HR0
        obtain ⟨o0, c0⟩ : ∃ o : Int, wr.cell? ⟨gq5, k, none⟩ = some (.int .u8 o) := ⟨_, by rw [cell_of_row _ _ _ _ _ _ HR0.out.tail.tail.tail.head, arrB_get _ _ (by rw [byK_len]; omega)]⟩
        have z0 := frozen_row HR0.out.tail.tail.tail.head k
        have HR1 : Hid (RowsW (wr.setCell ⟨gq5, k, none⟩ (.int .u8 ((byF m k).toNat : Int))) [(gq8, (arrB (byK t k)), 22), (gq7, (arrB (byK s k)), 22), (gq6, (arrB (byK n k)), 22), (gq5, (arrB (byK m (k + 1))), 22), (gq4, cq3, 26), (g0, arrB a, 22)]) := Lib.hid (by have h := RowsW.setN (k := k) (v := .int .u8 ((byF m k).toNat : Int)) 3 HR0.out rfl HD.out; rw [arrB_set, byK_set _ _ (by omega)] at h; exact h)
        have HB1 := Lib.hid (HB0.out.setCell (p := ⟨gq5, k, none⟩) (by show w.heap.size ≤ gq5; exact HGq5.out) (.int .u8 ((byF m k).toNat : Int)))
        clear HR0 HB0
        go_upto_region 14 with fail
        obtain ⟨U1, hU1⟩ : ∃ X, wr.setCell ⟨gq5, k, none⟩ (.int .u8 ((byF m k).toNat : Int)) = X := ⟨_, rfl⟩
        rw [hU1] at HR1 HB1
        rw [hU1]
        clear hU1 c0 z0
        obtain ⟨o1, c1⟩ : ∃ o : Int, U1.cell? ⟨gq6, k, none⟩ = some (.int .u8 o) := ⟨_, by rw [cell_of_row _ _ _ _ _ _ HR1.out.tail.tail.head, arrB_get _ _ (by rw [byK_len]; omega)]⟩
        have z1 := frozen_row HR1.out.tail.tail.head k
        have HR2 : Hid (RowsW (U1.setCell ⟨gq6, k, none⟩ (.int .u8 ((byF n k).toNat : Int))) [(gq8, (arrB (byK t k)), 22), (gq7, (arrB (byK s k)), 22), (gq6, (arrB (byK n (k + 1))), 22), (gq5, (arrB (byK m (k + 1))), 22), (gq4, cq3, 26), (g0, arrB a, 22)]) := Lib.hid (by have h := RowsW.setN (k := k) (v := .int .u8 ((byF n k).toNat : Int)) 2 HR1.out rfl HD.out; rw [arrB_set, byK_set _ _ (by omega)] at h; exact h)
        have HB2 := Lib.hid (HB1.out.setCell (p := ⟨gq6, k, none⟩) (by show w.heap.size ≤ gq6; exact HGq6.out) (.int .u8 ((byF n k).toNat : Int)))
        clear HR1 HB1
        go_upto_region 15 with fail
        obtain ⟨U2, hU2⟩ : ∃ X, U1.setCell ⟨gq6, k, none⟩ (.int .u8 ((byF n k).toNat : Int)) = X := ⟨_, rfl⟩
        rw [hU2] at HR2 HB2
        rw [hU2]
        clear hU2 c1 z1
        obtain ⟨o2, c2⟩ : ∃ o : Int, U2.cell? ⟨gq7, k, none⟩ = some (.int .u8 o) := ⟨_, by rw [cell_of_row _ _ _ _ _ _ HR2.out.tail.head, arrB_get _ _ (by rw [byK_len]; omega)]⟩
        have z2 := frozen_row HR2.out.tail.head k
        have HR3 : Hid (RowsW (U2.setCell ⟨gq7, k, none⟩ (.int .u8 ((byF s k).toNat : Int))) [(gq8, (arrB (byK t k)), 22), (gq7, (arrB (byK s (k + 1))), 22), (gq6, (arrB (byK n (k + 1))), 22), (gq5, (arrB (byK m (k + 1))), 22), (gq4, cq3, 26), (g0, arrB a, 22)]) := Lib.hid (by have h := RowsW.setN (k := k) (v := .int .u8 ((byF s k).toNat : Int)) 1 HR2.out rfl HD.out; rw [arrB_set, byK_set _ _ (by omega)] at h; exact h)
        have HB3 := Lib.hid (HB2.out.setCell (p := ⟨gq7, k, none⟩) (by show w.heap.size ≤ gq7; exact HGq7.out) (.int .u8 ((byF s k).toNat : Int)))
        clear HR2 HB2
        go_upto_region 16 with fail
        obtain ⟨U3, hU3⟩ : ∃ X, U2.setCell ⟨gq7, k, none⟩ (.int .u8 ((byF s k).toNat : Int)) = X := ⟨_, rfl⟩
        rw [hU3] at HR3 HB3
        rw [hU3]
        clear hU3 c2 z2
        obtain ⟨o3, c3⟩ : ∃ o : Int, U3.cell? ⟨gq8, k, none⟩ = some (.int .u8 o) := ⟨_, by rw [cell_of_row _ _ _ _ _ _ HR3.out.head, arrB_get _ _ (by rw [byK_len]; omega)]⟩
        have z3 := frozen_row HR3.out.head k
        have HR4 : Hid (RowsW (U3.setCell ⟨gq8, k, none⟩ (.int .u8 ((byF t k).toNat : Int))) [(gq8, (arrB (byK t (k + 1))), 22), (gq7, (arrB (byK s (k + 1))), 22), (gq6, (arrB (byK n (k + 1))), 22), (gq5, (arrB (byK m (k + 1))), 22), (gq4, cq3, 26), (g0, arrB a, 22)]) := Lib.hid (by have h := RowsW.setN (k := k) (v := .int .u8 ((byF t k).toNat : Int)) 0 HR3.out rfl HD.out; rw [arrB_set, byK_set _ _ (by omega)] at h; exact h)
        have HB4 := Lib.hid (HB3.out.setCell (p := ⟨gq8, k, none⟩) (by show w.heap.size ≤ gq8; exact HGq8.out) (.int .u8 ((byF t k).toNat : Int)))
        clear HR3 HB3
        go_upto_region 11 with fail
        obtain ⟨U4, hU4⟩ : ∃ X, U3.setCell ⟨gq8, k, none⟩ (.int .u8 ((byF t k).toNat : Int)) = X := ⟨_, rfl⟩
        rw [hU4] at HR4 HB4
        rw [hU4]
        clear hU4 c3 z3
        have HRE : Hid (RowsW (U4) [(gq8, (arrB (byK t (k + 1))), 22), (gq7, (arrB (byK s (k + 1))), 22), (gq6, (arrB (byK n (min (k + 1) 4))), 22), (gq5, (arrB (byK m (min (k + 1) 4))), 22), (gq4, cq3, 26), (g0, arrB a, 22)]) := Lib.hid (by rw [show min (k + 1) 4 = k + 1 by omega]; exact HR4.out)
        clear HR4 h4
        go_wp2_with fail
        go_roundw
        case rel => exact ⟨k + 1, by omega, by go_num, HRE, HB4⟩
        case measure => simp [intOf]; omega
      · have h4d : decide ((k : Int) < 4) = false := by simp; omega
        rw [show min k 4 = 4 by omega] at HR0
        obtain ⟨o0, c0⟩ : ∃ o : Int, wr.cell? ⟨gq7, k, none⟩ = some (.int .u8 o) := ⟨_, by rw [cell_of_row _ _ _ _ _ _ HR0.out.tail.head, arrB_get _ _ (by rw [byK_len]; omega)]⟩
        have z0 := frozen_row HR0.out.tail.head k
        have HR1 : Hid (RowsW (wr.setCell ⟨gq7, k, none⟩ (.int .u8 ((byF s k).toNat : Int))) [(gq8, (arrB (byK t k)), 22), (gq7, (arrB (byK s (k + 1))), 22), (gq6, (arrB (byK n 4)), 22), (gq5, (arrB (byK m 4)), 22), (gq4, cq3, 26), (g0, arrB a, 22)]) := Lib.hid (by have h := RowsW.setN (k := k) (v := .int .u8 ((byF s k).toNat : Int)) 1 HR0.out rfl HD.out; rw [arrB_set, byK_set _ _ (by omega)] at h; exact h)
        have HB1 := Lib.hid (HB0.out.setCell (p := ⟨gq7, k, none⟩) (by show w.heap.size ≤ gq7; exact HGq7.out) (.int .u8 ((byF s k).toNat : Int)))
        clear HR0 HB0
        go_upto_region 16 with fail
        obtain ⟨U1, hU1⟩ : ∃ X, wr.setCell ⟨gq7, k, none⟩ (.int .u8 ((byF s k).toNat : Int)) = X := ⟨_, rfl⟩
        rw [hU1] at HR1 HB1
        rw [hU1]
        clear hU1 c0 z0
        obtain ⟨o1, c1⟩ : ∃ o : Int, U1.cell? ⟨gq8, k, none⟩ = some (.int .u8 o) := ⟨_, by rw [cell_of_row _ _ _ _ _ _ HR1.out.head, arrB_get _ _ (by rw [byK_len]; omega)]⟩
        have z1 := frozen_row HR1.out.head k
        have HR2 : Hid (RowsW (U1.setCell ⟨gq8, k, none⟩ (.int .u8 ((byF t k).toNat : Int))) [(gq8, (arrB (byK t (k + 1))), 22), (gq7, (arrB (byK s (k + 1))), 22), (gq6, (arrB (byK n 4)), 22), (gq5, (arrB (byK m 4)), 22), (gq4, cq3, 26), (g0, arrB a, 22)]) := Lib.hid (by have h := RowsW.setN (k := k) (v := .int .u8 ((byF t k).toNat : Int)) 0 HR1.out rfl HD.out; rw [arrB_set, byK_set _ _ (by omega)] at h; exact h)
        have HB2 := Lib.hid (HB1.out.setCell (p := ⟨gq8, k, none⟩) (by show w.heap.size ≤ gq8; exact HGq8.out) (.int .u8 ((byF t k).toNat : Int)))
        clear HR1 HB1
        go_upto_region 11 with fail
        obtain ⟨U2, hU2⟩ : ∃ X, U1.setCell ⟨gq8, k, none⟩ (.int .u8 ((byF t k).toNat : Int)) = X := ⟨_, rfl⟩
        rw [hU2] at HR2 HB2
        rw [hU2]
        clear hU2 c1 z1
        have HRE : Hid (RowsW (U2) [(gq8, (arrB (byK t (k + 1))), 22), (gq7, (arrB (byK s (k + 1))), 22), (gq6, (arrB (byK n (min (k + 1) 4))), 22), (gq5, (arrB (byK m (min (k + 1) 4))), 22), (gq4, cq3, 26), (g0, arrB a, 22)]) := Lib.hid (by rw [show min (k + 1) 4 = 4 by omega]; exact HR2.out)
        clear HR2 h4
        go_wp2_with fail
        go_roundw
        case rel => exact ⟨k + 1, by omega, by go_num, HRE, HB2⟩
        case measure => simp [intOf]; omega
    · obtain rfl : k = 8 := by omega
      rw [show min 8 4 = 4 from rfl, byK_end m 4 (by have := Hm.out; rw [show (256 : Nat) ^ 4 = 4294967296 by decide]; exact this) (by omega), byK_end n 4 (by have := Hn.out; rw [show (256 : Nat) ^ 4 = 4294967296 by decide]; exact this) (by omega), byK_end s 8 Hsl.out (by omega), byK_end t 8 Htl.out (by omega)] at HR0
      (try simp only [Exit.inBlock, Exit.then])
      go_upto_region 17 with fail
      refine wp_region_noPanic ?_
      refine wp_region_held_drew (S := fun W => Below wr.heap.size wr W) (by kernel_rfl) (by exact (Below.refl _ _).drew) (fun hS => ?_)
      refine' take_at 0 rfl (by kernel_rfl) (by kernel_rfl) (by kernel_rfl) (fun _ _ _ h => h) (by rfl) hS ?_ ?_ ?_
      rotate_left 2
      · intro W hSW; go_simp; try with_reducible rfl
      · simp only [List.set_cons_succ, List.set_cons_zero]; rfl
      refine' take_at 1 rfl (by kernel_rfl) (by kernel_rfl) (by kernel_rfl) (fun _ _ _ h => h) (by rfl) hS ?_ ?_ ?_
      rotate_left 2
      · intro W hSW; go_simp; try with_reducible rfl
      · simp only [List.set_cons_succ, List.set_cons_zero]; rfl
      refine' take_at 2 rfl (by kernel_rfl) (by kernel_rfl) (by kernel_rfl) (fun _ _ _ h => h) (by rfl) hS ?_ ?_ ?_
      rotate_left 2
      · intro W hSW; exact run_loadR rfl rfl (HR0.out.below hSW).tail.tail.tail.tail.head Try.underlying26 rfl (C.base.info Rq3.out)
      · simp only [List.set_cons_succ, List.set_cons_zero]; rfl
      refine' take_at 3 rfl (by kernel_rfl) (by kernel_rfl) (by kernel_rfl) (fun _ _ _ h => h) (by rfl) hS ?_ ?_ ?_
      rotate_left 2
      · intro W hSW; exact run_loadR rfl rfl (HR0.out.below hSW).tail.tail.tail.head Try.underlying22 rfl (arr32_info (leB_len 32 m))
      · simp only [List.set_cons_succ, List.set_cons_zero]; rfl
      refine' take_at 5 rfl (by kernel_rfl) (by kernel_rfl) (by kernel_rfl) (fun _ _ _ h => h) (by rfl) hS ?_ ?_ ?_
      rotate_left 2
      · intro W hSW; exact run_loadR rfl rfl (HR0.out.below hSW).tail.tail.tail.tail.head Try.underlying26 rfl (C.base.info Rq3.out)
      · simp only [List.set_cons_succ, List.set_cons_zero]; rfl
      refine' take_at 6 rfl (by kernel_rfl) (by kernel_rfl) (by kernel_rfl) (fun _ _ _ h => h) (by rfl) hS ?_ ?_ ?_
      rotate_left 2
      · intro W hSW; exact run_loadR rfl rfl (HR0.out.below hSW).tail.tail.head Try.underlying22 rfl (arr32_info (leB_len 32 n))
      · simp only [List.set_cons_succ, List.set_cons_zero]; rfl
      refine' take_at 9 rfl (by kernel_rfl) (by kernel_rfl) (by kernel_rfl) (fun _ _ _ h => h) (by rfl) hS ?_ ?_ ?_
      rotate_left 2
      · intro W hSW; exact run_loadR rfl rfl (HR0.out.below hSW).tail.tail.tail.tail.head Try.underlying26 rfl (C.base.info Rq3.out)
      · simp only [List.set_cons_succ, List.set_cons_zero]; rfl
      refine' take_at 10 rfl (by kernel_rfl) (by kernel_rfl) (by kernel_rfl) (fun _ _ _ h => h) (by rfl) hS ?_ ?_ ?_
      rotate_left 2
      · intro W hSW; exact run_loadR rfl rfl (HR0.out.below hSW).tail.head Try.underlying22 rfl (arr32_info (leB_len 32 s))
      · simp only [List.set_cons_succ, List.set_cons_zero]; rfl
      refine call_at 4 rfl (by kernel_rfl) (by rfl) (fun K hK => ?_)
      go_simp
      obtain ⟨n9, hn9⟩ : ∃ y : Nat, pwN n2 (leN (leB 32 m)) = y := ⟨_, rfl⟩
      have Hn9 := Lib.hid hn9
      have HLn9 : Hid (n9 < PP) := Lib.hid (by rw [← hn9]; exact pwN_lt _ _)
      clear hn9
      with_reducible refine ((D.pow Rq3.out (leB 32 m) (leB_len 32 m)) _).mono ?_
      rintro e vq10 ⟨cq10, rfl, rq10, hbq10⟩
      rw [Hn9.out] at rq10
      have Rq10 := Lib.hid rq10
      clear rq10
      have kbq10 := below_next hS hbq10
      clear hS hbq10
      refine hK.out _ _ (by exact kbq10) (fun hS => ?_)
      clear hK K
      refine call_at 7 rfl (by kernel_rfl) (by rfl) (fun K hK => ?_)
      go_simp
      obtain ⟨n11, hn11⟩ : ∃ y : Nat, pwN n2 (leN (leB 32 n)) = y := ⟨_, rfl⟩
      have Hn11 := Lib.hid hn11
      have HLn11 : Hid (n11 < PP) := Lib.hid (by rw [← hn11]; exact pwN_lt _ _)
      clear hn11
      with_reducible refine ((D.pow Rq3.out (leB 32 n) (leB_len 32 n)) _).mono ?_
      rintro e vq12 ⟨cq12, rfl, rq12, hbq12⟩
      rw [Hn11.out] at rq12
      have Rq12 := Lib.hid rq12
      clear rq12
      have kbq12 := below_next kbq10 hbq12
      clear hS hbq12
      refine hK.out _ _ (by exact kbq12) (fun hS => ?_)
      clear hK K
      refine call_at 8 rfl (by kernel_rfl) (by rfl) (fun K hK => ?_)
      go_simp
      obtain ⟨n13, hn13⟩ : ∃ x : Nat, (n9 * n11) % PP = x := ⟨_, rfl⟩
      have Hn13 := Lib.hid hn13
      have HLn13 : Hid (n13 < PP) := Lib.hid (by rw [← hn13]; exact Nat.mod_lt _ (by decide))
      clear hn13
      with_reducible refine ((C.mul Rq10.out Rq12.out) _).mono ?_
      rintro e vq14 ⟨cq14, rfl, rq14, hbq14⟩
      rw [Hn13.out] at rq14
      have Rq14 := Lib.hid rq14
      clear rq14
      have kbq14 := below_next kbq12 hbq14
      clear hS hbq14
      refine hK.out _ _ (by exact kbq14) (fun hS => ?_)
      clear hK K
      refine call_at 11 rfl (by kernel_rfl) (by rfl) (fun K hK => ?_)
      go_simp
      obtain ⟨n15, hn15⟩ : ∃ y : Nat, pwN n2 (leN (leB 32 s)) = y := ⟨_, rfl⟩
      have Hn15 := Lib.hid hn15
      have HLn15 : Hid (n15 < PP) := Lib.hid (by rw [← hn15]; exact pwN_lt _ _)
      clear hn15
      with_reducible refine ((D.pow Rq3.out (leB 32 s) (leB_len 32 s)) _).mono ?_
      rintro e vq16 ⟨cq16, rfl, rq16, hbq16⟩
      rw [Hn15.out] at rq16
      have Rq16 := Lib.hid rq16
      clear rq16
      have kbq16 := below_next kbq14 hbq16
      clear hS hbq16
      refine hK.out _ _ (by exact kbq16) (fun hS => ?_)
      clear hK K
      refine call_at 12 rfl (by kernel_rfl) (by rfl) (fun K hK => ?_)
      go_simp
      have kq17 := fun W : World => (C.equal Rq14.out Rq16.out) W
      rw [decide_eq_true (show n13 = n15 from (by rw [← Hn13.out, ← Hn9.out, ← Hn11.out, ← Hn15.out]; exact sums_add Hm.out Hn.out Hs.out))] at kq17
      have Kq17 := Lib.hid kq17
      clear kq17
      with_reducible refine (Kq17.out _).mono ?_
      rintro e vq17 ⟨rfl, hbq17⟩
      have kbq17 := below_next kbq16 hbq17
      clear hS hbq17
      refine hK.out _ _ (by exact kbq17) (fun hS => ?_)
      clear hK K
      refine' take_at 13 rfl (by kernel_rfl) (by kernel_rfl) (by kernel_rfl) (fun _ _ _ h => h) (by rfl) hS ?_ ?_ ?_
      rotate_left 2
      · intro W hSW; go_simp; try with_reducible rfl
      · simp only [List.set_cons_succ, List.set_cons_zero]; rfl
      refine' take_at 14 rfl (by kernel_rfl) (by kernel_rfl) (by kernel_rfl) (fun _ _ _ h => h) (by rfl) hS ?_ ?_ ?_
      rotate_left 2
      · intro W hSW; go_simp; try with_reducible rfl
      · simp only [List.set_cons_succ, List.set_cons_zero]; rfl
      refine' take_at 15 rfl (by kernel_rfl) (by kernel_rfl) (by kernel_rfl) (fun _ _ _ h => h) (by rfl) hS ?_ ?_ ?_
      rotate_left 2
      · intro W hSW; exact run_loadR rfl rfl (HR0.out.below hSW).tail.tail.tail.tail.head Try.underlying26 rfl (C.base.info Rq3.out)
      · simp only [List.set_cons_succ, List.set_cons_zero]; rfl
      refine' take_at 16 rfl (by kernel_rfl) (by kernel_rfl) (by kernel_rfl) (fun _ _ _ h => h) (by rfl) hS ?_ ?_ ?_
      rotate_left 2
      · intro W hSW; exact run_loadR rfl rfl (HR0.out.below hSW).tail.tail.tail.head Try.underlying22 rfl (arr32_info (leB_len 32 m))
      · simp only [List.set_cons_succ, List.set_cons_zero]; rfl
      refine' take_at 18 rfl (by kernel_rfl) (by kernel_rfl) (by kernel_rfl) (fun _ _ _ h => h) (by rfl) hS ?_ ?_ ?_
      rotate_left 2
      · intro W hSW; exact run_loadR rfl rfl (HR0.out.below hSW).tail.tail.head Try.underlying22 rfl (arr32_info (leB_len 32 n))
      · simp only [List.set_cons_succ, List.set_cons_zero]; rfl
      refine' take_at 20 rfl (by kernel_rfl) (by kernel_rfl) (by kernel_rfl) (fun _ _ _ h => h) (by rfl) hS ?_ ?_ ?_
      rotate_left 2
      · intro W hSW; exact run_loadR rfl rfl (HR0.out.below hSW).tail.tail.tail.tail.head Try.underlying26 rfl (C.base.info Rq3.out)
      · simp only [List.set_cons_succ, List.set_cons_zero]; rfl
      refine' take_at 21 rfl (by kernel_rfl) (by kernel_rfl) (by kernel_rfl) (fun _ _ _ h => h) (by rfl) hS ?_ ?_ ?_
      rotate_left 2
      · intro W hSW; exact run_loadR rfl rfl (HR0.out.below hSW).head Try.underlying22 rfl (arr32_info (leB_len 32 t))
      · simp only [List.set_cons_succ, List.set_cons_zero]; rfl
      refine call_at 17 rfl (by kernel_rfl) (by rfl) (fun K hK => ?_)
      go_simp
      with_reducible refine ((D.pow Rq3.out (leB 32 m) (leB_len 32 m)) _).mono ?_
      rintro e vq18 ⟨cq18, rfl, rq18, hbq18⟩
      rw [Hn9.out] at rq18
      have Rq18 := Lib.hid rq18
      clear rq18
      have kbq18 := below_next kbq17 hbq18
      clear hS hbq18
      refine hK.out _ _ (by exact kbq18) (fun hS => ?_)
      clear hK K
      refine call_at 19 rfl (by kernel_rfl) (by rfl) (fun K hK => ?_)
      go_simp
      obtain ⟨n19, hn19⟩ : ∃ y : Nat, pwN n9 (leN (leB 32 n)) = y := ⟨_, rfl⟩
      have Hn19 := Lib.hid hn19
      have HLn19 : Hid (n19 < PP) := Lib.hid (by rw [← hn19]; exact pwN_lt _ _)
      clear hn19
      with_reducible refine ((D.pow Rq18.out (leB 32 n) (leB_len 32 n)) _).mono ?_
      rintro e vq20 ⟨cq20, rfl, rq20, hbq20⟩
      rw [Hn19.out] at rq20
      have Rq20 := Lib.hid rq20
      clear rq20
      have kbq20 := below_next kbq18 hbq20
      clear hS hbq20
      refine hK.out _ _ (by exact kbq20) (fun hS => ?_)
      clear hK K
      refine call_at 22 rfl (by kernel_rfl) (by rfl) (fun K hK => ?_)
      go_simp
      obtain ⟨n21, hn21⟩ : ∃ y : Nat, pwN n2 (leN (leB 32 t)) = y := ⟨_, rfl⟩
      have Hn21 := Lib.hid hn21
      have HLn21 : Hid (n21 < PP) := Lib.hid (by rw [← hn21]; exact pwN_lt _ _)
      clear hn21
      with_reducible refine ((D.pow Rq3.out (leB 32 t) (leB_len 32 t)) _).mono ?_
      rintro e vq22 ⟨cq22, rfl, rq22, hbq22⟩
      rw [Hn21.out] at rq22
      have Rq22 := Lib.hid rq22
      clear rq22
      have kbq22 := below_next kbq20 hbq22
      clear hS hbq22
      refine hK.out _ _ (by exact kbq22) (fun hS => ?_)
      clear hK K
      refine call_at 23 rfl (by kernel_rfl) (by rfl) (fun K hK => ?_)
      go_simp
      have kq23 := fun W : World => (C.equal Rq20.out Rq22.out) W
      rw [decide_eq_true (show n19 = n21 from (by rw [← Hn19.out, ← Hn9.out, ← Hn21.out]; exact sums_mul Hm.out Hn.out Ht.out))] at kq23
      have Kq23 := Lib.hid kq23
      clear kq23
      with_reducible refine (Kq23.out _).mono ?_
      rintro e vq23 ⟨rfl, hbq23⟩
      have kbq23 := below_next kbq22 hbq23
      clear hS hbq23
      refine hK.out _ _ (by exact kbq23) (fun hS => ?_)
      clear hK K
      refine' take_at 24 rfl (by kernel_rfl) (by kernel_rfl) (by kernel_rfl) (fun _ _ _ h => h) (by rfl) hS ?_ ?_ ?_
      rotate_left 2
      · intro W hSW; go_simp; try with_reducible rfl
      · simp only [List.set_cons_succ, List.set_cons_zero]; rfl
      refine' take_at 25 rfl (by kernel_rfl) (by kernel_rfl) (by kernel_rfl) (fun _ _ _ h => h) (by rfl) hS ?_ ?_ ?_
      rotate_left 2
      · intro W hSW; go_simp; try with_reducible rfl
      · simp only [List.set_cons_succ, List.set_cons_zero]; rfl
      refine' take_at 26 rfl (by kernel_rfl) (by kernel_rfl) (by kernel_rfl) (fun _ _ _ h => h) (by rfl) hS ?_ ?_ ?_
      rotate_left 2
      · intro W hSW; exact run_loadR rfl rfl (HR0.out.below hSW).tail.tail.tail.tail.head Try.underlying26 rfl (C.base.info Rq3.out)
      · simp only [List.set_cons_succ, List.set_cons_zero]; rfl
      refine' take_at 27 rfl (by kernel_rfl) (by kernel_rfl) (by kernel_rfl) (fun _ _ _ h => h) (by rfl) hS ?_ ?_ ?_
      rotate_left 2
      · intro W hSW; go_simp; try with_reducible rfl
      · simp only [List.set_cons_succ, List.set_cons_zero]; rfl
      refine call_at 28 rfl (by kernel_rfl) (by rfl) (fun K hK => ?_)
      go_simp
      have pz : ∀ W : World, Calls Try.prog 15 #[.agg cq3, .agg zero32] W (RetFe R W 1) := fun W => by have h := D.pow Rq3.out (List.replicate 32 0) (by simp) W; rw [show leN (List.replicate 32 0) = 0 from by decide, pwN_zero] at h; exact h
      with_reducible refine (pz _).mono ?_
      rintro e vq24 ⟨cq24, rfl, rq24, hbq24⟩
      have Rq24 := Lib.hid rq24
      clear rq24
      have kbq24 := below_next kbq23 hbq24
      clear hS hbq24
      refine hK.out _ _ (by exact kbq24) (fun hS => ?_)
      clear hK K
      refine call_at 29 rfl (by kernel_rfl) (by rfl) (fun K hK => ?_)
      go_simp
      have s100_1 : ∀ W : World, Calls Try.prog 24 #[.int .u64 1] W (RetFe R W 1) := fun W => C.small 1 (by decide) W
      with_reducible refine (s100_1 _).mono ?_
      rintro e vq25 ⟨cq25, rfl, rq25, hbq25⟩
      have Rq25 := Lib.hid rq25
      clear rq25
      have kbq25 := below_next kbq24 hbq25
      clear hS hbq25
      refine hK.out _ _ (by exact kbq25) (fun hS => ?_)
      clear hK K
      refine call_at 30 rfl (by kernel_rfl) (by rfl) (fun K hK => ?_)
      go_simp
      have kq26 := fun W : World => (C.equal Rq24.out Rq25.out) W
      rw [decide_eq_true (rfl : 1 = 1)] at kq26
      have Kq26 := Lib.hid kq26
      clear kq26
      with_reducible refine (Kq26.out _).mono ?_
      rintro e vq26 ⟨rfl, hbq26⟩
      have kbq26 := below_next kbq25 hbq26
      clear hS hbq26
      refine hK.out _ _ (by exact kbq26) (fun hS => ?_)
      clear hK K
      refine' take_at 31 rfl (by kernel_rfl) (by kernel_rfl) (by kernel_rfl) (fun _ _ _ h => h) (by rfl) hS ?_ ?_ ?_
      rotate_left 2
      · intro W hSW; go_simp; try with_reducible rfl
      · simp only [List.set_cons_succ, List.set_cons_zero]; rfl
      refine' take_at 32 rfl (by kernel_rfl) (by kernel_rfl) (by kernel_rfl) (fun _ _ _ h => h) (by rfl) hS ?_ ?_ ?_
      rotate_left 2
      · intro W hSW; go_simp; try with_reducible rfl
      · simp only [List.set_cons_succ, List.set_cons_zero]; rfl
      refine wpAnyH_done (by kernel_rfl) ?_ _
      refine NoPanic.normal ?_
      clear hS
      (try simp only [Act.put])
      have HRq27 := Lib.hid (HR0.out.below kbq26)
      have HBq27 := Lib.hid (below_next HB0.out kbq26)
      go_wp2_with fail
      go_ret
      exact ⟨rfl, HBq27.out⟩
end Go.Proofs.Ytjekeblcppkghaa

