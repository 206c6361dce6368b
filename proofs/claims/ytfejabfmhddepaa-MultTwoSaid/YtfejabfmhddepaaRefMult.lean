/- The reference's Mult. Written by wip/tools/mk_mult13.py. -/
import Derived.Test.YtfejabfmhddepaaLaw12Spec
import Derived.Test.YtfejabfmhddepaaMulN
import Derived.Test.YtfejabfmhddepaaGpow
namespace Go.Proofs.Ytfejabfmhddepaa
open Go.RowKit
set_option linter.unusedVariables false
set_option maxRecDepth 100000

theorem rplusdd_any {c d : Array Value} {p q : PtD} (h : RQ c p) (k : RQ d q) (w : World) : Calls Try.prog 49 #[.agg c, .agg d, .agg (refT ((edN + edN) % PP))] w (RetPt RQ w (padd p q)) := by
  obtain ⟨X, Y, Z, T, rfl, hc⟩ := h
  obtain ⟨X', Y', Z', T', rfl, kc⟩ := k
  exact rplusN hc kc w
theorem rzeroQ (w : World) : Calls Try.prog 31 #[] w (RetPt RQ w pzero) := (rzeroN w).mono (by rintro e w' ⟨rfl, hb⟩; exact ⟨_, rfl, ⟨_, _, _, _, rfl, co_zero⟩, hb⟩)
set_option maxHeartbeats 3200000 in
theorem rmult_any {l : List UInt8} (hl : l.length = 32) {c : Array Value} {p : PtD} (hp : RQ c p) (w : World) : Calls Try.prog 14 #[.agg (arrB l), .agg c] w (RetPt RQ w (pmul (leN l) p)) := by
  have HL := Lib.hid hl
  have HRP := Lib.hid hp
  clear hl hp
  obtain ⟨E, hE⟩ : ∃ E, leN l = E := ⟨_, rfl⟩
  have hE0 : E / 2 ^ (256 - 0) = 0 := by
    have := leN_lt l
    rw [HL.out, hE] at this
    exact Nat.div_eq_of_lt (by rw [show (2 : Nat) ^ (256 - 0) = 256 ^ 32 by decide]; exact this)
  have HP0 : Hid (pmul (E / 2 ^ (256 - 0)) p = pzero) := Lib.hid (by rw [hE0]; exact pmul_zero p)
  rw [hE]
  have HE := Lib.hid hE
  clear hE hE0
  have hzR := refT_zero
  have hz32 := zero32_zero
  have hzP := refP_zero
  have HR0 := Lib.hid ((((RowsW.nil w).box (arrB l) 22).box c 33).box (refP 0 0 0 0) 33)
  have HB0 := Lib.hid (below_box (below_box (below_box (Below.refl w.heap.size w) (arrB l) 22) c 33) (refP 0 0 0 0) 33)
  rw [World.size_alloc] at HR0
  rw [World.size_alloc] at HR0
  go_enter Try.func14, Try.ntmps14
  go_wp2_with fail
  obtain ⟨W0, hW0⟩ : ∃ W, (((w.alloc (.cells (arrB l) 22)).alloc (.cells c 33)).alloc (.cells (refP 0 0 0 0) 33)) = W := ⟨_, rfl⟩
  obtain ⟨g0, hg0⟩ : ∃ g, w.heap.size = g := ⟨_, rfl⟩
  rw [hW0] at HR0 HB0
  rw [hg0] at HR0
  rw [hW0, hg0]
  have HG0 := Lib.hid hg0
  clear hW0 hg0
  with_reducible refine (redgeN _).mono ?_
  rintro e vq1 ⟨rfl, hbq1⟩
  have HRq1 := Lib.hid (HR0.out.below hbq1)
  have HBq1 := Lib.hid (below_next HB0.out hbq1)
  clear hbq1
  go_wp2_with fail
  with_reducible refine (redgeN _).mono ?_
  rintro e vq2 ⟨rfl, hbq2⟩
  have HRq2 := Lib.hid (HRq1.out.below hbq2)
  have HBq2 := Lib.hid (below_next HBq1.out hbq2)
  clear hbq2
  go_wp2_with fail
  with_reducible refine ((raddN edN_lt edN_lt) _).mono ?_
  rintro e vq3 ⟨rfl, hbq3⟩
  have HRq3 := Lib.hid (HRq2.out.below hbq3)
  have HBq3 := Lib.hid (below_next HBq2.out hbq3)
  clear hbq3
  have h0q4 : (vq3.alloc (.cells (refT 0) 31)).heap[vq3.heap.size]? = some (.cells (refT 0) 31 (0, 0)) := heap_alloc_new _ _
  have HRq4 := Lib.hid (HRq3.out.new (refT 0) (refT ((edN + edN) % PP)) 31)
  have HBq4 := Lib.hid (below_new HBq3.out (refT 0) (refT ((edN + edN) % PP)) 31)
  have HNq4 := Lib.hid HRq3.out.ne
  have HGq4 := Lib.hid HBq3.out.size
  go_upto_region 2 with (refine wpList_store_row rfl 31 (.tmp 5) (.tmp 10) rfl vq3.heap.size (refT ((edN + edN) % PP)) rfl rfl 31 (refT 0) h0q4 (refT_info _) (refT_size _ _) (refT_one _) ?_)
  obtain ⟨Wq4, hWq4⟩ : ∃ W, (vq3.alloc (.cells (refT 0) 31)).setRow vq3.heap.size (refT ((edN + edN) % PP)) = W := ⟨_, rfl⟩
  obtain ⟨gq4, hgq4⟩ : ∃ g, vq3.heap.size = g := ⟨_, rfl⟩
  rw [hWq4, hgq4] at HRq4
  rw [hWq4] at HBq4
  rw [hgq4] at HNq4 HGq4
  rw [hWq4, hgq4]
  clear hWq4 hgq4 h0q4
  have NEq4_0 : Hid (g0 ≠ gq4) := Lib.hid (HNq4.out (g0, (arrB l), 22) (by simp))
  have NEq4_1 : Hid ((g0 + 1) ≠ gq4) := Lib.hid (HNq4.out ((g0 + 1), c, 33) (by simp))
  have NEq4_2 : Hid ((g0 + 1 + 1) ≠ gq4) := Lib.hid (HNq4.out ((g0 + 1 + 1), (refP 0 0 0 0), 33) (by simp))
  go_wp2_with fail
  with_reducible refine ((fun W => rzeroQ W) _).mono ?_
  rintro e vq5 ⟨cq5, rfl, rq5, hbq5⟩
  have Rq5 := Lib.hid rq5
  clear rq5
  have HRq5 := Lib.hid (HRq4.out.below hbq5)
  have HBq5 := Lib.hid (below_next HBq4.out hbq5)
  clear hbq5
  have h0q6 : (vq5.alloc (.cells (refP 0 0 0 0) 33)).heap[vq5.heap.size]? = some (.cells (refP 0 0 0 0) 33 (0, 0)) := heap_alloc_new _ _
  have HRq6 := Lib.hid (HRq5.out.new (refP 0 0 0 0) cq5 33)
  have HBq6 := Lib.hid (below_new HBq5.out (refP 0 0 0 0) cq5 33)
  have HNq6 := Lib.hid HRq5.out.ne
  have HGq6 := Lib.hid HBq5.out.size
  go_upto_region 3 with (refine wpList_store_row rfl 33 (.tmp 6) (.tmp 11) rfl vq5.heap.size cq5 rfl rfl 33 (refP 0 0 0 0) h0q6 (rq_info Rq5.out) (rq_z Rq5.out) (rq_one Rq5.out) ?_)
  obtain ⟨Wq6, hWq6⟩ : ∃ W, (vq5.alloc (.cells (refP 0 0 0 0) 33)).setRow vq5.heap.size cq5 = W := ⟨_, rfl⟩
  obtain ⟨gq6, hgq6⟩ : ∃ g, vq5.heap.size = g := ⟨_, rfl⟩
  rw [hWq6, hgq6] at HRq6
  rw [hWq6] at HBq6
  rw [hgq6] at HNq6 HGq6
  rw [hWq6, hgq6]
  clear hWq6 hgq6 h0q6
  have NEq6_0 : Hid (g0 ≠ gq6) := Lib.hid (HNq6.out (g0, (arrB l), 22) (by simp))
  have NEq6_1 : Hid ((g0 + 1) ≠ gq6) := Lib.hid (HNq6.out ((g0 + 1), c, 33) (by simp))
  have NEq6_2 : Hid ((g0 + 1 + 1) ≠ gq6) := Lib.hid (HNq6.out ((g0 + 1 + 1), (refP 0 0 0 0), 33) (by simp))
  have NEq6_3 : Hid (gq4 ≠ gq6) := Lib.hid (HNq6.out (gq4, (refT ((edN + edN) % PP)), 31) (by simp))
  go_wp2_with fail
  go_loopw [7] (fun i_ wr => ∃ k : Nat, k ≤ 256 ∧ i_ = .int .i64 (255 - (k : Int)) ∧ ∃ A, Hid (RQ A (pmul (E / 2 ^ (256 - k)) p)) ∧ Hid (RowsW wr [(gq6, A, 33), (gq4, (refT ((edN + edN) % PP)), 31), (g0 + 1 + 1, refP 0 0 0 0, 33), (g0 + 1, c, 33), (g0, arrB l, 22)]) ∧ Hid (Below w.heap.size w wr)) (fun i_ _ => (intOf i_ + 1).toNat)
  case atStart => exact ⟨0, by omega, rfl, _, by rw [HP0.out]; exact Rq5, HRq6, HBq6⟩
  case round =>
    clear HRq6 HBq6
    obtain ⟨k, hk, rfl, A, RA, HR1, HB1⟩ := hrel
    by_cases hlt : k < 256
    · obtain ⟨i, hi⟩ : ∃ i, 255 - k = i := ⟨_, rfl⟩
      have e1 : 255 - (k : Int) = (i : Int) := by omega
      have e2 : (i : Int) - 1 = 255 - ((k + 1 : Nat) : Int) := by omega
      have hi255 : i < 256 := by omega
      have hst := pmul_step p E k hlt
      rw [hi] at hst
      obtain ⟨x, hx⟩ : ∃ x, pmul (E / 2 ^ (256 - k)) p = x := ⟨_, rfl⟩
      rw [hx] at hst RA
      have HE2 := Lib.hid e2
      have hp : ¬ ((i : Int) < 0) := by omega
      rw [e1]
      clear hx hi e1 e2
      have l7 := HR1.out.head
      have l8 := HR1.out.head
      have l9 := HR1.out.tail.head
      go_wp2_with (first
          | (refine wpList_load_row rfl 33 (.tmp 6) rfl gq6 rfl 33 A (0, 0) _ l7 Try.underlying33 rfl (rq_info RA.out) ?_)
          | (refine wpList_load_row rfl 33 (.tmp 6) rfl gq6 rfl 33 A (0, 0) _ l8 Try.underlying33 rfl (rq_info RA.out) ?_)
          | (refine wpList_load_row rfl 31 (.tmp 5) rfl gq4 rfl 31 (refT ((edN + edN) % PP)) (0, 0) _ l9 Try.underlying31 rfl (refT_info _) ?_))
      obtain ⟨p10, hp10⟩ : ∃ y_ : PtD, padd x x = y_ := ⟨_, rfl⟩
      have Hp10 := Lib.hid hp10
      clear hp10
      with_reducible refine ((rplusdd_any RA.out RA.out) _).mono ?_
      rintro e vq11 ⟨cq11, rfl, rq11, hbq11⟩
      rw [Hp10.out] at rq11
      have Rq11 := Lib.hid rq11
      clear rq11
      have HRq11 := Lib.hid (HR1.out.below hbq11)
      have HBq11 := Lib.hid (below_next HB1.out hbq11)
      clear hbq11
      have lsq12 := HRq11.out.head
      have HRq12 : Hid (RowsW (vq11.setRow gq6 cq11) [(gq6, cq11, 33), (gq4, (refT ((edN + edN) % PP)), 31), ((g0 + 1 + 1), (refP 0 0 0 0), 33), ((g0 + 1), c, 33), (g0, (arrB l), 22)]) := Lib.hid ⟨setRow_heap _ _ _ _ _ _ lsq12, (by rw [setRow_other _ _ _ _ NEq6_3.out]; exact HRq11.out.tail.head), (by rw [setRow_other _ _ _ _ NEq6_2.out]; exact HRq11.out.tail.tail.head), (by rw [setRow_other _ _ _ _ NEq6_1.out]; exact HRq11.out.tail.tail.tail.head), (by rw [setRow_other _ _ _ _ NEq6_0.out]; exact HRq11.out.tail.tail.tail.tail.head), trivial⟩
      have HBq12 := Lib.hid (below_row (g := gq6) (cs := cq11) HBq11.out HGq6.out)
      go_upto_region 7 with (refine wpList_store_row rfl 33 (.tmp 6) (.tmp 19) rfl gq6 cq11 rfl rfl 33 A lsq12 (rq_info Rq11.out) (by have a := (rq_z RA.out); have b := (rq_z Rq11.out); rw [← a, ← b]) (rq_one Rq11.out) ?_)
      obtain ⟨Wq12, hWq12⟩ : ∃ W, vq11.setRow gq6 cq11 = W := ⟨_, rfl⟩
      rw [hWq12] at HRq12 HBq12
      (try rw [hWq12])
      clear hWq12 lsq12
      rw [Hp10.out] at hst
      by_cases hbit : E / 2 ^ i % 2 = 1
      · have HBT : Hid (leN l / 2 ^ i % 2 = 1) := Lib.hid (by rw [HE.out]; exact hbit)
        rw [if_pos hbit] at hst
        clear hbit
        have l13 := HRq12.out.tail.tail.tail.tail.head
        go_wp2_with (refine wpList_load_row rfl 22 (.tmp 2) rfl g0 rfl 22 (arrB l) (0, 0) _ l13 Try.underlying22 rfl (arr32_info HL.out) ?_)
        have kq14 := fun W : World => (rbit_any l HL.out i hi255) W
        rw [HBT.out] at kq14
        have Kq14 := Lib.hid kq14
        clear kq14
        with_reducible refine (Kq14.out _).mono ?_
        rintro e vq14 ⟨rfl, hbq14⟩
        have HRq14 := Lib.hid (HRq12.out.below hbq14)
        have HBq14 := Lib.hid (below_next HBq12.out hbq14)
        clear hbq14
        have HST := Lib.hid hst
        clear hst
        have l15 := HRq14.out.head
        have l16 := HRq14.out.tail.tail.tail.head
        have l17 := HRq14.out.tail.head
        go_wp2_with (first
            | (refine wpList_load_row rfl 33 (.tmp 6) rfl gq6 rfl 33 cq11 (0, 0) _ l15 Try.underlying33 rfl (rq_info Rq11.out) ?_)
            | (refine wpList_load_row rfl 33 (.tmp 3) rfl (g0 + 1) rfl 33 c (0, 0) _ l16 Try.underlying33 rfl (rq_info HRP.out) ?_)
            | (refine wpList_load_row rfl 31 (.tmp 5) rfl gq4 rfl 31 (refT ((edN + edN) % PP)) (0, 0) _ l17 Try.underlying31 rfl (refT_info _) ?_))
        obtain ⟨p18, hp18⟩ : ∃ y_ : PtD, padd p10 p = y_ := ⟨_, rfl⟩
        have Hp18 := Lib.hid hp18
        clear hp18
        with_reducible refine ((rplusdd_any Rq11.out HRP.out) _).mono ?_
        rintro e vq19 ⟨cq19, rfl, rq19, hbq19⟩
        rw [Hp18.out] at rq19
        have Rq19 := Lib.hid rq19
        clear rq19
        have HRq19 := Lib.hid (HRq14.out.below hbq19)
        have HBq19 := Lib.hid (below_next HBq14.out hbq19)
        clear hbq19
        have lsq20 := HRq19.out.head
        have HRq20 : Hid (RowsW (vq19.setRow gq6 cq19) [(gq6, cq19, 33), (gq4, (refT ((edN + edN) % PP)), 31), ((g0 + 1 + 1), (refP 0 0 0 0), 33), ((g0 + 1), c, 33), (g0, (arrB l), 22)]) := Lib.hid ⟨setRow_heap _ _ _ _ _ _ lsq20, (by rw [setRow_other _ _ _ _ NEq6_3.out]; exact HRq19.out.tail.head), (by rw [setRow_other _ _ _ _ NEq6_2.out]; exact HRq19.out.tail.tail.head), (by rw [setRow_other _ _ _ _ NEq6_1.out]; exact HRq19.out.tail.tail.tail.head), (by rw [setRow_other _ _ _ _ NEq6_0.out]; exact HRq19.out.tail.tail.tail.tail.head), trivial⟩
        have HBq20 := Lib.hid (below_row (g := gq6) (cs := cq19) HBq19.out HGq6.out)
        go_wp2_with (refine wpList_store_row rfl 33 (.tmp 6) (.tmp 27) rfl gq6 cq19 rfl rfl 33 cq11 lsq20 (rq_info Rq19.out) (by have a := (rq_z Rq11.out); have b := (rq_z Rq19.out); rw [← a, ← b]) (rq_one Rq19.out) ?_)
        obtain ⟨Wq20, hWq20⟩ : ∃ W, vq19.setRow gq6 cq19 = W := ⟨_, rfl⟩
        rw [hWq20] at HRq20 HBq20
        (try rw [hWq20])
        clear hWq20 lsq20
        have HNX := Lib.hid HST.out
        rw [Hp18.out] at HNX
        go_roundw
        case rel => exact ⟨k + 1, by omega, by rw [← HE2.out], _, by rw [← HNX.out]; exact Rq19, HRq20, HBq20⟩
        case measure => simp [intOf] <;> omega
      · have ht0 : E / 2 ^ i % 2 = 0 := by omega
        have HBT : Hid (leN l / 2 ^ i % 2 = 0) := Lib.hid (by rw [HE.out]; exact ht0)
        rw [if_neg hbit] at hst
        have HNX := Lib.hid hst
        clear hbit hst ht0
        have l21 := HRq12.out.tail.tail.tail.tail.head
        go_wp2_with (refine wpList_load_row rfl 22 (.tmp 2) rfl g0 rfl 22 (arrB l) (0, 0) _ l21 Try.underlying22 rfl (arr32_info HL.out) ?_)
        have kq22 := fun W : World => (rbit_any l HL.out i hi255) W
        rw [HBT.out] at kq22
        have Kq22 := Lib.hid kq22
        clear kq22
        with_reducible refine (Kq22.out _).mono ?_
        rintro e vq22 ⟨rfl, hbq22⟩
        have HRq22 := Lib.hid (HRq12.out.below hbq22)
        have HBq22 := Lib.hid (below_next HBq12.out hbq22)
        clear hbq22
        go_wp2_with fail
        go_roundw
        case rel => exact ⟨k + 1, by omega, by rw [← HE2.out], _, by rw [← HNX.out]; exact Rq11, HRq22, HBq22⟩
        case measure => simp [intOf] <;> omega
    · obtain rfl : k = 256 := by omega
      have HPE : Hid (pmul (E / 2 ^ (256 - 256)) p = pmul E p) := Lib.hid (by rw [Nat.sub_self, Nat.pow_zero, Nat.div_one])
      rw [HPE.out] at RA
      have hp : ¬ (0 : Int) ≤ 255 - ((256 : Nat) : Int) := by omega
      have ly := HR1.out.head
      have lsq23 := HR1.out.tail.tail.head
      have HRq23 : Hid (RowsW (wr.setRow (g0 + 1 + 1) A) [(gq6, A, 33), (gq4, (refT ((edN + edN) % PP)), 31), ((g0 + 1 + 1), A, 33), ((g0 + 1), c, 33), (g0, (arrB l), 22)]) := Lib.hid ⟨(by rw [setRow_other _ _ _ _ (Ne.symm NEq6_2.out)]; exact HR1.out.head), (by rw [setRow_other _ _ _ _ (Ne.symm NEq4_2.out)]; exact HR1.out.tail.head), setRow_heap _ _ _ _ _ _ lsq23, (by rw [setRow_other _ _ _ _ (by omega)]; exact HR1.out.tail.tail.tail.head), (by rw [setRow_other _ _ _ _ (by omega)]; exact HR1.out.tail.tail.tail.tail.head), trivial⟩
      have HBq23 := Lib.hid (below_row (g := (g0 + 1 + 1)) (cs := A) HB1.out (by have := HG0.out; omega))
      go_wp2_with (first
          | (refine wpList_load_row rfl 33 (.tmp 6) rfl gq6 rfl 33 A (0, 0) _ ly Try.underlying33 rfl (rq_info RA.out) ?_)
          | (refine wpList_store_row rfl 33 (.tmp 4) (.tmp 28) rfl (g0 + 1 + 1) A rfl rfl 33 (refP 0 0 0 0) lsq23 (rq_info RA.out) (by have a := (refP_sizes 0 0 0 0 0 0 0 0); have b := (rq_z RA.out); rw [← a, ← b]) (rq_one RA.out) ?_))
      obtain ⟨Wq23, hWq23⟩ : ∃ W, wr.setRow (g0 + 1 + 1) A = W := ⟨_, rfl⟩
      rw [hWq23] at HRq23 HBq23
      (try rw [hWq23])
      clear hWq23 lsq23
      (try simp only [Exit.inBlock, Exit.then])
      refine bodyPost_ret (results_cell_row rfl _ _ (g0 + 1 + 1) _ A _ _ rfl HRq23.out.tail.tail.head Try.underlying33 rfl (rq_info RA.out)) rfl ?_
      exact ⟨_, rfl, RA.out, HBq23.out⟩
end Go.Proofs.Ytfejabfmhddepaa

