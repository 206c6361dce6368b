/- The contracts of the reference's carried, Reduce and IsScalar. -/
import Derived.Test.YtmmfbbbljhifjaaRefSc11B
import Derived.Test.YtmmfbbbljhifjaaGbase
namespace Go.Proofs.Ytmmfbbbljhifjaa
open Go.RowKit
set_option linter.unusedVariables false
set_option maxRecDepth 100000

theorem gI_take {l : List Int} {n i : Nat} (h : i < n) : gI (l.take n) i = gI l i := by unfold gI; simp [List.getD, h]
/-- carried through, a number's digits -/
theorem carry_dg {n : Nat} {B : Int} {l : List Int} (hl : l.length = n + 1) (hB : 2 ≤ B) (hb : Bd B l) (h0 : 0 ≤ vL l) (h1 : vL l < 65536 ^ (n + 1)) : carryTo l n = dgN (n + 1) (vL l) := by
  have st := carry_st hB hb n (by omega)
  have hv := carryTo_val l n (by omega)
  have hml : (carryTo l n).length = n + 1 := by rw [carryTo_len, hl]
  generalize carryTo l n = m at *
  have e : m = m.take n ++ [gI m n] := by
    have e1 := List.take_append_drop n m
    have d : m.drop n = [gI m n] := by
      rw [List.drop_eq_getElem_cons (by omega), List.drop_eq_nil_of_le (by omega)]
      simp [gI, List.getD, List.getElem?_eq_getElem (show n < m.length by omega)]
    rw [← d]; exact e1.symm
  have ht : (m.take n).length = n := by rw [List.length_take]; omega
  have hs := vL_split (m.take n) (gI m n)
  rw [← e, ht] at hs
  have hbn := vL_bound (m.take n) (fun i hi => by rw [ht] at hi; rw [gI_take hi]; exact st.low i hi)
  rw [ht] at hbn
  have := dg_unique m (fun i hi => by
    rw [hml] at hi
    by_cases hin : i < n
    · exact st.low i hin
    · have : i = n := by omega
      subst this
      rw [Int.pow_succ] at h1
      rw [← hv, hs] at h0 h1
      have hP : (0 : Int) < 65536 ^ i := Int.pow_pos (by decide)
      generalize (65536 : Int) ^ i = P at *
      generalize gI m i = t at *
      generalize vL (m.take i) = z at *
      constructor
      · refine Int.not_lt.1 fun hneg => ?_
        have : t * P ≤ -1 * P := Int.mul_le_mul_of_nonneg_right (by omega) (by omega)
        omega
      · refine Int.not_le.1 fun hge => ?_
        have : 65536 * P ≤ t * P := Int.mul_le_mul_of_nonneg_right hge (by omega)
        rw [Int.mul_comm P 65536] at h1
        omega)
  rw [hml, hv] at this
  exact this
structure CaI (w wr : World) (g : Nat) (D : List Int) : Prop where
  row : wr.heap[g]? = some (.cells (tabI D) 2 (0, 0))
  only : Only (fun j => j = g) w wr
theorem CaI.drew {w wr : World} {g : Nat} {D : List Int} (h : CaI w wr g D) : CaI w wr.drew g D := ⟨h.row, h.only.drew⟩
theorem CaI.cell {w wr : World} {g : Nat} {D : List Int} (h : CaI w wr g D) (k : Nat) (v : Int) : CaI w (wr.setCell ⟨g, k, none⟩ (.int .i64 v)) g (D.set k v) :=
  ⟨by rw [setCell_eq_setRow wr g k _ _ _ (.int .i64 v) h.row, tabI_set]; exact setRow_heap _ _ _ _ _ _ h.row, h.only.setCell (p := ⟨g, k, none⟩) (.inl rfl) _⟩

set_option maxHeartbeats 6400000 in
theorem rcarried_any (g : Nat) (B : Int) (D : List Int) (hD : D.length = 34) (hB : 2 ≤ B) (hB2 : B ≤ 35184372088832) (hb : Bd B D) (w : World) (hrow : w.heap[g]? = some (.cells (tabI D) 2 (0, 0))) :
    Calls Try.prog 31 #[.slice (some ⟨g, 0, none⟩) 34 34] w fun e w' => e = .returned (.slice (some ⟨g, 0, none⟩) 34 34) ∧ CaI w w' g (carryTo D 33) := by
  have HI : Hid (CaI w w g (carryTo D 0)) := Lib.hid ⟨hrow, Only.refl _ _⟩
  have HDL := Lib.hid hD
  have HB := Lib.hid hb
  have HB1 := Lib.hid hB
  have HB2 := Lib.hid hB2
  clear hrow hD hb hB hB2
  go_enter Try.func31, Try.ntmps31
  go_wp2_with fail
  go_loopw [3] (fun i wr => ∃ k : Nat, k ≤ 33 ∧ i = .int .i64 (k : Int) ∧ Hid (CaI w wr g (carryTo D k))) (fun i _ => 33 - (intOf i).toNat)
  case atStart => exact ⟨0, by omega, rfl, HI⟩
  case round =>
    clear HI
    obtain ⟨k, hk, rfl, HI⟩ := hrel
    by_cases hlt : k < 33
    · have hml : (carryTo D k).length = 34 := by rw [carryTo_len, HDL.out]
      have hst := carry_st (l := D) HB1.out HB.out k (by rw [HDL.out]; omega)
      have hbx := HB.out (k + 1)
      have hbb := HB2.out
      obtain ⟨m, hm⟩ : ∃ m, carryTo D k = m := ⟨_, rfl⟩
      obtain ⟨m2, hm2⟩ : ∃ m2, m.set (k + 1) (gI m (k + 1) + gI m k / 65536) = m2 := ⟨_, rfl⟩
      have hnx : carryTo D (k + 1) = m2.set k (gI m k % 65536) := by rw [carryTo, hm, ← hm2]; rfl
      have hg2 : gI m2 k = gI m k := by rw [← hm2, gI_set _ _ _ _ (by rw [← hm, hml]; omega), if_neg (by omega)]
      have hxb := hst.at_
      have hyb : -B ≤ gI m (k + 1) ∧ gI m (k + 1) ≤ B := by
        have h1 := hst.high (k + 1) (by omega)
        rw [hm] at h1
        rw [h1]
        exact hbx
      rw [hm] at hml hxb HI
      have HNX := Lib.hid hnx
      have hl2 : m2.length = 34 := by rw [← hm2, List.length_set]; exact hml
      have cx : wr.cell? ⟨g, k, none⟩ = some (.int .i64 (gI m k)) := by rw [cell_of_row _ _ _ _ _ _ HI.out.row, tabI_get _ _ (by omega)]
      have cy : wr.cell? ⟨g, k + 1, none⟩ = some (.int .i64 (gI m (k + 1))) := by rw [cell_of_row _ _ _ _ _ _ HI.out.row, tabI_get _ _ (by omega)]
      have fx : wr.frozen? ⟨g, k + 1, none⟩ = false := by have := HI.out.row; simp [World.frozen?, this]
      obtain ⟨x, hx⟩ : ∃ x, gI m k = x := ⟨_, rfl⟩
      obtain ⟨y, hy⟩ : ∃ y, gI m (k + 1) = y := ⟨_, rfl⟩
      obtain ⟨q, hq⟩ : ∃ q, x / 65536 = q := ⟨_, rfl⟩
      obtain ⟨r, hr⟩ : ∃ r, x % 65536 = r := ⟨_, rfl⟩
      obtain ⟨s, hs⟩ : ∃ s, y + q = s := ⟨_, rfl⟩
      rw [hx] at hxb cx hg2
      rw [hy] at hyb cy
      rw [hx, hr] at hnx
      rw [hx, hy, hq, hs] at hm2
      rw [hx, hr] at HNX
      have f1 : IntKind.i64.wrap s = s := by rw [IntKind.wrap_i64]; omega
      have f2 : bits .and .i64 x 65535 = r := by rw [i64_lo16, hr]
      have f3 : IntKind.i64.wrap ((k : Int) + 1) = (k : Int) + 1 := by rw [IntKind.wrap_i64]; omega
      have p1 : 0 ≤ (k : Int) := by omega
      have p2 : (k : Int) < 33 := by omega
      have p3 : 0 ≤ (k : Int) + 1 := by omega
      have p4 : (k : Int) + 1 < 34 := by omega
      have p5 : (k : Int) < 34 := by omega
      have e7 : decide ((k : Int) + 1 < 34) = true := decide_eq_true (by omega)
      have HI2 : Hid (CaI w (wr.drew.setCell ⟨g, k + 1, none⟩ (.int .i64 s)) g m2) := Lib.hid (by rw [← hm2]; exact (HI.out.drew).cell (k + 1) _)
      have c2 : (wr.setCell ⟨g, k + 1, none⟩ (.int .i64 s)).drew.cell? ⟨g, k, none⟩ = some (.int .i64 x) := by rw [show (wr.setCell ⟨g, k + 1, none⟩ (.int .i64 s)).drew = wr.drew.setCell ⟨g, k + 1, none⟩ (.int .i64 s) from rfl, cell_of_row _ _ _ _ _ _ HI2.out.row, tabI_get _ _ (by omega), hg2]
      have z2 : (wr.setCell ⟨g, k + 1, none⟩ (.int .i64 s)).drew.frozen? ⟨g, k, none⟩ = false := by
        have := HI2.out.row
        show (wr.drew.setCell ⟨g, k + 1, none⟩ (.int .i64 s)).frozen? ⟨g, k, none⟩ = false
        simp [World.frozen?, this]
      have HI3 : Hid (CaI w ((wr.drew.setCell ⟨g, k + 1, none⟩ (.int .i64 s)).setCell ⟨g, k, none⟩ (.int .i64 r)) g (m2.set k r)) := Lib.hid (HI2.out.cell k _)
      clear hst hm hm2 hnx hg2 hml hl2 hx hy hr HI HI2 hk hbx
      go_wp2_with fail
      refine wp_region_still_tail 14 (by kernel_rfl) (by kernel_rfl) ?_
      simp only [List.take_succ_cons, List.take_zero, List.drop_succ_cons, List.drop_zero]
      iterate 14 still_step
      refine wpStill_nil ?_
      go_wp2_with fail
      go_roundw
      case rel => exact ⟨k + 1, by omega, by go_num, by rw [HNX.out]; exact HI3⟩
      case measure => simp [intOf]; omega
    · have e7 : decide ((k : Int) + 1 < 34) = false := decide_eq_false (by omega)
      have hk33 : k = 33 := by omega
      rw [hk33] at HI
      have p4 : (k : Int) + 1 < 1000 := by omega
      have p3 : 0 ≤ (k : Int) := by omega
      clear hk33 hlt hk
      go_wp2_with fail
      go_ret
      exact ⟨rfl, HI.out⟩

set_option maxHeartbeats 1600000 in
theorem rreduce11_any (l : List UInt8) (hl : l.length = 64) (W : World) : Calls Try.prog 15 #[.agg (arrB l)] W fun e w' => e = .returned (.agg (arrB (leB 32 (leN l % LL)))) ∧ Below W.heap.size W w' := by
  have hz := fun u => zer32_zero u
  have hV : leN l < 65536 ^ 34 := by have := leN_lt l; rw [hl] at this; exact Nat.lt_trans this (by decide)
  have HDI : Hid (∀ (A : Option Addr) (W : World), Bs W A l → Calls Try.prog 29 #[.slice A 64 64] W (RetD W l)) := Lib.hid fun A W hb => by
    have h := rdigits_any A l 64 W hb (by omega)
    rwa [hl] at h
  have HMO : Hid (∀ (gd : Nat) (W : World), W.heap[gd]? = some (.cells (tabI (dgN 34 (leN l : Int))) 2 (0, 0)) → Calls Try.prog 28 #[.slice (some ⟨gd, 0, none⟩) 34 34] W fun e w' => e = .returned (.agg (arrB (leB 32 (leN l % LL)))) ∧ Below W.heap.size W w') := Lib.hid fun gd W h => rmodulo_any gd _ hV W h
  have iO : (Try.prog.info? 22).map (·.size) = some (arrB (leB 32 (leN l % LL))).size := info32 (leB_len _ _)
  have oO := arrB_one (leB 32 (leN l % LL))
  have sO : zer32.size = (arrB (leB 32 (leN l % LL))).size := by rw [zer32_size, arrB_size, leB_len]
  generalize zer32 = z32 at *
  generalize arrB (leB 32 (leN l % LL)) = OUT at *
  have h1 : ((W.alloc (.cells (arrB l) 27)).alloc (.cells z32 22)).heap[W.heap.size]? = some (.cells (arrB l) 27 (0, 0)) := heap_alloc2_old _ _ _
  have h2 : ((W.alloc (.cells (arrB l) 27)).alloc (.cells z32 22)).heap[W.heap.size + 1]? = some (.cells z32 22 (0, 0)) := heap_alloc2_new _ _ _
  obtain ⟨BB, hBB⟩ : ∃ b, arrB l = b := ⟨_, rfl⟩
  obtain ⟨W1, hW1⟩ : ∃ X, (W.alloc (.cells BB 27)).alloc (.cells z32 22) = X := ⟨_, rfl⟩
  rw [hBB, hW1] at h2
  have HBS : Hid (Bs W1 (some ⟨W.heap.size, 0, none⟩) l) := Lib.hid (by rw [← hW1, ← hBB]; exact bs_arr h1)
  have HB1 : Hid (Below W.heap.size W W1) := Lib.hid (by rw [← hW1]; exact below_al (below_al (Below.refl _ _) _) _)
  have HW1 := Lib.hid hW1
  have H2 := Lib.hid h2
  rw [hBB]
  clear hBB hW1 h1 h2 hV hl
  go_enter Try.func15, Try.ntmps15
  go_wp2_with fail
  rw [HW1.out]
  with_reducible refine (HDI.out _ _ HBS.out).mono ?_
  rintro e v1 ⟨gd, rfl, hd1, hgd, hb1⟩
  have HD1 := Lib.hid hd1
  have HB2 := Lib.hid (below_nx HB1.out hb1)
  have H3 : Hid (v1.heap[W.heap.size + 1]? = some (.cells z32 22 (0, 0))) := Lib.hid (by rw [hb1.block _ (Array.getElem?_eq_some_iff.1 H2.out).1]; exact H2.out)
  clear hd1 hgd hb1 HBS
  go_wp2_with fail
  with_reducible refine (HMO.out _ _ HD1.out).mono ?_
  rintro e v2 ⟨rfl, hb2⟩
  have hr2 : v2.heap[W.heap.size + 1]? = some (.cells z32 22 (0, 0)) := by rw [hb2.block _ (Array.getElem?_eq_some_iff.1 H3.out).1]; exact H3.out
  have HE : Hid (Below W.heap.size W (v2.setRow (W.heap.size + 1) OUT)) := Lib.hid (below_row (below_nx HB2.out hb2) (by omega))
  clear hb2
  go_wp2_with (refine wpList_store_row rfl 22 (.tmp 2) (.tmp 5) rfl (W.heap.size + 1) OUT rfl rfl 22 z32 hr2 iO sO oO ?_)
  (try simp only [Exit.inBlock, Exit.then])
  refine bodyPost_ret (results_cell_row rfl _ _ (W.heap.size + 1) _ OUT _ _ rfl (setRow_heap _ _ _ _ _ _ hr2) Try.underlying22 rfl iO) rfl ?_
  exact ⟨rfl, HE.out⟩
end Go.Proofs.Ytmmfbbbljhifjaa

