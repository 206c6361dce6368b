/- PressSchedule. -/
import Derived.Test.YtbbdiphicckpiaaLaw7Words
namespace Go.Proofs.Ytbbdiphicckpiaa
open Go.RowKit
set_option linter.unusedVariables false
set_option maxRecDepth 100000

/-- sixteen words from a on, behind k rounds -/
def midTo (m : List W64) (a k : Nat) : List W64 := (List.range 16).map fun i => if i < k then wG (sch m 80) (a + i) else 0
theorem midTo_len (m : List W64) (a k : Nat) : (midTo m a k).length = 16 := by simp [midTo]
theorem midTo_zero (m : List W64) (a : Nat) : midTo m a 0 = List.replicate 16 0 := rfl
theorem midTo_set (m : List W64) (a : Nat) {k : Nat} (h : k < 16) : (midTo m a k).set k (wG (sch m 80) (a + k)) = midTo m a (k + 1) := by
  apply List.ext_getElem (by simp [midTo])
  intro i h1 h2
  rw [List.getElem_set]
  by_cases e : k = i
  · subst e; simp [midTo]
  · rw [if_neg e]
    simp only [midTo, List.getElem_map, List.getElem_range]
    by_cases g : i < k
    · rw [if_pos g, if_pos (by omega)]
    · rw [if_neg g, if_neg (by omega)]
theorem midTo_get (m : List W64) (a : Nat) {i : Nat} (h : i < 16) : wG (midTo m a 16) i = wG (sch m 80) (a + i) := by
  simp [midTo, wG, h]

set_option maxHeartbeats 1600000 in
theorem law7Schedule (P : PressC) (m : List W64) (hm : m.length = 16) (n : Int) (n1 : -9223372036854775808 ≤ n) (n2 : n ≤ 9223372036854775807) (w : World) :
    Calls Try.prog 7 #[.agg (tabW m), .int .i64 n] w fun e w' => e = .returned (.bool true) ∧ Below w.heap.size w w' := by
  have HA : Hid (∀ W : World, Calls Try.prog 8 #[] W fun e w' => e = .returned (.bool true) ∧ Below W.heap.size W w') := Lib.hid (fun W => alive7_any P W)
  obtain ⟨M, hM⟩ : ∃ t, tabW m = t := ⟨_, rfl⟩
  obtain ⟨WW, hWW⟩ : ∃ t, tabW (sch m 80) = t := ⟨_, rfl⟩
  have HSCH : Hid (∀ W : World, Calls Try.prog 11 #[.agg M] W fun e w' => e = .returned (.agg WW) ∧ Below W.heap.size W w') := Lib.hid (by rw [← hM, ← hWW]; exact P.schedule m hm)
  have nM : M.size = 16 := by rw [← hM, tabW_size, hm]
  have nW : WW.size = 80 := by rw [← hWW, tabW_size, sch_len]
  have iM : (Try.prog.info? 24).map (·.size) = some M.size := by rw [nM]; kernel_rfl
  have iW : (Try.prog.info? 27).map (·.size) = some WW.size := by rw [nW]; kernel_rfl
  have oW : WW.all (·.oneCell') = true := by rw [← hWW]; exact tabW_one _
  have hz16 := fun u => zero_tabW 24 16 (by kernel_rfl) u
  have hz80 := fun u => zero_tabW 27 80 (by kernel_rfl) u
  obtain ⟨z16, hz16e⟩ : ∃ t, tabW (List.replicate 16 0) = t := ⟨_, rfl⟩
  obtain ⟨z80, hz80e⟩ : ∃ t, tabW (List.replicate 80 0) = t := ⟨_, rfl⟩
  rw [hz16e] at hz16
  rw [hz80e] at hz80
  have n16 : z16.size = 16 := by rw [← hz16e, tabW_size]; simp
  have zW : z80.size = WW.size := by rw [nW, ← hz80e, tabW_size]; simp
  have i16 : (Try.prog.info? 24).map (·.size) = some z16.size := by rw [n16]; kernel_rfl
  have o16 : z16.all (·.oneCell') = true := by rw [← hz16e]; exact tabW_one _
  have HWW := Lib.hid hWW
  have HZ := Lib.hid hz16e
  rw [hM]
  have a0 : (w.alloc (.cells M 24)).heap[w.heap.size]? = some (.cells M 24 (0, 0)) := heap_alloc_new _ _
  have A0 := Lib.hid a0
  have AB := Lib.hid (below_alloc (Below.refl w.heap.size w) (.cells M 24))
  clear hM hWW hz16e hz80e a0 nM
  go_enter Try.func7, Try.ntmps7
  go_wp2_with fail
  with_reducible refine (HA.out _).mono ?_
  rintro e w1 ⟨rfl, hb1⟩
  have HB1 := Lib.hid (below_next AB.out hb1)
  have hs1 : w.heap.size + 1 ≤ w1.heap.size := by have := hb1.size; simpa using this
  have c0 := hb1.block w.heap.size (by simp)
  rw [A0.out] at c0
  clear hb1 HA A0 AB
  have HS1 := Lib.hid hs1
  clear hs1
  go_wp2_with (refine wpList_load_row rfl 24 (.tmp 2) rfl w.heap.size rfl 24 M (0, 0) _ c0 Try.underlying24 rfl iM ?_)
  with_reducible refine (HSCH.out _).mono ?_
  rintro e w2 ⟨rfl, hb2⟩
  have HB2 := Lib.hid (below_next HB1.out hb2)
  have h0 : (w2.alloc (.cells z80 27)).heap[w2.heap.size]? = some (.cells z80 27 (0, 0)) := heap_alloc_new _ _
  have HB3 := Lib.hid (below_setRow (cs := WW) (g := w2.heap.size) (below_alloc HB2.out (.cells z80 27)) HB2.out.size)
  clear hb2 c0 HB1 HS1
  by_cases hn : n < 0
  · have d1 : decide (n < 0) = true := decide_eq_true hn
    go_wp2_with (refine wpList_store_row rfl 27 (.tmp 6) (.tmp 13) rfl w2.heap.size WW rfl rfl 27 z80 h0 iW zW oW ?_)
    go_ret
    exact ⟨rfl, HB3.out⟩
  · have d1 : decide (n < 0) = false := decide_eq_false hn
    by_cases hn2 : 63 < n
    · have d2 : decide (63 < n) = true := decide_eq_true hn2
      go_wp2_with (refine wpList_store_row rfl 27 (.tmp 6) (.tmp 13) rfl w2.heap.size WW rfl rfl 27 z80 h0 iW zW oW ?_)
      go_ret
      exact ⟨rfl, HB3.out⟩
    · have d2 : decide (63 < n) = false := decide_eq_false hn2
      obtain ⟨a, rfl⟩ := Int.eq_ofNat_of_zero_le (show 0 ≤ n by omega)
      have ha : a ≤ 63 := by omega
      have h1 : (((w2.alloc (.cells z80 27)).setRow w2.heap.size WW).alloc (.cells z16 24)).heap[w2.heap.size + 1]? = some (.cells z16 24 (0, 0)) := by
        have := heap_alloc_new ((w2.alloc (.cells z80 27)).setRow w2.heap.size WW) (.cells z16 24)
        simpa using this
      go_wp2_with (first
        | (refine wpList_store_row rfl 27 (.tmp 6) (.tmp 13) rfl w2.heap.size WW rfl rfl 27 z80 h0 iW zW oW ?_)
        | (refine wpList_store_row rfl 24 (.tmp 7) (.tmp 25) rfl (w2.heap.size + 1) z16 rfl rfl 24 z16 h1 i16 rfl o16 ?_))
      have HI : Hid ((((((w2.alloc (.cells z80 27)).setRow w2.heap.size WW).alloc (.cells z16 24)).setRow (w2.heap.size + 1) z16).heap[w2.heap.size]? = some (.cells WW 27 (0, 0))) ∧
          ((((w2.alloc (.cells z80 27)).setRow w2.heap.size WW).alloc (.cells z16 24)).setRow (w2.heap.size + 1) z16).heap[w2.heap.size + 1]? = some (.cells z16 24 (0, 0)) ∧
          Below w.heap.size w ((((w2.alloc (.cells z80 27)).setRow w2.heap.size WW).alloc (.cells z16 24)).setRow (w2.heap.size + 1) z16)) := by
        refine Lib.hid ⟨?_, setRow_heap _ _ _ _ _ _ h1, below_setRow (below_alloc HB3.out _) (by have := HB2.out.size; omega)⟩
        rw [setRow_other _ _ _ _ (by omega), heap_alloc_old _ _ (by simp)]
        exact setRow_heap _ _ _ _ _ _ h0
      have HS2 := Lib.hid HB2.out.size
      obtain ⟨W4, hW4⟩ : ∃ W, (((w2.alloc (.cells z80 27)).setRow w2.heap.size WW).alloc (.cells z16 24)).setRow (w2.heap.size + 1) z16 = W := ⟨_, rfl⟩
      obtain ⟨gW, hgW⟩ : ∃ g, w2.heap.size = g := ⟨_, rfl⟩
      rw [hW4, hgW] at HI
      rw [hgW] at HS2
      rw [hW4, hgW]
      rw [← HZ.out, ← midTo_zero m a] at HI
      clear h0 h1 HB2 HB3 hW4 hgW hn hn2 n1 n2
      go_loopw [8] (fun i wr => ∃ k : Nat, k ≤ 16 ∧ i = .int .i64 (k : Int) ∧ Hid (wr.heap[gW]? = some (.cells WW 27 (0, 0)) ∧ wr.heap[gW + 1]? = some (.cells (tabW (midTo m a k)) 24 (0, 0)) ∧ Below w.heap.size w wr)) (fun i _ => 16 - (intOf i).toNat)
      case atStart => exact ⟨0, by omega, rfl, HI⟩
      case round =>
        clear HI
        obtain ⟨k, hk, rfl, HI⟩ := hrel
        by_cases hlt : k < 16
        · obtain ⟨t, ht⟩ : ∃ t, a + k = t := ⟨_, rfl⟩
          have htl : t < 80 := by omega
          have c0 : wr.cell? ⟨gW, t, none⟩ = some (.int .u64 ((wG (sch m 80) t).toNat : Int)) := by rw [cell_of_row _ _ _ _ _ _ HI.out.1, ← HWW.out, tabW_get _ _ (by rw [sch_len]; exact htl)]
          have c1 : wr.cell? ⟨gW + 1, k, none⟩ = some (.int .u64 ((wG (midTo m a k) k).toNat : Int)) := by rw [cell_of_row _ _ _ _ _ _ HI.out.2.1, tabW_get _ _ (by rw [midTo_len]; exact hlt)]
          have hfz : wr.frozen? ⟨gW + 1, k, none⟩ = false := by have := HI.out.2.1; simp [World.frozen?, this]
          have hset := midTo_set m a hlt
          rw [ht] at hset
          generalize wG (sch m 80) t = x at *
          have HI2 : Hid ((wr.setCell ⟨gW + 1, k, none⟩ (.int .u64 (x.toNat : Int))).heap[gW]? = some (.cells WW 27 (0, 0)) ∧ (wr.setCell ⟨gW + 1, k, none⟩ (.int .u64 (x.toNat : Int))).heap[gW + 1]? = some (.cells (tabW (midTo m a (k + 1))) 24 (0, 0)) ∧ Below w.heap.size w (wr.setCell ⟨gW + 1, k, none⟩ (.int .u64 (x.toNat : Int)))) := by
            have e := setCell_eq_setRow wr (gW + 1) k _ _ _ (.int .u64 (x.toNat : Int)) HI.out.2.1
            rw [e, tabW_set, hset]
            refine Lib.hid ⟨?_, setRow_heap _ _ _ _ _ _ HI.out.2.1, below_setRow HI.out.2.2 (by have := HS2.out; omega)⟩
            rw [setRow_other _ _ _ _ (by omega)]; exact HI.out.1
          have t1 : (a : Int) + (k : Int) = (t : Int) := by omega
          have t2 : IntKind.i64.wrap (t : Int) = (t : Int) := by rw [IntKind.wrap_i64]; omega
          clear hset HI ht
          go_wp2_with fail
          go_roundw
          case rel => exact ⟨k + 1, by omega, by go_num, HI2⟩
          case measure => simp [intOf]; omega
        · have hk16 : k = 16 := by omega
          rw [hk16] at HI
          have hge : ¬ (k : Int) < 16 := by omega
          obtain ⟨N, hN⟩ : ∃ N, tabW (midTo m a 16) = N := ⟨_, rfl⟩
          obtain ⟨VV, hVV⟩ : ∃ V, tabW (sch (midTo m a 16) 80) = V := ⟨_, rfl⟩
          have HSC2 : Hid (∀ W : World, Calls Try.prog 11 #[.agg N] W fun e w' => e = .returned (.agg VV) ∧ Below W.heap.size W w') := Lib.hid (by rw [← hN, ← hVV]; exact P.schedule _ (midTo_len m a 16))
          have hl0 := HI.out.2.1
          rw [hN] at hl0
          have nN : N.size = 16 := by rw [← hN, tabW_size, midTo_len]
          have nV : VV.size = 80 := by rw [← hVV, tabW_size, sch_len]
          have iN : (Try.prog.info? 24).map (·.size) = some N.size := by rw [nN]; kernel_rfl
          have iV : (Try.prog.info? 27).map (·.size) = some VV.size := by rw [nV]; kernel_rfl
          have zV : z80.size = VV.size := by rw [nV, zW, nW]
          have oV : VV.all (·.oneCell') = true := by rw [← hVV]; exact tabW_one _
          have HVV := Lib.hid hVV
          have HB := Lib.hid HI.out.2.2
          have HW0 := Lib.hid HI.out.1
          have HSW : Hid (gW < wr.heap.size) := Lib.hid (Array.getElem?_eq_some_iff.1 HI.out.1).1
          clear hN hVV HI nN nV hk16
          go_wp2_with (refine wpList_load_row rfl 24 (.tmp 7) rfl (gW + 1) rfl 24 N (0, 0) _ hl0 Try.underlying24 rfl iN ?_)
          with_reducible refine (HSC2.out _).mono ?_
          rintro e w3 ⟨rfl, hb3⟩
          have HB3 := Lib.hid (below_next HB.out hb3)
          have c0 := hb3.block gW HSW.out
          rw [HW0.out] at c0
          have hs3 : gW < w3.heap.size := by have := hb3.size; have := HSW.out; omega
          have h0 : (w3.alloc (.cells z80 27)).heap[w3.heap.size]? = some (.cells z80 27 (0, 0)) := heap_alloc_new _ _
          have HI : Hid (((w3.alloc (.cells z80 27)).setRow w3.heap.size VV).heap[gW]? = some (.cells WW 27 (0, 0)) ∧ ((w3.alloc (.cells z80 27)).setRow w3.heap.size VV).heap[w3.heap.size]? = some (.cells VV 27 (0, 0)) ∧
              Below w.heap.size w ((w3.alloc (.cells z80 27)).setRow w3.heap.size VV)) := by
            refine Lib.hid ⟨?_, setRow_heap _ _ _ _ _ _ h0, below_setRow (below_alloc HB3.out _) HB3.out.size⟩
            rw [setRow_other _ _ _ _ (by omega), heap_alloc_old _ _ hs3]
            exact c0
          clear hb3 c0 hs3 hl0 HB HW0 HSW HSC2
          go_wp2_with (refine wpList_store_row rfl 27 (.tmp 9) (.tmp 38) rfl w3.heap.size VV rfl rfl 27 z80 h0 iV zV oV ?_)
          obtain ⟨W5, hW5⟩ : ∃ W, (w3.alloc (.cells z80 27)).setRow w3.heap.size VV = W := ⟨_, rfl⟩
          obtain ⟨gV, hgV⟩ : ∃ g, w3.heap.size = g := ⟨_, rfl⟩
          rw [hW5, hgV] at HI
          rw [hW5, hgV]
          obtain ⟨q, hq⟩ : ∃ q, 80 - a = q := ⟨_, rfl⟩
          have q1 : 80 - (a : Int) = (q : Int) := by omega
          have q2 : IntKind.i64.wrap (q : Int) = (q : Int) := by rw [IntKind.wrap_i64]; omega
          have HQ := Lib.hid hq
          clear h0 HB3 hW5 hgV hq
          go_loopw [10] (fun i wr => ∃ j : Nat, j ≤ q ∧ i = .int .i64 (j : Int) ∧ Hid (wr.heap[gW]? = some (.cells WW 27 (0, 0)) ∧ wr.heap[gV]? = some (.cells VV 27 (0, 0)) ∧ Below w.heap.size w wr)) (fun i _ => q - (intOf i).toNat)
          case atStart => exact ⟨0, by omega, rfl, HI⟩
          case round =>
            clear HI
            obtain ⟨j, hj, rfl, HI⟩ := hrel
            by_cases hjq : j < q
            · obtain ⟨t, ht⟩ : ∃ t, a + j = t := ⟨_, rfl⟩
              have htl : t < 80 := by have := HQ.out; omega
              have hjl : j < 80 := by have := HQ.out; omega
              have c0 : wr.cell? ⟨gW, t, none⟩ = some (.int .u64 ((wG (sch m 80) t).toNat : Int)) := by rw [cell_of_row _ _ _ _ _ _ HI.out.1, ← HWW.out, tabW_get _ _ (by rw [sch_len]; exact htl)]
              have c1 : wr.cell? ⟨gV, j, none⟩ = some (.int .u64 ((wG (sch m 80) t).toNat : Int)) := by
                rw [cell_of_row _ _ _ _ _ _ HI.out.2.1, ← HVV.out, tabW_get _ _ (by rw [sch_len]; exact hjl), sch_shift m (midTo m a 16) a (by omega) (fun i hi => midTo_get m a hi) j (by omega), ht]
              generalize (wG (sch m 80) t).toNat = x at *
              have t1 : (a : Int) + (j : Int) = (t : Int) := by omega
              have t2 : IntKind.i64.wrap (t : Int) = (t : Int) := by rw [IntKind.wrap_i64]; omega
              have t3 : (t : Int) < 80 := by omega
              have t4 : 0 ≤ (t : Int) := by omega
              have t5 : (j : Int) < 80 := by omega
              have t6 : 0 ≤ (j : Int) := by omega
              have hjq' : (j : Int) < (q : Int) := by omega
              have HI2 : Hid ((wr.drew).heap[gW]? = some (.cells WW 27 (0, 0)) ∧ (wr.drew).heap[gV]? = some (.cells VV 27 (0, 0)) ∧ Below w.heap.size w (wr.drew)) := Lib.hid ⟨HI.out.1, HI.out.2.1, below_drewN' HI.out.2.2 1⟩
              clear HI ht
              go_wp2_with fail
              refine wp_region_still_tail 8 (by kernel_rfl) (by kernel_rfl) ?_
              simp only [List.take_succ_cons, List.take_zero, List.drop_succ_cons, List.drop_zero]
              iterate 8 still_step
              refine wpStill_nil ?_
              go_wp2_with fail
              go_roundw
              case rel => exact ⟨j + 1, by omega, by go_num, HI2⟩
              case measure => simp [intOf]; omega
            · have hjq' : ¬ (j : Int) < (q : Int) := by omega
              go_wp2_with fail
              go_ret
              exact ⟨rfl, HI.out.2.2⟩
end Go.Proofs.Ytbbdiphicckpiaa

