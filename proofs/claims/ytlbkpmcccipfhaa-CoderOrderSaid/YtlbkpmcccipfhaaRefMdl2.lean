/- The contracts of the reference's Turn and NewTree. -/
import Derived.Test.YtlbkpmcccipfhaaRefMdl
namespace Go.Proofs.Ytlbkpmcccipfhaa
open Go.RowKit
set_option linter.unusedVariables false
set_option maxRecDepth 100000

set_option maxHeartbeats 1600000 in
theorem rturn15_any {W : World} {g r : Nat} {t : Tm} (h : RTr W g r t) (n bit : Int) : Calls Try.prog 34 #[.pointer (some ⟨g, 0, none⟩), .int .i64 n, .int .i64 bit] W
    fun e w' => e = .returned (.tuple #[]) ∧ RTr w' g r (t.turn n bit) ∧ Only (fun j => j = r) W w' := by
  have c1 : W.cell? ⟨g, 1, none⟩ = some (.slice (some ⟨r, 0, none⟩) (2 ^ t.bits) (2 ^ t.bits)) := by rw [cell_of_row _ _ _ _ _ _ h.top]; rfl
  obtain ⟨m, hm⟩ : ∃ m, 2 ^ t.bits = m := ⟨_, rfl⟩
  rw [hm] at c1
  by_cases h1 : 1 ≤ n
  · have d0 : decide (1 ≤ n) = true := decide_eq_true h1
    by_cases h2 : n < (m : Int)
    · have d1 : decide (n < (m : Int)) = true := decide_eq_true h2
      obtain ⟨i, rfl⟩ : ∃ i : Nat, n = (i : Int) := ⟨n.toNat, by omega⟩
      have hi : t.is (i : Int) := ⟨h1, by rw [hm]; exact h2⟩
      have cx := h.cell (i := i) (by omega) (by rw [hm]; omega)
      have fx : W.frozen? ⟨r, i, none⟩ = false := by have := h.row; simp [World.frozen?, this]
      have hp1 := h.ok.lo i
      have hp2 := h.ok.hi i
      have hrow := Tm.row_turn (t := t) (i : Int) bit hi
      rw [Int.toNat_natCast] at hrow
      have HA : Hid (∀ w : World, Calls Try.prog 32 #[.int .i64 (t.p i : Int), .int .i64 bit] w fun e w' => e = .returned (.int .i64 (adN (t.p i) (decide (bit = 0)) : Int)) ∧ w' = w) := Lib.hid fun w => by
        have := radapt15_any (t.p i : Int) bit w
        unfold adI at this
        rwa [holdI_id hp1 hp2] at this
      obtain ⟨v, hv⟩ : ∃ v, adN (t.p i) (decide (bit = 0)) = v := ⟨_, rfl⟩
      rw [hv] at HA hrow
      have HE : Hid (RTr (W.drew.setCell ⟨r, i, none⟩ (.int .i64 (v : Int))) g r (t.turn (i : Int) bit) ∧ Only (fun j => j = r) W (W.drew.setCell ⟨r, i, none⟩ (.int .i64 (v : Int)))) := Lib.hid (by
        have e := setCell_eq_setRow W.drew r i _ _ _ (.int .i64 (v : Int)) h.row
        refine ⟨⟨Tm.turn_ok h.ok _ _, h.ne, ?_, ?_⟩, (Only.refl (fun j => j = r) W).drew.setCell (p := ⟨r, i, none⟩) (.inl rfl) _⟩
        · rw [e, setRow_other _ _ _ _ h.ne, Tm.turn_bits]; exact h.top
        · rw [e, setRow_heap W.drew _ _ _ _ _ h.row, tabI_set, hrow])
      have b1 : 0 ≤ (i : Int) := by omega
      generalize t.p i = q at *
      clear h hm hi hp1 hp2 hrow hv h1
      go_enter Try.func34, Try.ntmps34
      go_wp2_with fail
      refine wp_region_still_tail 15 (by kernel_rfl) (by kernel_rfl) ?_
      simp only [List.take_succ_cons, List.take_zero, List.drop_succ_cons, List.drop_zero]
      iterate 13 still_step
      still_call (HA.out _)
      still_step
      refine wpStill_nil ?_
      go_wp2_with fail
      refine bodyPost_end (results_none rfl _ _ _) rfl ?_
      exact ⟨rfl, HE.out.1, HE.out.2⟩
    · have d1 : decide (n < (m : Int)) = false := decide_eq_false h2
      have e : t.turn n bit = t := by unfold Tm.turn; rw [if_neg (fun hi => h2 (by have := hi.2; rwa [hm] at this))]
      rw [e]
      have HE := Lib.hid h
      clear h hm
      go_enter Try.func34, Try.ntmps34
      go_wp2_with fail
      refine bodyPost_end (results_none rfl _ _ _) rfl ?_
      exact ⟨rfl, HE.out, Only.refl _ _⟩
  · have d0 : decide (1 ≤ n) = false := decide_eq_false h1
    have e : t.turn n bit = t := by unfold Tm.turn; rw [if_neg (fun hi => h1 hi.1)]
    rw [e]
    have HE := Lib.hid h
    clear h hm
    go_enter Try.func34, Try.ntmps34
    go_wp2_with fail
    refine bodyPost_end (results_none rfl _ _ _) rfl ?_
    exact ⟨rfl, HE.out, Only.refl _ _⟩

theorem make_intsM (k : Nat) (hk : k ≤ 2147483648) (u : World) : (Instr.makeSlice 46 (.int .i64 (k : Int)) (.int .i64 (k : Int))).run Try.prog u =
      .ok (.slice (some ⟨u.heap.size, 0, none⟩) k k) (u.alloc (.cells (madeCells #[.int .i64 0] k) 3)) := by
  have info : (Try.prog.info? 3).map (fun i => (i.zero, i.size, i.bytes)) = some (some (.int .i64 0), 1, 8) := by kernel_rfl
  obtain ⟨i0, hi, hz0, hz1, hz2⟩ := info_parts info
  have h := run_make (P := Try.prog) u 46 3 i0 (.int .i64 0) Try.underlying46 hi hz0 .i64 .i64 (k : Int) (k : Int) (by omega) (Int.le_refl _) (by rw [hz2]; omega) (by omega)
  simpa [hz1, Value.cells] using h
theorem madeI (k : Nat) : madeCells #[.int .i64 0] k = tabI (List.replicate k 0) := by
  apply Array.toList_inj.1
  rw [toList_madeCells_one]
  simp [tabI, List.map_replicate]
/-- the first nodes laid -/
def newRow (n k : Nat) : List Int := (List.range n).map fun i => if 1 ≤ i ∧ i < k then 1024 else 0
theorem newRow_len (n k : Nat) : (newRow n k).length = n := by simp [newRow]
theorem newRow_one (n : Nat) : newRow n 1 = List.replicate n 0 := by
  apply List.ext_getElem (by simp [newRow])
  intro i h1 h2
  simp [newRow]
  omega
theorem newRow_set (n k : Nat) (h1 : 1 ≤ k) (h2 : k < n) : (newRow n k).set k 1024 = newRow n (k + 1) := by
  apply List.ext_getElem (by rw [List.length_set, newRow_len, newRow_len])
  intro i h3 h4
  rw [List.getElem_set]
  by_cases e : k = i
  · subst e; simp [newRow]; omega
  · rw [if_neg e]; simp only [newRow, List.getElem_map, List.getElem_range]
    by_cases hh : 1 ≤ i ∧ i < k
    · rw [if_pos hh, if_pos (by omega)]
    · rw [if_neg hh, if_neg (by omega)]
theorem newRow_end (b : Int) : newRow (2 ^ capT b) (2 ^ capT b) = (Tm.new b).row := by
  apply List.ext_getElem (by rw [newRow_len, Tm.row_len]; rfl)
  intro i h1 h2
  rw [newRow_len] at h1
  simp only [newRow, Tm.row, List.getElem_map, List.getElem_range]
  by_cases e : i = 0
  · subst e; simp
  · rw [if_pos (by omega), if_neg e]; rfl

set_option maxHeartbeats 1600000 in
theorem rnewtree_any (b : Int) (w : World) : Calls Try.prog 12 #[.int .i64 b] w
    fun e w' => e = .returned (.pointer (some ⟨w.heap.size, 0, none⟩)) ∧ RTr w' w.heap.size (w.heap.size + 1) (Tm.new b) ∧ Below w.heap.size w w' := by
  have hc := cap_any b 1 8
  have e : (if b < 1 then (1 : Int) else if 8 < b then 8 else b) = (capT b : Int) := by unfold capT; split <;> (try split) <;> omega
  rw [e] at hc
  have HC := Lib.hid hc
  have hend := newRow_end b
  have h1 := capT_lo b
  have h2 := capT_hi b
  have hok := Tm.new_ok b
  have hbits : (Tm.new b).bits = capT b := rfl
  obtain ⟨q, hq⟩ : ∃ q, capT b = q := ⟨_, rfl⟩
  obtain ⟨t, ht⟩ : ∃ t, Tm.new b = t := ⟨_, rfl⟩
  rw [hq] at HC hend h1 h2 hbits
  rw [ht] at hend hok hbits ⊢
  obtain ⟨n, hn⟩ : ∃ n, 2 ^ q = n := ⟨_, rfl⟩
  have hn2 : 2 ≤ n := by rw [← hn]; exact Nat.pow_le_pow_right (n := 2) (by decide) h1
  have hn8 : n ≤ 256 := by rw [← hn]; exact Nat.pow_le_pow_right (n := 2) (by decide) h2
  rw [hn] at hend
  have f1 : IntKind.u64.wrap (q : Int) = (q : Int) := by rw [IntKind.wrap_u64]; omega
  have f2 : wrap64 (2 ^ min q 64) = (n : Int) := by
    have h8 : q = 1 ∨ q = 2 ∨ q = 3 ∨ q = 4 ∨ q = 5 ∨ q = 6 ∨ q = 7 ∨ q = 8 := by omega
    rw [← hn]
    rcases h8 with rfl | rfl | rfl | rfl | rfl | rfl | rfl | rfl <;> decide +kernel
  have f0 : (0 : Int) ≤ (q : Int) := by omega
  have hmk : ∀ u : World, (Instr.makeSlice 46 (.int .i64 (n : Int)) (.int .i64 (n : Int))).run Try.prog u = .ok (.slice (some ⟨u.heap.size, 0, none⟩) n n) (u.alloc (.cells (tabI (newRow n 1)) 3)) := fun u => by
    rw [newRow_one, ← madeI]; exact make_intsM n (by omega) u
  have HEND := Lib.hid hend
  have HOK := Lib.hid hok
  have HBI : Hid (t.bits = q) := Lib.hid hbits
  have HNN : Hid (2 ^ q = n) := Lib.hid hn
  obtain ⟨R1, hR1⟩ : ∃ R, tabI (newRow n 1) = R := ⟨_, rfl⟩
  rw [hR1] at hmk
  have HR1 := Lib.hid hR1
  have hr0 : Hid (RowsW ((w.alloc (.cells #[.int .i64 (q : Int), .slice (some ⟨w.heap.size + 1, 0, none⟩) n n] 63)).alloc (.cells R1 3)) [(w.heap.size + 1, R1, 3), (w.heap.size, #[.int .i64 (q : Int), .slice (some ⟨w.heap.size + 1, 0, none⟩) n n], 63)]) := Lib.hid (by
    have h := ((RowsW.nil w).box #[.int .i64 (q : Int), .slice (some ⟨w.heap.size + 1, 0, none⟩) n n] 63).box R1 3
    simp only [World.size_alloc] at h
    exact h)
  have hb0 : Hid (Below w.heap.size w ((w.alloc (.cells #[.int .i64 (q : Int), .slice (some ⟨w.heap.size + 1, 0, none⟩) n n] 63)).alloc (.cells R1 3))) := Lib.hid (((Below.refl _ _).alloc (Nat.le_refl _) _).alloc (by simp) _)
  clear hc e hend hok hbits hq ht hn h1 h2 hR1
  go_enter Try.func12, Try.ntmps12
  go_wp2_with fail
  with_reducible refine (HC.out _).mono ?_
  rintro e w' ⟨rfl, rfl⟩
  go_wp2_with fail
  obtain ⟨W1, hW1⟩ : ∃ W, ((w'.alloc (.cells #[.int .i64 (q : Int), .slice (some ⟨w'.heap.size + 1, 0, none⟩) n n] 63)).alloc (.cells R1 3)) = W := ⟨_, rfl⟩
  obtain ⟨g, hg⟩ : ∃ g, w'.heap.size = g := ⟨_, rfl⟩
  rw [hW1] at hr0 hb0
  rw [hg] at hr0 
  rw [hW1, hg]
  have HG := Lib.hid hg
  clear hW1 hg hmk
  have HI : Hid (Lp w' W1 (g + 1) (tabI (newRow n 1)) 3 [(g, #[.int .i64 (q : Int), .slice (some ⟨g + 1, 0, none⟩) n n], 63)]) := Lib.hid ⟨by rw [HR1.out]; exact hr0.out, by rw [HG.out]; omega, by simp, hb0.out⟩
  clear hr0 hb0 HR1
  go_loopw [4] (fun i_ wr => ∃ k : Nat, 1 ≤ k ∧ k ≤ n ∧ i_ = .int .i64 (k : Int) ∧ Hid (Lp w' wr (g + 1) (tabI (newRow n k)) 3 [(g, #[.int .i64 (q : Int), .slice (some ⟨g + 1, 0, none⟩) n n], 63)])) (fun i_ _ => n - (intOf i_).toNat)
  case atStart => exact ⟨1, by omega, by omega, rfl, HI⟩
  case round =>
    clear HI
    obtain ⟨k, hk1, hk, rfl, HI⟩ := hrel
    have c1 : wr.cell? ⟨g, 1, none⟩ = some (.slice (some ⟨g + 1, 0, none⟩) n n) := by rw [cell_of_row _ _ _ _ _ _ HI.out.rows.tail.head]; rfl
    by_cases hlt : k < n
    · have cx : wr.cell? ⟨g + 1, k, none⟩ = some (.int .i64 (gI (newRow n k) k)) := by rw [cell_of_row _ _ _ _ _ _ HI.out.rows.head, tabI_get _ _ (by rw [newRow_len]; exact hlt)]
      have fx := HI.out.fz k
      have HI2 : Hid (Lp w' (wr.setCell ⟨g + 1, k, none⟩ (.int .i64 1024)) (g + 1) (tabI (newRow n (k + 1))) 3 [(g, #[.int .i64 (q : Int), .slice (some ⟨g + 1, 0, none⟩) n n], 63)]) := Lib.hid (by
        rw [← newRow_set n k hk1 hlt, ← tabI_set]; exact HI.out.set k _)
      have d1 : decide ((k : Int) < (n : Int)) = true := decide_eq_true (by omega)
      have b1 : 0 ≤ (k : Int) := by omega
      have b2 : (k : Int) < (n : Int) := by omega
      generalize gI (newRow n k) k = old at *
      have HK := Lib.hid hk1
      clear HI hk1
      go_wp2_with fail
      go_roundw
      case rel => exact ⟨k + 1, by omega, by omega, by go_num, HI2⟩
      case measure => simp [intOf]; omega
    · have hkn : k = n := by omega
      have d1 : decide ((k : Int) < (n : Int)) = false := decide_eq_false (by omega)
      rw [hkn, HEND.out] at HI
      have HE : Hid (RTr wr g (g + 1) t ∧ Below w'.heap.size w' wr) := Lib.hid ⟨⟨HOK.out, by omega, by rw [HBI.out, HNN.out]; exact HI.out.rows.tail.head, HI.out.rows.head⟩, HI.out.below⟩
      clear HI hlt hk1
      go_wp2_with fail
      go_ret
      rw [HG.out]
      exact ⟨rfl, HE.out.1, by have := HE.out.2; rwa [HG.out] at this⟩
end Go.Proofs.Ytlbkpmcccipfhaa

