/- The landed package model: Turn and New; all of it together. -/
import Derived.Test.YtlbkpmcccipfhaaMod15
namespace Go.Proofs.Ytlbkpmcccipfhaa
open Go.RowKit
set_option linter.unusedVariables false
set_option maxRecDepth 100000

set_option maxHeartbeats 1600000 in
theorem pturn_any {W : World} {g r : Nat} {t : Tm} (h : HTr W g r t) (n bit : Int) : Calls Try.prog 24 #[.pointer (some ⟨g, 0, none⟩), .int .i64 n, .int .i64 bit] W
    fun e w' => e = .returned (.tuple #[]) ∧ HTr w' g r (t.turn n bit) ∧ Only (fun j => j = g ∨ j = r) W w' := by
  have HH := Lib.hid (phas_any h n)
  have c1 : W.cell? ⟨g, 0, none⟩ = some (.slice (some ⟨r, 0, none⟩) (2 ^ t.bits) (2 ^ t.bits)) := by rw [cell_of_row _ _ _ _ _ _ h.top]; rfl
  obtain ⟨m, hm⟩ : ∃ m, 2 ^ t.bits = m := ⟨_, rfl⟩
  rw [hm] at c1
  by_cases hi : t.is n
  · rw [decide_eq_true hi] at HH
    have h1 := hi.1
    have h2 := hi.2
    rw [hm] at h2
    obtain ⟨i, rfl⟩ : ∃ i : Nat, n = (i : Int) := ⟨n.toNat, by omega⟩
    have cx := h.cell (i := i) (by rw [hm]; omega)
    have fx : W.frozen? ⟨r, i, none⟩ = false := by have := h.row; simp [World.frozen?, this]
    have e := Tm.at_in h.ok (n := i) (by omega) (by rw [hm]; omega)
    have hp1 := h.ok.lo i
    have hp2 := h.ok.hi i
    have hrow := Tm.rowH_turn (t := t) (i : Int) bit hi
    rw [Int.toNat_natCast] at hrow
    have hat : ∀ {W' : World}, Below W.heap.size W W' → Calls Try.prog 20 #[.pointer (some ⟨g, 0, none⟩), .int .i64 (i : Int)] W' fun e w' => e = .returned (.int .i64 (t.p i : Int)) ∧ w' = W' := fun hb => by
      have := pat_any (h.below hb) (i : Int)
      rwa [e] at this
    have HP := Lib.hid (hat (Below.refl _ W).drew)
    have HA : Hid (∀ w : World, Calls Try.prog 23 #[.int .i64 (t.p i : Int), .int .i64 bit] w fun e w' => e = .returned (.int .i64 (adN (t.p i) (decide (bit = 0)) : Int)) ∧ w' = w) := Lib.hid fun w => by
      have := padapt_any (t.p i : Int) bit w
      unfold adI at this
      rwa [holdI_id hp1 hp2] at this
    have hv2 := adN_hi (decide (bit = 0)) hp1 hp2
    obtain ⟨v, hv⟩ : ∃ v, adN (t.p i) (decide (bit = 0)) = v := ⟨_, rfl⟩
    rw [hv] at HA hrow hv2
    have f1 : IntKind.u16.wrap (v : Int) = (v : Int) := by rw [IntKind.wrap_u16]; omega
    have HE : Hid (HTr (W.drew.setCell ⟨r, i, none⟩ (.int .u16 (v : Int))) g r (t.turn (i : Int) bit) ∧ Only (fun j => j = g ∨ j = r) W (W.drew.setCell ⟨r, i, none⟩ (.int .u16 (v : Int)))) := Lib.hid (by
      have e := setCell_eq_setRow W.drew r i _ _ _ (.int .u16 (v : Int)) h.row
      refine ⟨⟨Tm.turn_ok h.ok _ _, h.ne, ?_, ?_⟩, (Only.refl (fun j => j = g ∨ j = r) W).drew.setCell (p := ⟨r, i, none⟩) (.inl (.inr rfl)) _⟩
      · rw [e, setRow_other _ _ _ _ h.ne, Tm.turn_bits]; exact h.top
      · rw [e, setRow_heap W.drew _ _ _ _ _ h.row, tabH_set, hrow])
    have b1 : 0 ≤ (i : Int) := by omega
    generalize t.p i = q at *
    clear h hm hi hp1 hp2 hrow hv h1 e hat hv2
    go_enter Try.func24, Try.ntmps24
    go_wp2_with fail
    with_reducible refine HH.out.mono ?_
    rintro e w' ⟨rfl, rfl⟩
    go_wp2_with fail
    refine wp_region_still_tail 12 (by kernel_rfl) (by kernel_rfl) ?_
    simp only [List.take_succ_cons, List.take_zero, List.drop_succ_cons, List.drop_zero]
    iterate 7 still_step
    still_call HP.out
    still_step
    still_call (HA.out _)
    iterate 2 still_step
    refine wpStill_nil ?_
    go_wp2_with fail
    refine bodyPost_end (results_none rfl _ _ _) rfl ?_
    exact ⟨rfl, HE.out.1, HE.out.2⟩
  · rw [decide_eq_false hi] at HH
    have e : t.turn n bit = t := by unfold Tm.turn; rw [if_neg hi]
    rw [e]
    have HE := Lib.hid h
    clear h hm hi e
    go_enter Try.func24, Try.ntmps24
    go_wp2_with fail
    with_reducible refine HH.out.mono ?_
    rintro e w' ⟨rfl, rfl⟩
    go_wp2_with fail
    refine bodyPost_end (results_none rfl _ _ _) rfl ?_
    exact ⟨rfl, HE.out, Only.refl _ _⟩

theorem make_wordsM (k : Nat) (hk : k ≤ 2147483648) (u : World) : (Instr.makeSlice 57 (.int .i64 (k : Int)) (.int .i64 (k : Int))).run Try.prog u =
      .ok (.slice (some ⟨u.heap.size, 0, none⟩) k k) (u.alloc (.cells (madeCells #[.int .u16 0] k) 58)) := by
  have info : (Try.prog.info? 58).map (fun i => (i.zero, i.size, i.bytes)) = some (some (.int .u16 0), 1, 2) := by kernel_rfl
  obtain ⟨i0, hi, hz0, hz1, hz2⟩ := info_parts info
  have h := run_make (P := Try.prog) u 57 58 i0 (.int .u16 0) Try.underlying57 hi hz0 .i64 .i64 (k : Int) (k : Int) (by omega) (Int.le_refl _) (by rw [hz2]; omega) (by omega)
  simpa [hz1, Value.cells] using h
theorem madeH (k : Nat) : madeCells #[.int .u16 0] k = tabH (List.replicate k 0) := by
  apply Array.toList_inj.1
  rw [toList_madeCells_one]
  simp [tabH, List.map_replicate]
/-- the first places laid -/
def newRowH (n k : Nat) : List Int := (List.range n).map fun i => if i < k then 1024 else 0
theorem newRowH_len (n k : Nat) : (newRowH n k).length = n := by simp [newRowH]
theorem newRowH_zero (n : Nat) : newRowH n 0 = List.replicate n 0 := by
  apply List.ext_getElem (by simp [newRowH])
  intro i h1 h2
  simp [newRowH]
theorem newRowH_set (n k : Nat) (h2 : k < n) : (newRowH n k).set k 1024 = newRowH n (k + 1) := by
  apply List.ext_getElem (by rw [List.length_set, newRowH_len, newRowH_len])
  intro i h3 h4
  rw [List.getElem_set]
  by_cases e : k = i
  · subst e; simp [newRowH]
  · rw [if_neg e]; simp only [newRowH, List.getElem_map, List.getElem_range]
    by_cases hh : i < k
    · rw [if_pos hh, if_pos (by omega)]
    · rw [if_neg hh, if_neg (by omega)]
theorem newRowH_end (b : Int) : newRowH (2 ^ capT b) (2 ^ capT b) = (Tm.new b).rowH := by
  apply List.ext_getElem (by rw [newRowH_len, Tm.rowH_len]; rfl)
  intro i h1 h2
  rw [newRowH_len] at h1
  simp only [newRowH, Tm.rowH, List.getElem_map, List.getElem_range]
  rw [if_pos h1]; rfl

set_option maxHeartbeats 1600000 in
theorem pnew_any (b : Int) (w : World) : Calls Try.prog 11 #[.int .i64 b] w
    fun e w' => ∃ g r, e = .returned (.pointer (some ⟨g, 0, none⟩)) ∧ HTr w' g r (Tm.new b) ∧ w.heap.size ≤ g ∧ w.heap.size ≤ r ∧ Below w.heap.size w w' := by
  have e : (capT b : Int) = if b < 1 then (1 : Int) else if 8 < b then 8 else b := by unfold capT; split <;> (try split) <;> omega
  have hend := newRowH_end b
  have h1 := capT_lo b
  have h2 := capT_hi b
  have hok := Tm.new_ok b
  have hbits : (Tm.new b).bits = capT b := rfl
  obtain ⟨q, hq⟩ : ∃ q, capT b = q := ⟨_, rfl⟩
  obtain ⟨t, ht⟩ : ∃ t, Tm.new b = t := ⟨_, rfl⟩
  rw [hq] at e hend h1 h2 hbits
  rw [ht] at hend hok hbits ⊢
  obtain ⟨n, hn⟩ : ∃ n, 2 ^ q = n := ⟨_, rfl⟩
  have hn2 : 2 ≤ n := by rw [← hn]; exact Nat.pow_le_pow_right (n := 2) (by decide) h1
  have hn8 : n ≤ 256 := by rw [← hn]; exact Nat.pow_le_pow_right (n := 2) (by decide) h2
  rw [hn] at hend
  have f2 : wrap64 (2 ^ min q 64) = (n : Int) := by
    have h8 : q = 1 ∨ q = 2 ∨ q = 3 ∨ q = 4 ∨ q = 5 ∨ q = 6 ∨ q = 7 ∨ q = 8 := by omega
    rw [← hn]
    rcases h8 with rfl | rfl | rfl | rfl | rfl | rfl | rfl | rfl <;> decide +kernel
  have f0 : (0 : Int) ≤ (q : Int) := by omega
  have hmk : ∀ u : World, (Instr.makeSlice 57 (.int .i64 (n : Int)) (.int .i64 (n : Int))).run Try.prog u = .ok (.slice (some ⟨u.heap.size, 0, none⟩) n n) (u.alloc (.cells (tabH (newRowH n 0)) 58)) := fun u => by
    rw [newRowH_zero, ← madeH]; exact make_wordsM n (by omega) u
  have HEND := Lib.hid hend
  have HOK := Lib.hid hok
  have HBI : Hid (t.bits = q) := Lib.hid hbits
  have HNN : Hid (2 ^ q = n) := Lib.hid hn
  obtain ⟨c, hc⟩ : ∃ c : Int, (if b < 1 then (1 : Int) else b) = c := ⟨_, rfl⟩
  have hm : (if 8 < c then (8 : Int) else c) = (q : Int) := by rw [e, ← hc]; split <;> split <;> (try split) <;> omega
  have f3 : wrap64 (2 ^ q) = (n : Int) := by rw [← f2, Nat.min_eq_left (by omega)]
  have HI : Hid (Lp w (w.alloc (.cells (tabH (newRowH n 0)) 58)) w.heap.size (tabH (newRowH n 0)) 58 []) := Lib.hid ⟨(RowsW.nil w).box _ _, Nat.le_refl _, by simp, (Below.refl _ _).alloc (Nat.le_refl _) _⟩
  obtain ⟨R0, hR0⟩ : ∃ R, tabH (newRowH n 0) = R := ⟨_, rfl⟩
  rw [hR0] at hmk HI
  have HR0 := Lib.hid hR0
  clear e hend hok hbits hq ht hn h1 h2 hR0
  go_enter Try.func11, Try.ntmps11
  go_wp2_with fail
  obtain ⟨W1, hW1⟩ : ∃ W, (w.alloc (.cells R0 58)) = W := ⟨_, rfl⟩
  obtain ⟨r, hr⟩ : ∃ r, w.heap.size = r := ⟨_, rfl⟩
  rw [hW1, hr] at HI
  rw [hW1, hr]
  rw [← HR0.out] at HI
  have HG := Lib.hid hr
  clear hW1 hr hmk HR0
  go_loopw [4, 13] (fun n_ i_ wr => ∃ k : Nat, k ≤ n ∧ i_ = .int .i64 (k : Int) ∧ Hid (Lp w wr r (tabH (newRowH n k)) 58 [])) (fun n_ i_ _ => n - (intOf i_).toNat)
  case atStart => exact ⟨0, by omega, rfl, HI⟩
  case round =>
    clear HI
    obtain ⟨k, hk, rfl, HI⟩ := hrel
    by_cases hlt : k < n
    · have cx : wr.cell? ⟨r, k, none⟩ = some (.int .u16 (gI (newRowH n k) k)) := by rw [cell_of_row _ _ _ _ _ _ HI.out.rows.head, tabH_get _ _ (by rw [newRowH_len]; exact hlt)]
      have fx := HI.out.fz k
      have HI2 : Hid (Lp w (wr.setCell ⟨r, k, none⟩ (.int .u16 1024)) r (tabH (newRowH n (k + 1))) 58 []) := Lib.hid (by
        rw [← newRowH_set n k hlt, ← tabH_set]; exact HI.out.set k _)
      have d1 : decide ((k : Int) < (n : Int)) = true := decide_eq_true (by omega)
      have b1 : 0 ≤ (k : Int) := by omega
      have b2 : (k : Int) < (n : Int) := by omega
      generalize gI (newRowH n k) k = old at *
      clear HI
      go_wp2_with fail
      go_roundw
      case rel => exact ⟨k + 1, by omega, by go_num, HI2⟩
      case measure => simp [intOf]; omega
    · have hkn : k = n := by omega
      have d1 : decide ((k : Int) < (n : Int)) = false := decide_eq_false (by omega)
      rw [hkn, HEND.out] at HI
      have hg : wr.heap.size ≠ r := by have := (Array.getElem?_eq_some_iff.1 HI.out.rows.head).1; omega
      have HE : Hid (HTr (wr.alloc (.cells #[.slice (some ⟨r, 0, none⟩) n n] 60)) wr.heap.size r t ∧ r ≤ wr.heap.size ∧ Below r w (wr.alloc (.cells #[.slice (some ⟨r, 0, none⟩) n n] 60))) := Lib.hid (by
        have hh := HI.out.rows.box #[.slice (some ⟨r, 0, none⟩) n n] 60
        have hb := HI.out.below
        rw [HG.out] at hb
        have hs := hb.size
        have h9 := (Array.getElem?_eq_some_iff.1 HI.out.rows.head).1
        exact ⟨⟨HOK.out, hg, by rw [HBI.out, HNN.out]; exact hh.head, hh.tail.head⟩, by omega, hb.alloc (by omega) _⟩)
      clear HI hlt hg
      go_wp2_with fail
      go_ret
      rw [HG.out]
      exact ⟨_, _, rfl, HE.out.1, HE.out.2.1, Nat.le_refl _, HE.out.2.2⟩

theorem trH_base : TrB trH where
  ok := fun ⟨_, h, _⟩ => h.ok
  lt := fun ⟨_, h, e⟩ j hj => by subst e; rcases hj with rfl | rfl; exact h.lt.1; exact h.lt.2
  keep := fun Q ⟨r, h, e⟩ ho hq => ⟨r, h.only ho (hq _ (by subst e; exact .inl rfl)) (hq _ (by subst e; exact .inr rfl)), e⟩
theorem mdC : MdC trH where
  base := trH_base
  hold := fun p _ _ W => (phold_any p W).mono (by rintro e w' ⟨rfl, rfl⟩; exact ⟨rfl, Below.refl _ _⟩)
  adapt := fun p b _ _ _ _ W => (padapt_any p b W).mono (by rintro e w' ⟨rfl, rfl⟩; exact ⟨rfl, Below.refl _ _⟩)
  new := fun b _ _ W => (pnew_any b W).mono (by
    rintro e w' ⟨g, r, rfl, h, hg, hr, hb⟩
    exact ⟨g, _, rfl, ⟨r, h, rfl⟩, fun j hj => by rcases hj with rfl | rfl; exact hg; exact hr, hb⟩)
  at_ := fun ⟨r, h, _⟩ n _ _ => (pat_any h n).mono (by rintro e w' ⟨rfl, rfl⟩; exact ⟨rfl, Below.refl _ _⟩)
  turn := fun {W g t F} ⟨r, h, e⟩ n bit _ _ _ _ => (pturn_any h n bit).mono (by
    rintro e2 w' ⟨rfl, h2, ho⟩
    subst e
    exact ⟨rfl, _, ⟨r, h2, rfl⟩, fun j hj => .inl hj, ho⟩)
end Go.Proofs.Ytlbkpmcccipfhaa

