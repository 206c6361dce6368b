/- The landed package model: the contracts of Hold, Adapt, has, At, Turn and New, over rows of words of 16 bits. -/
import Derived.Test.YtlbkpmcccipfhaaLaw15Spec
namespace Go.Proofs.Ytlbkpmcccipfhaa
open Go.RowKit
set_option linter.unusedVariables false
set_option maxRecDepth 100000

theorem phold_any (p : Int) (w : World) : Calls Try.prog 27 #[.int .i64 p] w fun e w' => e = .returned (.int .i64 (holdI p : Int)) ∧ w' = w := by
  by_cases h1 : p < 31
  · have e : holdI p = 31 := by unfold holdI; rw [if_pos h1]
    have m1 : (if 31 > p then (31 : Int) else p) = 31 := if_pos h1
    rw [e]
    clear e
    go_enter Try.func27, Try.ntmps27
    go_wp2
    go_ret
    exact ⟨by first | rfl | (show Ending.returned (.int .i64 (min (max p 31) 2017)) = _; congr 2; omega), rfl⟩
  · by_cases h2 : 2017 < p
    · have e : holdI p = 2017 := by unfold holdI; rw [if_neg h1, if_pos h2]
      rw [e]
      clear e
      go_enter Try.func27, Try.ntmps27
      go_wp2
      go_ret
      exact ⟨rfl, rfl⟩
    · have e : (holdI p : Int) = p := by unfold holdI; rw [if_neg h1, if_neg h2]; omega
      rw [e]
      clear e
      go_enter Try.func27, Try.ntmps27
      go_wp2
      go_ret
      exact ⟨rfl, rfl⟩
set_option maxHeartbeats 1600000 in
theorem padapt_any (p bit : Int) (w : World) : Calls Try.prog 23 #[.int .i64 p, .int .i64 bit] w fun e w' => e = .returned (.int .i64 (adI p bit : Int)) ∧ w' = w := by
  have HC := Lib.hid (phold_any p)
  have h1 := holdI_lo p
  have h2 := holdI_hi p
  unfold adI
  generalize holdI p = q at *
  by_cases hb : bit = 0
  · subst hb
    rw [decide_eq_true rfl]
    unfold adN
    rw [if_pos rfl]
    obtain ⟨u, hu⟩ : ∃ u, 2048 - q = u := ⟨_, rfl⟩
    obtain ⟨r, hr⟩ : ∃ r, u / 32 = r := ⟨_, rfl⟩
    rw [hu, hr]
    obtain ⟨s, hs⟩ : ∃ s, q + r = s := ⟨_, rfl⟩
    rw [hs]
    have f1 : IntKind.i64.wrap (2048 - (q : Int)) = (u : Int) := by rw [IntKind.wrap_i64]; omega
    have g1 : 2048 - (q : Int) = (u : Int) := by omega
    have f2 : (u : Int).tdiv 32 = (r : Int) := by rw [Int.tdiv_eq_ediv_of_nonneg (by omega)]; omega
    have f2' : (u : Int) / 32 = (r : Int) := by omega
    have f3 : IntKind.i64.wrap ((q : Int) + (r : Int)) = (s : Int) := by rw [IntKind.wrap_i64]; omega
    have g3 : (q : Int) + (r : Int) = (s : Int) := by omega
    clear hu hr hs h1 h2
    go_enter Try.func23, Try.ntmps23
    go_wp2_with fail
    with_reducible refine (HC.out _).mono ?_
    rintro e w' ⟨rfl, rfl⟩
    go_wp2
    go_ret
    exact ⟨rfl, rfl⟩
  · have hd : decide (bit = 0) = false := decide_eq_false hb
    rw [hd]
    unfold adN
    rw [if_neg (by decide)]
    obtain ⟨r, hr⟩ : ∃ r, q / 32 = r := ⟨_, rfl⟩
    have f2 : (q : Int).tdiv 32 = (r : Int) := by rw [Int.tdiv_eq_ediv_of_nonneg (by omega)]; omega
    have f2' : (q : Int) / 32 = (r : Int) := by omega
    have f3 : IntKind.i64.wrap ((q : Int) - (r : Int)) = ((q - r : Nat) : Int) := by rw [IntKind.wrap_i64]; omega
    have g3 : (q : Int) - (r : Int) = ((q - r : Nat) : Int) := by omega
    rw [hr]
    clear hr
    go_enter Try.func23, Try.ntmps23
    go_wp2_with fail
    with_reducible refine (HC.out _).mono ?_
    rintro e w' ⟨rfl, rfl⟩
    go_wp2
    go_ret
    exact ⟨rfl, rfl⟩
/-! Rows of words of 16 bits. -/
def tabH (l : List Int) : Array Value := (l.map fun x => Value.int .u16 x).toArray
theorem tabH_get (l : List Int) (i : Nat) (h : i < l.length) : (tabH l)[i]? = some (.int .u16 (gI l i)) := by
  simp [tabH, gI, List.getD, List.getElem?_eq_getElem h]
theorem tabH_set (l : List Int) (i : Nat) (x : Int) : (tabH l).setIfInBounds i (.int .u16 x) = tabH (l.set i x) := by
  unfold tabH
  rw [List.map_set]
  simp
/-- a tree's row: every place a chance -/
def Tm.rowH (t : Tm) : List Int := (List.range (2 ^ t.bits)).map fun i => (t.p i : Int)
theorem Tm.rowH_len (t : Tm) : t.rowH.length = 2 ^ t.bits := by simp [Tm.rowH]
theorem gI_rowH (t : Tm) (i : Nat) (h : i < 2 ^ t.bits) : gI t.rowH i = (t.p i : Int) := by
  simp [gI, Tm.rowH, List.getD, h]
theorem Tm.rowH_turn {t : Tm} (n bit : Int) (h : t.is n) : (t.turn n bit).rowH = t.rowH.set n.toNat (adN (t.p n.toNat) (decide (bit = 0)) : Int) := by
  have hb := t.turn_bits n bit
  apply List.ext_getElem (by rw [List.length_set, Tm.rowH_len, Tm.rowH_len, hb])
  intro i h1 h2
  rw [List.getElem_set]
  simp only [Tm.rowH, List.getElem_map, List.getElem_range]
  unfold Tm.turn
  rw [if_pos h]
  by_cases e : n.toNat = i
  · subst e; rw [if_pos rfl]; simp
  · rw [if_neg e]
    show ((if i = n.toNat then adN (t.p i) _ else t.p i : Nat) : Int) = _
    rw [if_neg (fun h => e h.symm)]
/-- at block g lies the landed tree t, with its row at block r -/
structure HTr (W : World) (g r : Nat) (t : Tm) : Prop where
  ok : t.ok
  ne : g ≠ r
  top : W.heap[g]? = some (.cells #[.slice (some ⟨r, 0, none⟩) (2 ^ t.bits) (2 ^ t.bits)] 60 (0, 0))
  row : W.heap[r]? = some (.cells (tabH t.rowH) 58 (0, 0))
theorem HTr.lt {W : World} {g r : Nat} {t : Tm} (h : HTr W g r t) : g < W.heap.size ∧ r < W.heap.size := ⟨(Array.getElem?_eq_some_iff.1 h.top).1, (Array.getElem?_eq_some_iff.1 h.row).1⟩
theorem HTr.only {W W' : World} {g r : Nat} {t : Tm} {F : Nat → Prop} (h : HTr W g r t) (ho : Only F W W') (hg : ¬ F g) (hr : ¬ F r) : HTr W' g r t :=
  ⟨h.ok, h.ne, by rw [ho.block g h.lt.1 hg]; exact h.top, by rw [ho.block r h.lt.2 hr]; exact h.row⟩
theorem HTr.below {W W' : World} {g r : Nat} {t : Tm} (h : HTr W g r t) (hb : Below W.heap.size W W') : HTr W' g r t :=
  h.only (F := fun _ => False) (Only.of_below hb) (fun h => h) (fun h => h)
theorem HTr.cell {W : World} {g r : Nat} {t : Tm} (h : HTr W g r t) {i : Nat} (h2 : i < 2 ^ t.bits) : W.cell? ⟨r, i, none⟩ = some (.int .u16 (t.p i : Int)) := by
  rw [cell_of_row _ _ _ _ _ _ h.row, tabH_get _ _ (by rw [Tm.rowH_len]; exact h2), gI_rowH t i h2]
def trH : TrP := fun W g t F => ∃ r, HTr W g r t ∧ F = fun j => j = g ∨ j = r

/-- has -/
theorem phas_any {W : World} {g r : Nat} {t : Tm} (h : HTr W g r t) (n : Int) : Calls Try.prog 36 #[.pointer (some ⟨g, 0, none⟩), .int .i64 n] W fun e w' => e = .returned (.bool (decide (t.is n))) ∧ w' = W := by
  have c1 : W.cell? ⟨g, 0, none⟩ = some (.slice (some ⟨r, 0, none⟩) (2 ^ t.bits) (2 ^ t.bits)) := by rw [cell_of_row _ _ _ _ _ _ h.top]; rfl
  have hi : decide (t.is n) = (decide (1 ≤ n) && decide (n < ((2 ^ t.bits : Nat) : Int))) := Bool.decide_and _ _
  rw [hi]
  obtain ⟨m, hm⟩ : ∃ m, 2 ^ t.bits = m := ⟨_, rfl⟩
  rw [hm] at c1 ⊢
  clear hi hm h
  by_cases h1 : 1 ≤ n
  · have d0 : decide (1 ≤ n) = true := decide_eq_true h1
    rw [d0, Bool.true_and]
    by_cases h2 : n < (m : Int)
    · have d1 : decide (n < (m : Int)) = true := decide_eq_true h2
      rw [d1]
      go_enter Try.func36, Try.ntmps36
      go_wp2_with fail
      go_ret
      exact ⟨rfl, rfl⟩
    · have d1 : decide (n < (m : Int)) = false := decide_eq_false h2
      rw [d1]
      go_enter Try.func36, Try.ntmps36
      go_wp2_with fail
      go_ret
      exact ⟨rfl, rfl⟩
  · have d0 : decide (1 ≤ n) = false := decide_eq_false h1
    rw [d0, Bool.false_and]
    go_enter Try.func36, Try.ntmps36
    go_wp2_with fail
    go_ret
    exact ⟨rfl, rfl⟩
set_option maxHeartbeats 800000 in
theorem pat_any {W : World} {g r : Nat} {t : Tm} (h : HTr W g r t) (n : Int) : Calls Try.prog 20 #[.pointer (some ⟨g, 0, none⟩), .int .i64 n] W fun e w' => e = .returned (.int .i64 (t.at_ n : Int)) ∧ w' = W := by
  have HH := Lib.hid (phas_any h n)
  have c1 : W.cell? ⟨g, 0, none⟩ = some (.slice (some ⟨r, 0, none⟩) (2 ^ t.bits) (2 ^ t.bits)) := by rw [cell_of_row _ _ _ _ _ _ h.top]; rfl
  obtain ⟨m, hm⟩ : ∃ m, 2 ^ t.bits = m := ⟨_, rfl⟩
  rw [hm] at c1
  by_cases hi : t.is n
  · rw [decide_eq_true hi] at HH
    have h1 := hi.1
    have h2 := hi.2
    rw [hm] at h2
    obtain ⟨i, rfl⟩ : ∃ i : Nat, n = (i : Int) := ⟨n.toNat, by omega⟩
    have cx := h.cell (i := i) (by rw [hm]; omega)
    have e := Tm.at_in h.ok (n := i) (by omega) (by rw [hm]; omega)
    rw [e]
    have hp := h.ok.hi i
    generalize t.p i = q at *
    have f1 : IntKind.i64.wrap (q : Int) = (q : Int) := by rw [IntKind.wrap_i64]; omega
    have b1 : 0 ≤ (i : Int) := by omega
    clear h hm hi h1 e hp
    go_enter Try.func20, Try.ntmps20
    go_wp2_with fail
    with_reducible refine HH.out.mono ?_
    rintro e w' ⟨rfl, rfl⟩
    go_wp2_with fail
    go_ret
    exact ⟨rfl, rfl⟩
  · rw [decide_eq_false hi] at HH
    have e : t.at_ n = 0 := by unfold Tm.at_; rw [if_neg hi]
    rw [e]
    clear h hm hi e
    go_enter Try.func20, Try.ntmps20
    go_wp2_with fail
    with_reducible refine HH.out.mono ?_
    rintro e w' ⟨rfl, rfl⟩
    go_wp2_with fail
    go_ret
    exact ⟨rfl, rfl⟩
end Go.Proofs.Ytlbkpmcccipfhaa

