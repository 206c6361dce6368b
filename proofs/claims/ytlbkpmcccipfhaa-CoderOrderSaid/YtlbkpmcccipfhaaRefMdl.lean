/- The contracts of the reference's chances: Hold, Adapt, NewTree, At, Turn. -/
import Derived.Test.YtlbkpmcccipfhaaLp
import Derived.Test.YtlbkpmcccipfhaaGbase
import Derived.Test.YtlbkpmcccipfhaaGref
import Derived.Test.YtlbkpmcccipfhaaMdl
import Derived.Deep.QuietTactic
import Derived.BigQuiet
import Derived.StillTailTactics
namespace Go.Proofs.Ytlbkpmcccipfhaa
open Go.RowKit
set_option linter.unusedVariables false
set_option maxRecDepth 100000

theorem rhold15_any (p : Int) (w : World) : Calls Try.prog 29 #[.int .i64 p] w fun e w' => e = .returned (.int .i64 (holdI p : Int)) ∧ w' = w := by
  have hc := cap_any p 31 2017
  have e : (if p < 31 then (31 : Int) else if 2017 < p then 2017 else p) = (holdI p : Int) := by unfold holdI; split <;> (try split) <;> omega
  rw [e] at hc
  have HC := Lib.hid hc
  clear hc e
  go_enter Try.func29, Try.ntmps29
  go_wp2_with fail
  with_reducible refine (HC.out _).mono ?_
  rintro e w' ⟨rfl, rfl⟩
  go_wp2
  go_ret
  exact ⟨rfl, rfl⟩
set_option maxHeartbeats 1600000 in
theorem radapt15_any (p bit : Int) (w : World) : Calls Try.prog 32 #[.int .i64 p, .int .i64 bit] w fun e w' => e = .returned (.int .i64 (adI p bit : Int)) ∧ w' = w := by
  have HC := Lib.hid (rhold15_any p)
  have h1 := holdI_lo p
  have h2 := holdI_hi p
  unfold adI
  generalize holdI p = q at *
  by_cases hb : bit = 0
  · subst hb
    rw [decide_eq_true rfl]
    unfold adN
    rw [if_pos rfl]
    obtain ⟨u, hu⟩ : ∃ u, 2048 - q = u := ⟨_, rfl⟩
    obtain ⟨r, hr⟩ : ∃ r, u / 32 = r := ⟨_, rfl⟩
    rw [hu, hr]
    obtain ⟨s, hs⟩ : ∃ s, q + r = s := ⟨_, rfl⟩
    rw [hs]
    have f1 : IntKind.i64.wrap (2048 - (q : Int)) = (u : Int) := by rw [IntKind.wrap_i64]; omega
    have g1 : 2048 - (q : Int) = (u : Int) := by omega
    have f2 : (u : Int).tdiv 32 = (r : Int) := by rw [Int.tdiv_eq_ediv_of_nonneg (by omega)]; omega
    have f2' : (u : Int) / 32 = (r : Int) := by omega
    have f3 : IntKind.i64.wrap ((q : Int) + (r : Int)) = (s : Int) := by rw [IntKind.wrap_i64]; omega
    have g3 : (q : Int) + (r : Int) = (s : Int) := by omega
    clear hu hr hs h1 h2
    go_enter Try.func32, Try.ntmps32
    go_wp2_with fail
    with_reducible refine (HC.out _).mono ?_
    rintro e w' ⟨rfl, rfl⟩
    go_wp2
    go_ret
    exact ⟨rfl, rfl⟩
  · have hd : decide (bit = 0) = false := decide_eq_false hb
    rw [hd]
    unfold adN
    rw [if_neg (by decide)]
    obtain ⟨r, hr⟩ : ∃ r, q / 32 = r := ⟨_, rfl⟩
    have f2 : (q : Int).tdiv 32 = (r : Int) := by rw [Int.tdiv_eq_ediv_of_nonneg (by omega)]; omega
    have f2' : (q : Int) / 32 = (r : Int) := by omega
    have f3 : IntKind.i64.wrap ((q : Int) - (r : Int)) = ((q - r : Nat) : Int) := by rw [IntKind.wrap_i64]; omega
    have g3 : (q : Int) - (r : Int) = ((q - r : Nat) : Int) := by omega
    rw [hr]
    clear hr
    go_enter Try.func32, Try.ntmps32
    go_wp2_with fail
    with_reducible refine (HC.out _).mono ?_
    rintro e w' ⟨rfl, rfl⟩
    go_wp2
    go_ret
    exact ⟨rfl, rfl⟩
/-- at block g lies the reference's tree t, with its row at block r -/
structure RTr (W : World) (g r : Nat) (t : Tm) : Prop where
  ok : t.ok
  ne : g ≠ r
  top : W.heap[g]? = some (.cells #[.int .i64 (t.bits : Int), .slice (some ⟨r, 0, none⟩) (2 ^ t.bits) (2 ^ t.bits)] 63 (0, 0))
  row : W.heap[r]? = some (.cells (tabI t.row) 3 (0, 0))
theorem RTr.lt {W : World} {g r : Nat} {t : Tm} (h : RTr W g r t) : g < W.heap.size ∧ r < W.heap.size := ⟨(Array.getElem?_eq_some_iff.1 h.top).1, (Array.getElem?_eq_some_iff.1 h.row).1⟩
theorem RTr.only {W W' : World} {g r : Nat} {t : Tm} {F : Nat → Prop} (h : RTr W g r t) (ho : Only F W W') (hg : ¬ F g) (hr : ¬ F r) : RTr W' g r t :=
  ⟨h.ok, h.ne, by rw [ho.block g h.lt.1 hg]; exact h.top, by rw [ho.block r h.lt.2 hr]; exact h.row⟩
theorem RTr.below {W W' : World} {g r : Nat} {t : Tm} (h : RTr W g r t) (hb : Below W.heap.size W W') : RTr W' g r t :=
  h.only (F := fun _ => False) (Only.of_below hb) (fun h => h) (fun h => h)
theorem gI_row (t : Tm) (i : Nat) (h : i < 2 ^ t.bits) : gI t.row i = if i = 0 then 0 else (t.p i : Int) := t.row_get i h
theorem RTr.cell {W : World} {g r : Nat} {t : Tm} (h : RTr W g r t) {i : Nat} (h1 : 1 ≤ i) (h2 : i < 2 ^ t.bits) : W.cell? ⟨r, i, none⟩ = some (.int .i64 (t.p i : Int)) := by
  rw [cell_of_row _ _ _ _ _ _ h.row, tabI_get _ _ (by rw [Tm.row_len]; exact h2), gI_row t i h2, if_neg (by omega)]

end Go.Proofs.Ytlbkpmcccipfhaa

