/- The contract of the reference's Tree.At. -/
import Derived.Test.YtlbkpmcccipfhaaRefMdl
namespace Go.Proofs.Ytlbkpmcccipfhaa
open Go.RowKit
set_option linter.unusedVariables false
set_option maxRecDepth 100000

set_option maxHeartbeats 800000 in
theorem rat15_any {W : World} {g r : Nat} {t : Tm} (h : RTr W g r t) (n : Int) : Calls Try.prog 21 #[.pointer (some ⟨g, 0, none⟩), .int .i64 n] W fun e w' => e = .returned (.int .i64 (t.at_ n : Int)) ∧ w' = W := by
  have c1 : W.cell? ⟨g, 1, none⟩ = some (.slice (some ⟨r, 0, none⟩) (2 ^ t.bits) (2 ^ t.bits)) := by rw [cell_of_row _ _ _ _ _ _ h.top]; rfl
  have hH := Lib.hid h
  obtain ⟨m, hm⟩ : ∃ m, 2 ^ t.bits = m := ⟨_, rfl⟩
  rw [hm] at c1
  by_cases h1 : n < 1
  · have d0 : decide (n < 1) = true := decide_eq_true h1
    have e : t.at_ n = 0 := by unfold Tm.at_; rw [if_neg (fun hi => by have := hi.1; omega)]
    rw [e]
    clear h hm
    go_enter Try.func21, Try.ntmps21
    go_wp2_with fail
    go_ret
    exact ⟨rfl, rfl⟩
  · have d0 : decide (n < 1) = false := decide_eq_false h1
    by_cases h2 : (m : Int) ≤ n
    · have d1 : decide ((m : Int) ≤ n) = true := decide_eq_true h2
      have e : t.at_ n = 0 := by unfold Tm.at_; rw [if_neg (fun hi => by have := hi.2; rw [hm] at this; omega)]
      rw [e]
      clear h hm
      go_enter Try.func21, Try.ntmps21
      go_wp2_with fail
      go_ret
      exact ⟨rfl, rfl⟩
    · have d1 : decide ((m : Int) ≤ n) = false := decide_eq_false h2
      obtain ⟨i, rfl⟩ : ∃ i : Nat, n = (i : Int) := ⟨n.toNat, by omega⟩
      have cx := h.cell (i := i) (by omega) (by rw [hm]; omega)
      have e := Tm.at_in h.ok (n := i) (by omega) (by rw [hm]; omega)
      rw [e]
      have b1 : 0 ≤ (i : Int) := by omega
      have b2 : (i : Int) < (m : Int) := by omega
      clear h hm
      go_enter Try.func21, Try.ntmps21
      go_wp2_with fail
      go_ret
      exact ⟨rfl, rfl⟩
end Go.Proofs.Ytlbkpmcccipfhaa

