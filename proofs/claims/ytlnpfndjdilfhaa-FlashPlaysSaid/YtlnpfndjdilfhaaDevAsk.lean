/- The contracts of the program's flash that only ask: powered, holds, hasSector, Size, Off, Steps, Erases. -/
import Derived.Test.YtlnpfndjdilfhaaDevFl
import Derived.Test.YtlnpfndjdilfhaaRefArm
namespace Go.Proofs.Ytlnpfndjdilfhaa
open Go.RowKit
set_option linter.unusedVariables false

set_option maxHeartbeats 400000 in
theorem dpowered_any {g gB gW cB cW N : Nat} {d : Dl} {w : World} (h : DevFl w g gB gW cB cW N d) :
    Calls Try.prog 40 #[.pointer (some ⟨g, 0, none⟩)] w fun e w' => e = .returned (.bool (!d.off)) ∧ w = w' := by
  obtain ⟨AP, cP, hg, -, -⟩ := h.cells
  have c3 : w.cell? ⟨g, 3, none⟩ = some (.bool d.off) := by rw [cell_of_row _ _ _ _ _ _ hg]; rfl
  clear hg h
  go_enter Try.func40, Try.ntmps40
  go_wp2
  go_ret
  exact ⟨rfl, rfl⟩

set_option maxHeartbeats 400000 in
theorem doff_any {g gB gW cB cW N : Nat} {d : Dl} {w : World} (h : DevFl w g gB gW cB cW N d) :
    Calls Try.prog 12 #[.pointer (some ⟨g, 0, none⟩)] w fun e w' => e = .returned (.bool d.off) ∧ w = w' := by
  obtain ⟨AP, cP, hg, -, -⟩ := h.cells
  have c3 : w.cell? ⟨g, 3, none⟩ = some (.bool d.off) := by rw [cell_of_row _ _ _ _ _ _ hg]; rfl
  clear hg h
  go_enter Try.func12, Try.ntmps12
  go_wp2
  go_ret
  exact ⟨rfl, rfl⟩

set_option maxHeartbeats 400000 in
theorem dsteps_any {g gB gW cB cW N : Nat} {d : Dl} {w : World} (h : DevFl w g gB gW cB cW N d) :
    Calls Try.prog 13 #[.pointer (some ⟨g, 0, none⟩)] w fun e w' => e = .returned (.int .i64 d.steps) ∧ w = w' := by
  obtain ⟨AP, cP, hg, -, -⟩ := h.cells
  have c2 : w.cell? ⟨g, 2, none⟩ = some (.int .i64 d.steps) := by rw [cell_of_row _ _ _ _ _ _ hg]; rfl
  clear hg h
  go_enter Try.func13, Try.ntmps13
  go_wp2
  go_ret
  exact ⟨rfl, rfl⟩

set_option maxHeartbeats 400000 in
theorem dsize_any {g gB gW cB cW N : Nat} {d : Dl} {w : World} (h : DevFl w g gB gW cB cW N d) :
    Calls Try.prog 16 #[.pointer (some ⟨g, 0, none⟩)] w fun e w' => e = .returned (.int .i64 (d.b.length : Int)) ∧ w = w' := by
  obtain ⟨AP, cP, hg, -, -⟩ := h.cells
  have c0 : w.cell? ⟨g, 0, none⟩ = some (.slice (some ⟨gB, 0, none⟩) d.b.length cB) := by rw [cell_of_row _ _ _ _ _ _ hg]; rfl
  clear hg h
  go_enter Try.func16, Try.ntmps16
  go_wp2
  go_ret
  exact ⟨rfl, rfl⟩

set_option maxHeartbeats 800000 in
theorem dholds_any {g gB gW cB cW N : Nat} {d : Dl} {w : World} (h : DevFl w g gB gW cB cW N d) (a n : Int) (ha1 : -9223372036854775808 ≤ a) (ha2 : a ≤ 9223372036854775807) (hn1 : -9223372036854775808 ≤ n) (hn2 : n ≤ 9223372036854775807) (hlen : d.b.length ≤ 2147483648) :
    Calls Try.prog 38 #[.pointer (some ⟨g, 0, none⟩), .int .i64 a, .int .i64 n] w fun e w' => e = .returned (.bool (decide (0 ≤ a ∧ 0 ≤ n ∧ a + n ≤ d.b.length))) ∧ w = w' := by
  obtain ⟨AP, cP, hg, -, -⟩ := h.cells
  have c0 : w.cell? ⟨g, 0, none⟩ = some (.slice (some ⟨gB, 0, none⟩) d.b.length cB) := by rw [cell_of_row _ _ _ _ _ _ hg]; rfl
  clear hg h
  obtain ⟨L, HL⟩ : ∃ L : Nat, Hid (d.b.length = L) := ⟨_, rfl⟩
  rw [HL.out] at c0 hlen ⊢
  clear HL
  by_cases h1 : 0 ≤ a
  · by_cases h2 : 0 ≤ n
    · by_cases h4 : n ≤ (L : Int) - a
      · have e : decide (0 ≤ a ∧ 0 ≤ n ∧ a + n ≤ (L : Int)) = true := by simp; omega
        rw [e]
        clear e
        go_enter Try.func38, Try.ntmps38
        go_wp2
        go_ret
        exact ⟨rfl, rfl⟩
      · have e : decide (0 ≤ a ∧ 0 ≤ n ∧ a + n ≤ (L : Int)) = false := by simp; omega
        rw [e]
        clear e
        go_enter Try.func38, Try.ntmps38
        go_wp2
        go_ret
        exact ⟨rfl, rfl⟩
    · have e : decide (0 ≤ a ∧ 0 ≤ n ∧ a + n ≤ (L : Int)) = false := by simp; omega
      rw [e]
      clear e
      have h2' : decide (0 ≤ n) = false := decide_eq_false h2
      go_enter Try.func38, Try.ntmps38
      go_wp2
      go_ret
      exact ⟨rfl, rfl⟩
  · have e : decide (0 ≤ a ∧ 0 ≤ n ∧ a + n ≤ (L : Int)) = false := by simp; omega
    rw [e]
    clear e
    have h1' : decide (0 ≤ a) = false := decide_eq_false h1
    go_enter Try.func38, Try.ntmps38
    go_wp2
    go_ret
    exact ⟨rfl, rfl⟩
/-- told with the answer known -/
theorem dholds_is {g gB gW cB cW N : Nat} {d : Dl} {w : World} {a n : Int} {b : Bool} (h : DevFl w g gB gW cB cW N d) (H : Hid (decide (0 ≤ a ∧ 0 ≤ n ∧ a + n ≤ d.b.length) = b)) (ha1 : -9223372036854775808 ≤ a) (ha2 : a ≤ 9223372036854775807) (hn1 : -9223372036854775808 ≤ n) (hn2 : n ≤ 9223372036854775807) (hlen : d.b.length ≤ 2147483648) :
    Calls Try.prog 38 #[.pointer (some ⟨g, 0, none⟩), .int .i64 a, .int .i64 n] w fun e w' => e = .returned (.bool b) ∧ w = w' := by
  rw [← H.out]
  exact dholds_any h a n ha1 ha2 hn1 hn2 hlen

set_option maxHeartbeats 400000 in
theorem dhas_any {g gB gW cB cW N : Nat} {d : Dl} {w : World} (h : DevFl w g gB gW cB cW N d) (s : Int) :
    Calls Try.prog 37 #[.pointer (some ⟨g, 0, none⟩), .int .i64 s] w fun e w' => e = .returned (.bool (decide (0 ≤ s ∧ s < d.worn.length))) ∧ w = w' := by
  obtain ⟨AP, cP, hg, -, -⟩ := h.cells
  have c1 : w.cell? ⟨g, 1, none⟩ = some (.slice (some ⟨gW, 0, none⟩) d.worn.length cW) := by rw [cell_of_row _ _ _ _ _ _ hg]; rfl
  clear hg h
  obtain ⟨L, HL⟩ : ∃ L : Nat, Hid (d.worn.length = L) := ⟨_, rfl⟩
  rw [HL.out] at c1 ⊢
  clear HL
  by_cases h1 : 0 ≤ s
  · by_cases h2 : s < (L : Int)
    · have e : decide (0 ≤ s ∧ s < (L : Int)) = true := by simp; omega
      rw [e]
      clear e
      go_enter Try.func37, Try.ntmps37
      go_wp2
      go_ret
      exact ⟨rfl, rfl⟩
    · have e : decide (0 ≤ s ∧ s < (L : Int)) = false := by simp; omega
      rw [e]
      clear e
      go_enter Try.func37, Try.ntmps37
      go_wp2
      go_ret
      exact ⟨rfl, rfl⟩
  · have e : decide (0 ≤ s ∧ s < (L : Int)) = false := by simp; omega
    rw [e]
    clear e
    have h1' : decide (0 ≤ s) = false := decide_eq_false h1
    go_enter Try.func37, Try.ntmps37
    go_wp2
    go_ret
    exact ⟨rfl, rfl⟩
theorem dhas_is {g gB gW cB cW N : Nat} {d : Dl} {w : World} {s : Int} {b : Bool} (h : DevFl w g gB gW cB cW N d) (H : Hid (decide (0 ≤ s ∧ s < d.worn.length) = b)) :
    Calls Try.prog 37 #[.pointer (some ⟨g, 0, none⟩), .int .i64 s] w fun e w' => e = .returned (.bool b) ∧ w = w' := by
  rw [← H.out]
  exact dhas_any h s

set_option maxHeartbeats 400000 in
theorem derases_any {g gB gW cB cW N : Nat} {d : Dl} {w : World} (h : DevFl w g gB gW cB cW N d) (s : Int) :
    Calls Try.prog 14 #[.pointer (some ⟨g, 0, none⟩), .int .i64 s] w fun e w' => e = .returned (.int .i64 (wornAt d.worn s)) ∧ w = w' := by
  obtain ⟨AP, cP, hg, -, -⟩ := h.cells
  have c1 : w.cell? ⟨g, 1, none⟩ = some (.slice (some ⟨gW, 0, none⟩) d.worn.length cW) := by rw [cell_of_row _ _ _ _ _ _ hg]; rfl
  clear hg
  unfold wornAt
  by_cases hs : 0 ≤ s ∧ s < d.worn.length
  · have H : Hid (decide (0 ≤ s ∧ s < d.worn.length) = true) := Lib.hid (decide_eq_true hs)
    rw [if_pos hs]
    obtain ⟨x, rfl⟩ := Int.eq_ofNat_of_zero_le hs.1
    have hx : x < d.worn.length := by omega
    rw [Int.toNat_natCast]
    have hc := h.counts.at_ hx
    generalize d.worn.getD x 0 = y at *
    clear hs
    go_enter Try.func14, Try.ntmps14
    go_wp2_with (refine (dhas_is h H).mono ?_; rintro e w' ⟨rfl, rfl⟩)
    go_ret
    exact ⟨rfl, rfl⟩
  · have H : Hid (decide (0 ≤ s ∧ s < d.worn.length) = false) := Lib.hid (decide_eq_false hs)
    rw [if_neg hs]
    clear hs
    go_enter Try.func14, Try.ntmps14
    go_wp2_with (refine (dhas_is h H).mono ?_; rintro e w' ⟨rfl, rfl⟩)
    go_ret
    exact ⟨rfl, rfl⟩
end Go.Proofs.Ytlnpfndjdilfhaa
