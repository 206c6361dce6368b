/- The contract of bootjackref1.Cap. -/
import Derived.Test.YtlnpfndjdilfhaaWords
namespace Go.Proofs.Ytlnpfndjdilfhaa
open Go.RowKit
set_option linter.unusedVariables false

theorem cap_any (n a b : Int) (w : World) : Calls Try.prog 28 #[.int .i64 n, .int .i64 a, .int .i64 b] w fun e w' => e = .returned (.int .i64 (if n < a then a else if b < n then b else n)) ∧ w' = w := by
  by_cases h1 : n < a
  · rw [if_pos h1]
    go_enter Try.func28, Try.ntmps28
    go_wp2
    go_ret
    exact ⟨rfl, rfl⟩
  · rw [if_neg h1]
    by_cases h2 : b < n
    · rw [if_pos h2]
      go_enter Try.func28, Try.ntmps28
      go_wp2
      go_ret
      exact ⟨rfl, rfl⟩
    · rw [if_neg h2]
      go_enter Try.func28, Try.ntmps28
      go_wp2
      go_ret
      exact ⟨rfl, rfl⟩

theorem cap_is (n : Int) : ∃ K : Nat, K ≤ 65536 ∧ (K : Int) = max 0 (min n 65536) ∧ (if n < 0 then 0 else if 65536 < n then 65536 else n) = (K : Int) :=
  ⟨(max 0 (min n 65536)).toNat, by omega, by omega, by split <;> (try split) <;> omega⟩

theorem cap_at (n : Int) (K : Nat) (w : World) (h : (if n < 0 then 0 else if 65536 < n then 65536 else n) = (K : Int)) :
    Calls Try.prog 28 #[.int .i64 n, .int .i64 0, .int .i64 65536] w fun e w' => e = .returned (.int .i64 (K : Int)) ∧ w = w' := by
  rw [← h]
  exact (cap_any n 0 65536 w).mono fun e w' ⟨he, hw⟩ => ⟨he, hw.symm⟩
end Go.Proofs.Ytlnpfndjdilfhaa
