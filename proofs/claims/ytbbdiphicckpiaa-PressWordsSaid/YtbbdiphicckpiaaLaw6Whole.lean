/- RootsWhole. -/
import Derived.Test.YtbbdiphicckpiaaLaw6Alive
namespace Go.Proofs.Ytbbdiphicckpiaa
open Go.RowKit
set_option linter.unusedVariables false
set_option maxRecDepth 100000

theorem and_ones (n k : Nat) (m : Nat) (hm : 2 ^ k - 1 = m) (hn : n < 18446744073709551616) (hml : m < 18446744073709551616) : bits .and .u64 (n : Int) (m : Int) = ((n % 2 ^ k : Nat) : Int) := by
  rw [u64_and_nat n m hn hml, ← hm, Nat.and_two_pow_sub_one_eq_mod]

theorem u64_bounds {p : Int} (hp : (Lit.int .u64 p).wf = true) : 0 ≤ p ∧ p ≤ 18446744073709551615 := by
  simpa [Lit.wf, IntKind.min, IntKind.max, IntKind.signed, IntKind.bits] using hp
end Go.Proofs.Ytbbdiphicckpiaa

