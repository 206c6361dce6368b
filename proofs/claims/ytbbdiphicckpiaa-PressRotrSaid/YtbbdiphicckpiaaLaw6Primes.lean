/- RootsPrimes. -/
import Derived.Test.YtbbdiphicckpiaaLaw6Whole
namespace Go.Proofs.Ytbbdiphicckpiaa
open Go.RowKit
set_option linter.unusedVariables false
set_option maxRecDepth 100000

theorem i64_bounds {p : Int} (hp : (Lit.int .i64 p).wf = true) : -9223372036854775808 ≤ p ∧ p ≤ 9223372036854775807 := by
  simpa [Lit.wf, IntKind.min, IntKind.max, IntKind.signed, IntKind.bits] using hp
end Go.Proofs.Ytbbdiphicckpiaa

