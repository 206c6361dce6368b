/- RootsNear. -/
import Derived.Test.YtbbdiphicckpiaaLaw6Primes
namespace Go.Proofs.Ytbbdiphicckpiaa
open Go.RowKit
set_option linter.unusedVariables false
set_option maxRecDepth 100000

def NearCut (w wx : World) : Prop := Hid (Below w.heap.size w wx)

end Go.Proofs.Ytbbdiphicckpiaa

