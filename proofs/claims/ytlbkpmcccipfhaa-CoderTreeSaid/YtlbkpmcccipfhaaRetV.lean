/- A call returns a value and leaves what was there. -/
import Derived.Test.YtlbkpmcccipfhaaGbase
namespace Go.Proofs.Ytlbkpmcccipfhaa
open Go.RowKit
set_option linter.unusedVariables false
set_option maxRecDepth 100000

/-- a value comes back -/
def RetV (W : World) (v : Value) (e : Ending) (w' : World) : Prop := e = .returned v ∧ Below W.heap.size W w'
end Go.Proofs.Ytlbkpmcccipfhaa

