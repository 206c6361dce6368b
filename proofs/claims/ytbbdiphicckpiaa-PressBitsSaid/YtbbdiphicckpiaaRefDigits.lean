/- The contracts of the reference's digit and above. -/
import Derived.Test.YtbbdiphicckpiaaRefPrimes
import Derived.Test.YtbbdiphicckpiaaDigits
namespace Go.Proofs.Ytbbdiphicckpiaa
open Go.RowKit
set_option linter.unusedVariables false
set_option maxRecDepth 100000

def NIsW (n : Nat) (w : World) (s : Value) (w' : World) : Prop := s = .int .i64 (n : Int) ∧ w' = w

end Go.Proofs.Ytbbdiphicckpiaa

