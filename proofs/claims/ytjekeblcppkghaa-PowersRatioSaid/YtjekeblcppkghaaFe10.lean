/- The landed fe, as far as layer 10 calls it. -/
import Derived.Test.YtjekeblcppkghaaGfe3
import Derived.Test.YtjekeblcppkghaaLaw10Spec
namespace Go.Proofs.Ytjekeblcppkghaa
open Go.RowKit
set_option linter.unusedVariables false
set_option maxRecDepth 100000

theorem fe10C : Fe10C feR where
  base := feB
  from_ := fefrom_any
  small := fesmall_any
  bytes := febytes_any
  mul := femul_any
  square := fesquare_any
  neg := feneg_any
  equal := feequal_any
  isZero := feiszero_any
  odd := feodd_any
end Go.Proofs.Ytjekeblcppkghaa

