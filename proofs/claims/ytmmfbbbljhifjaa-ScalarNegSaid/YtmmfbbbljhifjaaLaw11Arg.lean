/- The walks of layer 11, as the frames call them. -/
import Derived.Test.YtmmfbbbljhifjaaLaw11Tells
import Derived.Test.YtmmfbbbljhifjaaLaw11Neg
import Derived.Test.YtmmfbbbljhifjaaLaw11Full
import Derived.Test.YtmmfbbbljhifjaaLaw11Ring
import Derived.Test.YtmmfbbbljhifjaaLaw11Bits
import Derived.Test.YtmmfbbbljhifjaaGbyt
namespace Go.Proofs.Ytmmfbbbljhifjaa
open Go.RowKit
set_option linter.unusedVariables false
set_option maxRecDepth 100000

theorem law11TellsI (C : ScC) {a b c : List UInt8} (ha : a.length = 32) (hb : b.length = 32) (hc : c.length = 32) {i : Int} (hi : (Lit.int .i64 i).wf = true) (w : World) : Calls Try.prog 3 #[.agg (arrB a), .agg (arrB b), .agg (arrB c), .int .i64 i] w fun e w' => e = .returned (.bool true) ∧ Below w.heap.size w w' :=
  law11Tells C a ha b hb c hc i (wf_i64 hi).1 (wf_i64 hi).2 w
end Go.Proofs.Ytmmfbbbljhifjaa

