/- The contract of bytes.Clone. The contract of nor.Can. The contract of nor.Blank. The contract of nor.IsBlank. The contract of nor.Program. The contract of nor.Between. The contract of nor.Risen. The contract of nor.Half. The contract of nor.Torn. -/
import Derived.Test.YtbkcglfdliicpaaGbase
namespace Go.Proofs.Ytbkcglfdliicpaa
open Go.RowKit
set_option linter.unusedVariables false
set_option maxRecDepth 100000

end Go.Proofs.Ytbkcglfdliicpaa

namespace Go.Proofs.Ytbkcglfdliicpaa
open Go.RowKit
set_option linter.unusedVariables false
set_option maxRecDepth 100000

section
variable {w W : World} {A1 A2 A3 : Option Addr} {l m p : List UInt8} {n1 n2 n3 c1 c2 c3 : Nat}

end
end Go.Proofs.Ytbkcglfdliicpaa

namespace Go.Proofs.Ytbkcglfdliicpaa
open Go.RowKit
set_option linter.unusedVariables false
set_option maxRecDepth 100000

def BlankCut (w : World) (n : Int) (s3 : Value) (w1 : World) : Prop := ∃ K : Nat, (K : Int) = max 0 (min n 65536) ∧ s3 = .slice (some ⟨w.heap.size, 0, none⟩) K K ∧ w1 = w.alloc (.cells (madeCells #[.int .u8 0] K) 5)

section
variable {w W : World} {A1 A2 A3 : Option Addr} {l m p : List UInt8} {n1 n2 n3 c1 c2 c3 : Nat}

end
end Go.Proofs.Ytbkcglfdliicpaa

namespace Go.Proofs.Ytbkcglfdliicpaa
open Go.RowKit
set_option linter.unusedVariables false
set_option maxRecDepth 100000

section
variable {w W : World} {A1 A2 A3 : Option Addr} {l m p : List UInt8} {n1 n2 n3 c1 c2 c3 : Nat}

end
end Go.Proofs.Ytbkcglfdliicpaa

namespace Go.Proofs.Ytbkcglfdliicpaa
open Go.RowKit
set_option linter.unusedVariables false
set_option maxRecDepth 100000

section
variable {w W : World} {A1 A2 A3 : Option Addr} {l m p : List UInt8} {n1 n2 n3 c1 c2 c3 : Nat}

end
end Go.Proofs.Ytbkcglfdliicpaa

namespace Go.Proofs.Ytbkcglfdliicpaa
open Go.RowKit
set_option linter.unusedVariables false
set_option maxRecDepth 100000

section
variable {w W : World} {A1 A2 A3 : Option Addr} {l m p : List UInt8} {n1 n2 n3 c1 c2 c3 : Nat}

end
end Go.Proofs.Ytbkcglfdliicpaa

namespace Go.Proofs.Ytbkcglfdliicpaa
open Go.RowKit
set_option linter.unusedVariables false
set_option maxRecDepth 100000

section
variable {w W : World} {A1 A2 A3 : Option Addr} {l m p : List UInt8} {n1 n2 n3 c1 c2 c3 : Nat}

end
end Go.Proofs.Ytbkcglfdliicpaa

namespace Go.Proofs.Ytbkcglfdliicpaa
open Go.RowKit
set_option linter.unusedVariables false
set_option maxRecDepth 100000

section
variable {w W : World} {A1 A2 A3 : Option Addr} {l m p : List UInt8} {n1 n2 n3 c1 c2 c3 : Nat}

end
end Go.Proofs.Ytbkcglfdliicpaa

namespace Go.Proofs.Ytbkcglfdliicpaa
open Go.RowKit
set_option linter.unusedVariables false
set_option maxRecDepth 100000

section
variable {w W : World} {A1 A2 A3 : Option Addr} {l m p : List UInt8} {n1 n2 n3 c1 c2 c3 : Nat}

end
end Go.Proofs.Ytbkcglfdliicpaa

