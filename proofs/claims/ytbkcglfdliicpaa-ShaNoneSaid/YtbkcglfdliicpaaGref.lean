/- The contract of bootjackref1.bit. The contract of bootjackref1.Cap. The contract of bootjackref1.picked. The contract of bootjackref1.Blank. The contract of bootjackref1.IsBlank. The contract of bootjackref1.Can. The contract of bootjackref1.Program. The contract of bootjackref1.Between. The contract of bootjackref1.Risen. The contract of bootjackref1.Half. The contract of bootjackref1.Torn. -/
import Derived.Test.YtbkcglfdliicpaaGbase
namespace Go.Proofs.Ytbkcglfdliicpaa
open Go.RowKit
set_option linter.unusedVariables false
set_option maxRecDepth 100000

end Go.Proofs.Ytbkcglfdliicpaa

namespace Go.Proofs.Ytbkcglfdliicpaa
open Go.RowKit
set_option linter.unusedVariables false
set_option maxRecDepth 100000

theorem cap_is (n : Int) : ∃ K : Nat, K ≤ 65536 ∧ (K : Int) = max 0 (min n 65536) ∧ (if n < 0 then 0 else if 65536 < n then 65536 else n) = (K : Int) :=
  ⟨(max 0 (min n 65536)).toNat, by omega, by omega, by split <;> (try split) <;> omega⟩

end Go.Proofs.Ytbkcglfdliicpaa

namespace Go.Proofs.Ytbkcglfdliicpaa
open Go.RowKit
set_option linter.unusedVariables false
set_option maxRecDepth 100000

end Go.Proofs.Ytbkcglfdliicpaa

namespace Go.Proofs.Ytbkcglfdliicpaa
open Go.RowKit
set_option linter.unusedVariables false
set_option maxRecDepth 100000

section
variable {w W : World} {A1 A2 A3 : Option Addr} {l m p : List UInt8} {n1 n2 n3 c1 c2 c3 : Nat}

end
end Go.Proofs.Ytbkcglfdliicpaa

namespace Go.Proofs.Ytbkcglfdliicpaa
open Go.RowKit
set_option linter.unusedVariables false
set_option maxRecDepth 100000

section
variable {w W : World} {A1 A2 A3 : Option Addr} {l m p : List UInt8} {n1 n2 n3 c1 c2 c3 : Nat}

end
end Go.Proofs.Ytbkcglfdliicpaa

namespace Go.Proofs.Ytbkcglfdliicpaa
open Go.RowKit
set_option linter.unusedVariables false
set_option maxRecDepth 100000

section
variable {w W : World} {A1 A2 A3 : Option Addr} {l m p : List UInt8} {n1 n2 n3 c1 c2 c3 : Nat}

end
end Go.Proofs.Ytbkcglfdliicpaa

namespace Go.Proofs.Ytbkcglfdliicpaa
open Go.RowKit
set_option linter.unusedVariables false
set_option maxRecDepth 100000

section
variable {w W : World} {A1 A2 A3 : Option Addr} {l m p : List UInt8} {n1 n2 n3 c1 c2 c3 : Nat}

end
end Go.Proofs.Ytbkcglfdliicpaa

namespace Go.Proofs.Ytbkcglfdliicpaa
open Go.RowKit
set_option linter.unusedVariables false
set_option maxRecDepth 100000

section
variable {w W : World} {A1 A2 A3 : Option Addr} {l m p : List UInt8} {n1 n2 n3 c1 c2 c3 : Nat}

end
end Go.Proofs.Ytbkcglfdliicpaa

namespace Go.Proofs.Ytbkcglfdliicpaa
open Go.RowKit
set_option linter.unusedVariables false
set_option maxRecDepth 100000

section
variable {w W : World} {A1 A2 A3 : Option Addr} {l m p : List UInt8} {n1 n2 n3 c1 c2 c3 : Nat}

end
end Go.Proofs.Ytbkcglfdliicpaa

namespace Go.Proofs.Ytbkcglfdliicpaa
open Go.RowKit
set_option linter.unusedVariables false
set_option maxRecDepth 100000

section
variable {w W : World} {A1 A2 A3 : Option Addr} {l m p : List UInt8} {n1 n2 n3 c1 c2 c3 : Nat}

end
end Go.Proofs.Ytbkcglfdliicpaa

namespace Go.Proofs.Ytbkcglfdliicpaa
open Go.RowKit
set_option linter.unusedVariables false
set_option maxRecDepth 100000

section
variable {w W : World} {A1 A2 A3 : Option Addr} {l m p : List UInt8} {n1 n2 n3 c1 c2 c3 : Nat}

end
end Go.Proofs.Ytbkcglfdliicpaa

