/- What layer 10's walks ask of package powers. -/
import Derived.Test.YtfejabfmhddepaaGpow
namespace Go.Proofs.Ytfejabfmhddepaa
open Go.RowKit
set_option linter.unusedVariables false
set_option maxRecDepth 100000

/-- what layer 10 calls of package fe -/
structure Fe10C (R : Array Value → Nat → Prop) : Prop where
  base : FeB R
  from_ : FeFromC R
  small : FeSmallC R
  bytes : FeBytesC R
  mul : FeMulC R
  square : FeSquareC R
  neg : FeNegC R
  equal : FeEqualC R
  isZero : FeIsZeroC R
  odd : FeOddC R
/-- a number and a flag come back -/
def RetFeB (R : Array Value → Nat → Prop) (W : World) (x : Nat) (b : Bool) (e : Ending) (w' : World) : Prop := ∃ c, e = .returned (.tuple #[.agg c, .bool b]) ∧ R c x ∧ Below W.heap.size W w'
end Go.Proofs.Ytfejabfmhddepaa

