/- What layer 10's walks ask of package powers. -/
import Derived.Test.YtjekeblcppkghaaGpow
namespace Go.Proofs.Ytjekeblcppkghaa
open Go.RowKit
set_option linter.unusedVariables false
set_option maxRecDepth 100000

/-- what layer 10 calls of package fe -/
structure Fe10C (R : Array Value → Nat → Prop) : Prop where
  base : FeB R
  from_ : FeFromC R
  small : FeSmallC R
  bytes : FeBytesC R
  mul : FeMulC R
  square : FeSquareC R
  neg : FeNegC R
  equal : FeEqualC R
  isZero : FeIsZeroC R
  odd : FeOddC R
/-- a number and a flag come back -/
def RetFeB (R : Array Value → Nat → Prop) (W : World) (x : Nat) (b : Bool) (e : Ending) (w' : World) : Prop := ∃ c, e = .returned (.tuple #[.agg c, .bool b]) ∧ R c x ∧ Below W.heap.size W w'
/-- package powers, function by function -/
structure PowC (R : Array Value → Nat → Prop) : Prop where
  pow : ∀ {c x}, R c x → ∀ (l : List UInt8), l.length = 32 → ∀ W : World, Calls Try.prog 15 #[.agg c, .agg (arrB l)] W (RetFe R W (pwN x (leN l)))
  invert : ∀ {c x}, R c x → ∀ W : World, Calls Try.prog 19 #[.agg c] W (RetFe R W (invN x))
  sqrt : ∀ {c x}, R c x → ∀ W : World, Calls Try.prog 11 #[.agg c] W (RetFeB R W (rootN x) (isN x))
  ratio : ∀ {c x d y}, R c x → R d y → ∀ W : World, Calls Try.prog 13 #[.agg c, .agg d] W (RetFeB R W (ratN x y) (fineN x y))
end Go.Proofs.Ytjekeblcppkghaa

