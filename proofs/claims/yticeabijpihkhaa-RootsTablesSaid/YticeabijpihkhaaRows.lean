/-
  No cell of these rows narrows 'for every input' (looked for: loops, veiled, ifaces, maps, wideKeys, modest, calm, conditions, laid).
  DERIVED. THE GIVEN ROWS OF THIS SEAT. 5 by the template 'for every input the law returns true; each argument reads behind the call as it read before'; 0 by the template 'total and deterministic' (their statements: YticeabijpihkhaaTotals.lean).
  GIVEN WITH THE SEED: the statements are not yours to turn. If you find one false, say at which input.
  Laid BY PROGRAM, IN A SANDBOX (cutbox-rows.mjs): the forced cells as the released guide's own fill.sh prints them over the translation 1679158cd51dcc39… (all of the seat's roots in one cut). By AI agents, Wed Nov 11 2026. No macro, syntax, notation, axiom, sorry.
-/
import Derived.Test.YticeabijpihkhaaChecked
import GoSem.Claim
import GoSem.ClaimJoined
import GoSem.ClaimMapViews
import Derived.JoinedTies
import Derived.KernelRfl
namespace Go.Proofs.Yticeabijpihkhaa
/- THE CELL 'sum', in the pinned program and in every row, IS THE sha256 OF THE DUMP (.gsa) THAT YticeabijpihkhaaProg.lean LOADS. Nothing in Lean hashes anything: it is a label: what it is worth is what the hold of that sum in a sandbox is worth. -/
noncomputable def Try.pinned : Pinned := { name := "yticeabijpihkhaa", sum := "1679158cd51dcc39ef9fa07bf8f28ad145bfa9244117cd9dd6d900d96a9f14cf", checked := Try.checked }
namespace Rows
def none {H : Type} : Left H := { results := [], args := [] }

/-- 'bootjacklaw6.RootsTell': WHATEVER THE INPUT: true; the input reads as it did. -/
def rootsTellSpec : ChangeSpec := { name := "rootsTell", fn := fun _ => fun
  | [d] => { results := [.lit (.bool true)], args := [d] }
  | _ => none }
def rootsTellRow : OpenClaim := { program := "yticeabijpihkhaa", sum := "1679158cd51dcc39ef9fa07bf8f28ad145bfa9244117cd9dd6d900d96a9f14cf", func := "bootjack/bootjacklaw6.RootsTell", spec := "rootsTell", inPlace := ["math/bits.Add64", "math/bits.Sub64"], unfollowed := true, recurses := true, apart := false }
def RootsTellSaid : Prop := rootsTellRow.holds Try.pinned (OpenSpec.ofChange rootsTellSpec)

/-- ITS FALSE NEIGHBOUR: 'it returns false'. Refute it at one input. -/
def rootsTellWrong : ChangeSpec := { name := "rootsTell", fn := fun _ => fun
  | [d] => { results := [.lit (.bool false)], args := [d] }
  | _ => none }
def RootsTellWrongFalsely : Prop := rootsTellRow.holds Try.pinned (OpenSpec.ofChange rootsTellWrong)

/-- 'bootjacklaw6.RootsPrimes': WHATEVER THE INPUT: true; the input reads as it did. -/
def rootsPrimesSpec : ChangeSpec := { name := "rootsPrimes", fn := fun _ => fun
  | [d] => { results := [.lit (.bool true)], args := [d] }
  | _ => none }
def rootsPrimesRow : OpenClaim := { program := "yticeabijpihkhaa", sum := "1679158cd51dcc39ef9fa07bf8f28ad145bfa9244117cd9dd6d900d96a9f14cf", func := "bootjack/bootjacklaw6.RootsPrimes", spec := "rootsPrimes", inPlace := ["math/bits.Add64", "math/bits.Sub64"], unfollowed := true, recurses := true, apart := false }
def RootsPrimesSaid : Prop := rootsPrimesRow.holds Try.pinned (OpenSpec.ofChange rootsPrimesSpec)

/-- ITS FALSE NEIGHBOUR: 'it returns false'. Refute it at one input. -/
def rootsPrimesWrong : ChangeSpec := { name := "rootsPrimes", fn := fun _ => fun
  | [d] => { results := [.lit (.bool false)], args := [d] }
  | _ => none }
def RootsPrimesWrongFalsely : Prop := rootsPrimesRow.holds Try.pinned (OpenSpec.ofChange rootsPrimesWrong)

/-- 'bootjacklaw6.RootsTables': WHATEVER THE INPUT: true; the input reads as it did. -/
def rootsTablesSpec : ChangeSpec := { name := "rootsTables", fn := fun _ => fun
  | [d] => { results := [.lit (.bool true)], args := [d] }
  | _ => none }
def rootsTablesRow : OpenClaim := { program := "yticeabijpihkhaa", sum := "1679158cd51dcc39ef9fa07bf8f28ad145bfa9244117cd9dd6d900d96a9f14cf", func := "bootjack/bootjacklaw6.RootsTables", spec := "rootsTables", inPlace := ["math/bits.Add64", "math/bits.Sub64"], unfollowed := true, recurses := true, apart := false }
def RootsTablesSaid : Prop := rootsTablesRow.holds Try.pinned (OpenSpec.ofChange rootsTablesSpec)

/-- ITS FALSE NEIGHBOUR: 'it returns false'. Refute it at one input. -/
def rootsTablesWrong : ChangeSpec := { name := "rootsTables", fn := fun _ => fun
  | [d] => { results := [.lit (.bool false)], args := [d] }
  | _ => none }
def RootsTablesWrongFalsely : Prop := rootsTablesRow.holds Try.pinned (OpenSpec.ofChange rootsTablesWrong)

/-- 'bootjacklaw6.RootsWhole': WHATEVER THE INPUT: true; the input reads as it did. -/
def rootsWholeSpec : ChangeSpec := { name := "rootsWhole", fn := fun _ => fun
  | [d] => { results := [.lit (.bool true)], args := [d] }
  | _ => none }
def rootsWholeRow : OpenClaim := { program := "yticeabijpihkhaa", sum := "1679158cd51dcc39ef9fa07bf8f28ad145bfa9244117cd9dd6d900d96a9f14cf", func := "bootjack/bootjacklaw6.RootsWhole", spec := "rootsWhole", inPlace := ["math/bits.Add64", "math/bits.Sub64"], unfollowed := true, recurses := true, apart := false }
def RootsWholeSaid : Prop := rootsWholeRow.holds Try.pinned (OpenSpec.ofChange rootsWholeSpec)

/-- ITS FALSE NEIGHBOUR: 'it returns false'. Refute it at one input. -/
def rootsWholeWrong : ChangeSpec := { name := "rootsWhole", fn := fun _ => fun
  | [d] => { results := [.lit (.bool false)], args := [d] }
  | _ => none }
def RootsWholeWrongFalsely : Prop := rootsWholeRow.holds Try.pinned (OpenSpec.ofChange rootsWholeWrong)

/-- 'bootjacklaw6.RootsNear': WHATEVER THE INPUT: true; the input reads as it did. -/
def rootsNearSpec : ChangeSpec := { name := "rootsNear", fn := fun _ => fun
  | [d] => { results := [.lit (.bool true)], args := [d] }
  | _ => none }
def rootsNearRow : OpenClaim := { program := "yticeabijpihkhaa", sum := "1679158cd51dcc39ef9fa07bf8f28ad145bfa9244117cd9dd6d900d96a9f14cf", func := "bootjack/bootjacklaw6.RootsNear", spec := "rootsNear", inPlace := ["math/bits.Add64", "math/bits.Sub64"], unfollowed := true, recurses := true, apart := false }
def RootsNearSaid : Prop := rootsNearRow.holds Try.pinned (OpenSpec.ofChange rootsNearSpec)

/-- ITS FALSE NEIGHBOUR: 'it returns false'. Refute it at one input. -/
def rootsNearWrong : ChangeSpec := { name := "rootsNear", fn := fun _ => fun
  | [d] => { results := [.lit (.bool false)], args := [d] }
  | _ => none }
def RootsNearWrongFalsely : Prop := rootsNearRow.holds Try.pinned (OpenSpec.ofChange rootsNearWrong)

/- THE SECOND FORM. 'bulk': how many values and letters a reading holds, each counted each time it is reached (what is shared counts as often as it is met; a slice's spare places count too). A statement '..UptoSaid' is the law's where the arguments, and the package variables that the reading takes, are together of bulk at most 1048576: NARROWER than '..Said'. Prove '..Said' where nothing that the law and all that it calls make is longer than what came in: it says more and counts as full. Else prove '..UptoSaid'. A law counts once. -/
mutual
def uptoBulk {H : Type} : DataW H → Nat
  | .lit (.string bytes) => bytes.length + 1
  | .lit _ => 1
  | .nil => 1
  | .ptr d => uptoBulk d + 1
  | .slice elems spare => uptoBulkAll elems + uptoBulkAll spare + 1
  | .agg parts => uptoBulkAll parts + 1
  | .iface _ d => uptoBulk d + 1
  | .map entries => uptoBulkEntries entries + 1
  | .held _ => 1
def uptoBulkAll {H : Type} : List (DataW H) → Nat
  | [] => 0
  | d :: r => uptoBulk d + uptoBulkAll r
def uptoBulkEntries {H : Type} : List (Lit × DataW H) → Nat
  | [] => 0
  | x :: r => uptoBulkEntry x + uptoBulkEntries r
def uptoBulkEntry {H : Type} : Lit × DataW H → Nat
  | (.string bytes, d) => bytes.length + uptoBulk d + 1
  | (_, d) => uptoBulk d + 1
 end
def uptoSmall : (H : Type) → List (DataW H) → Bool := fun _ ds => decide (uptoBulkAll ds ≤ 1048576)
def OpenSpec.upto (s : _root_.Go.ChangeSpec) : _root_.Go.OpenSpec := { _root_.Go.OpenSpec.ofChange s with cond := some uptoSmall }

/-- 'bootjacklaw6.RootsTell', WHERE WHAT IT READS IS OF BULK AT MOST 1048576: true; the input reads as it did. -/
def rootsTellUptoRow : OpenClaim := { program := "yticeabijpihkhaa", sum := "1679158cd51dcc39ef9fa07bf8f28ad145bfa9244117cd9dd6d900d96a9f14cf", func := "bootjack/bootjacklaw6.RootsTell", spec := "rootsTell", inPlace := ["math/bits.Add64", "math/bits.Sub64"], unfollowed := true, recurses := true, apart := false, narrowed := true }
def RootsTellUptoSaid : Prop := rootsTellUptoRow.holds Try.pinned (OpenSpec.upto rootsTellSpec)

/-- 'bootjacklaw6.RootsPrimes', WHERE WHAT IT READS IS OF BULK AT MOST 1048576: true; the input reads as it did. -/
def rootsPrimesUptoRow : OpenClaim := { program := "yticeabijpihkhaa", sum := "1679158cd51dcc39ef9fa07bf8f28ad145bfa9244117cd9dd6d900d96a9f14cf", func := "bootjack/bootjacklaw6.RootsPrimes", spec := "rootsPrimes", inPlace := ["math/bits.Add64", "math/bits.Sub64"], unfollowed := true, recurses := true, apart := false, narrowed := true }
def RootsPrimesUptoSaid : Prop := rootsPrimesUptoRow.holds Try.pinned (OpenSpec.upto rootsPrimesSpec)

/-- 'bootjacklaw6.RootsTables', WHERE WHAT IT READS IS OF BULK AT MOST 1048576: true; the input reads as it did. -/
def rootsTablesUptoRow : OpenClaim := { program := "yticeabijpihkhaa", sum := "1679158cd51dcc39ef9fa07bf8f28ad145bfa9244117cd9dd6d900d96a9f14cf", func := "bootjack/bootjacklaw6.RootsTables", spec := "rootsTables", inPlace := ["math/bits.Add64", "math/bits.Sub64"], unfollowed := true, recurses := true, apart := false, narrowed := true }
def RootsTablesUptoSaid : Prop := rootsTablesUptoRow.holds Try.pinned (OpenSpec.upto rootsTablesSpec)

/-- 'bootjacklaw6.RootsWhole', WHERE WHAT IT READS IS OF BULK AT MOST 1048576: true; the input reads as it did. -/
def rootsWholeUptoRow : OpenClaim := { program := "yticeabijpihkhaa", sum := "1679158cd51dcc39ef9fa07bf8f28ad145bfa9244117cd9dd6d900d96a9f14cf", func := "bootjack/bootjacklaw6.RootsWhole", spec := "rootsWhole", inPlace := ["math/bits.Add64", "math/bits.Sub64"], unfollowed := true, recurses := true, apart := false, narrowed := true }
def RootsWholeUptoSaid : Prop := rootsWholeUptoRow.holds Try.pinned (OpenSpec.upto rootsWholeSpec)

/-- 'bootjacklaw6.RootsNear', WHERE WHAT IT READS IS OF BULK AT MOST 1048576: true; the input reads as it did. -/
def rootsNearUptoRow : OpenClaim := { program := "yticeabijpihkhaa", sum := "1679158cd51dcc39ef9fa07bf8f28ad145bfa9244117cd9dd6d900d96a9f14cf", func := "bootjack/bootjacklaw6.RootsNear", spec := "rootsNear", inPlace := ["math/bits.Add64", "math/bits.Sub64"], unfollowed := true, recurses := true, apart := false, narrowed := true }
def RootsNearUptoSaid : Prop := rootsNearUptoRow.holds Try.pinned (OpenSpec.upto rootsNearSpec)

end Rows
end Go.Proofs.Yticeabijpihkhaa
