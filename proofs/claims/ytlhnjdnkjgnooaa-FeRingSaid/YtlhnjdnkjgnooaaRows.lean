/-
  No cell of these rows narrows 'for every input' (looked for: loops, veiled, ifaces, maps, wideKeys, modest, calm, conditions, laid).
  DERIVED. THE GIVEN ROWS OF THIS SEAT. 6 by the template 'for every input the law returns true; each argument reads behind the call as it read before'; 0 by the template 'total and deterministic' (their statements: YtlhnjdnkjgnooaaTotals.lean).
  GIVEN WITH THE SEED: the statements are not yours to turn. If you find one false, say at which input.
  Laid BY PROGRAM, IN A SANDBOX (cutbox-rows.mjs): the forced cells as the released guide's own fill.sh prints them over the translation c1716d6d94137018… (all of the seat's roots in one cut). By AI agents, Wed Nov 11 2026. No macro, syntax, notation, axiom, sorry.
-/
import Derived.Test.YtlhnjdnkjgnooaaChecked
import GoSem.Claim
import GoSem.ClaimJoined
import GoSem.ClaimMapViews
import Derived.JoinedTies
import Derived.KernelRfl
namespace Go.Proofs.Ytlhnjdnkjgnooaa
/- THE CELL 'sum', in the pinned program and in every row, IS THE sha256 OF THE DUMP (.gsa) THAT YtlhnjdnkjgnooaaProg.lean LOADS. Nothing in Lean hashes anything: it is a label: what it is worth is what the hold of that sum in a sandbox is worth. -/
noncomputable def Try.pinned : Pinned := { name := "ytlhnjdnkjgnooaa", sum := "c1716d6d941370186284c84da9dd7fd307d491945b5f2548a80dc164cd05bcd4", checked := Try.checked }
namespace Rows
def none {H : Type} : Left H := { results := [], args := [] }

/-- 'bootjacklaw9.FeTells': WHATEVER THE INPUT: true; the input reads as it did. -/
def feTellsSpec : ChangeSpec := { name := "feTells", fn := fun _ => fun
  | [d1, d2, d3] => { results := [.lit (.bool true)], args := [d1, d2, d3] }
  | _ => none }
def feTellsRow : OpenClaim := { program := "ytlhnjdnkjgnooaa", sum := "c1716d6d941370186284c84da9dd7fd307d491945b5f2548a80dc164cd05bcd4", func := "bootjack/bootjacklaw9.FeTells", spec := "feTells", inPlace := ["math/bits.Add64"], apart := false }
def FeTellsSaid : Prop := feTellsRow.holds Try.pinned (OpenSpec.ofChange feTellsSpec)

/-- ITS FALSE NEIGHBOUR: 'it returns false'. Refute it at one input. -/
def feTellsWrong : ChangeSpec := { name := "feTells", fn := fun _ => fun
  | [d1, d2, d3] => { results := [.lit (.bool false)], args := [d1, d2, d3] }
  | _ => none }
def FeTellsWrongFalsely : Prop := feTellsRow.holds Try.pinned (OpenSpec.ofChange feTellsWrong)

/-- 'bootjacklaw9.FeRuns': WHATEVER THE INPUT: true; the input reads as it did. -/
def feRunsSpec : ChangeSpec := { name := "feRuns", fn := fun _ => fun
  | [d1, d2, d3] => { results := [.lit (.bool true)], args := [d1, d2, d3] }
  | _ => none }
def feRunsRow : OpenClaim := { program := "ytlhnjdnkjgnooaa", sum := "c1716d6d941370186284c84da9dd7fd307d491945b5f2548a80dc164cd05bcd4", func := "bootjack/bootjacklaw9.FeRuns", spec := "feRuns", inPlace := ["math/bits.Add64"], apart := false }
def FeRunsSaid : Prop := feRunsRow.holds Try.pinned (OpenSpec.ofChange feRunsSpec)

/-- ITS FALSE NEIGHBOUR: 'it returns false'. Refute it at one input. -/
def feRunsWrong : ChangeSpec := { name := "feRuns", fn := fun _ => fun
  | [d1, d2, d3] => { results := [.lit (.bool false)], args := [d1, d2, d3] }
  | _ => none }
def FeRunsWrongFalsely : Prop := feRunsRow.holds Try.pinned (OpenSpec.ofChange feRunsWrong)

/-- 'bootjacklaw9.FeRing': WHATEVER THE INPUT: true; the input reads as it did. -/
def feRingSpec : ChangeSpec := { name := "feRing", fn := fun _ => fun
  | [d1, d2, d3] => { results := [.lit (.bool true)], args := [d1, d2, d3] }
  | _ => none }
def feRingRow : OpenClaim := { program := "ytlhnjdnkjgnooaa", sum := "c1716d6d941370186284c84da9dd7fd307d491945b5f2548a80dc164cd05bcd4", func := "bootjack/bootjacklaw9.FeRing", spec := "feRing", inPlace := ["math/bits.Add64"], apart := false }
def FeRingSaid : Prop := feRingRow.holds Try.pinned (OpenSpec.ofChange feRingSpec)

/-- ITS FALSE NEIGHBOUR: 'it returns false'. Refute it at one input. -/
def feRingWrong : ChangeSpec := { name := "feRing", fn := fun _ => fun
  | [d1, d2, d3] => { results := [.lit (.bool false)], args := [d1, d2, d3] }
  | _ => none }
def FeRingWrongFalsely : Prop := feRingRow.holds Try.pinned (OpenSpec.ofChange feRingWrong)

/-- 'bootjacklaw9.FeBack': WHATEVER THE INPUT: true; the input reads as it did. -/
def feBackSpec : ChangeSpec := { name := "feBack", fn := fun _ => fun
  | [d] => { results := [.lit (.bool true)], args := [d] }
  | _ => none }
def feBackRow : OpenClaim := { program := "ytlhnjdnkjgnooaa", sum := "c1716d6d941370186284c84da9dd7fd307d491945b5f2548a80dc164cd05bcd4", func := "bootjack/bootjacklaw9.FeBack", spec := "feBack", apart := false }
def FeBackSaid : Prop := feBackRow.holds Try.pinned (OpenSpec.ofChange feBackSpec)

/-- ITS FALSE NEIGHBOUR: 'it returns false'. Refute it at one input. -/
def feBackWrong : ChangeSpec := { name := "feBack", fn := fun _ => fun
  | [d] => { results := [.lit (.bool false)], args := [d] }
  | _ => none }
def FeBackWrongFalsely : Prop := feBackRow.holds Try.pinned (OpenSpec.ofChange feBackWrong)

/-- 'bootjacklaw9.FeNeg': WHATEVER THE INPUT: true; the input reads as it did. -/
def feNegSpec : ChangeSpec := { name := "feNeg", fn := fun _ => fun
  | [d1, d2] => { results := [.lit (.bool true)], args := [d1, d2] }
  | _ => none }
def feNegRow : OpenClaim := { program := "ytlhnjdnkjgnooaa", sum := "c1716d6d941370186284c84da9dd7fd307d491945b5f2548a80dc164cd05bcd4", func := "bootjack/bootjacklaw9.FeNeg", spec := "feNeg", inPlace := ["math/bits.Add64"], apart := false }
def FeNegSaid : Prop := feNegRow.holds Try.pinned (OpenSpec.ofChange feNegSpec)

/-- ITS FALSE NEIGHBOUR: 'it returns false'. Refute it at one input. -/
def feNegWrong : ChangeSpec := { name := "feNeg", fn := fun _ => fun
  | [d1, d2] => { results := [.lit (.bool false)], args := [d1, d2] }
  | _ => none }
def FeNegWrongFalsely : Prop := feNegRow.holds Try.pinned (OpenSpec.ofChange feNegWrong)

/-- 'bootjacklaw9.FeEdges': WHATEVER THE INPUT: true; the input reads as it did. -/
def feEdgesSpec : ChangeSpec := { name := "feEdges", fn := fun _ => fun
  | [d] => { results := [.lit (.bool true)], args := [d] }
  | _ => none }
def feEdgesRow : OpenClaim := { program := "ytlhnjdnkjgnooaa", sum := "c1716d6d941370186284c84da9dd7fd307d491945b5f2548a80dc164cd05bcd4", func := "bootjack/bootjacklaw9.FeEdges", spec := "feEdges", apart := false }
def FeEdgesSaid : Prop := feEdgesRow.holds Try.pinned (OpenSpec.ofChange feEdgesSpec)

/-- ITS FALSE NEIGHBOUR: 'it returns false'. Refute it at one input. -/
def feEdgesWrong : ChangeSpec := { name := "feEdges", fn := fun _ => fun
  | [d] => { results := [.lit (.bool false)], args := [d] }
  | _ => none }
def FeEdgesWrongFalsely : Prop := feEdgesRow.holds Try.pinned (OpenSpec.ofChange feEdgesWrong)

/- THE SECOND FORM. 'bulk': how many values and letters a reading holds, each counted each time it is reached (what is shared counts as often as it is met; a slice's spare places count too). A statement '..UptoSaid' is the law's where the arguments, and the package variables that the reading takes, are together of bulk at most 1048576: NARROWER than '..Said'. Prove '..Said' where nothing that the law and all that it calls make is longer than what came in: it says more and counts as full. Else prove '..UptoSaid'. A law counts once. -/
mutual
def uptoBulk {H : Type} : DataW H → Nat
  | .lit (.string bytes) => bytes.length + 1
  | .lit _ => 1
  | .nil => 1
  | .ptr d => uptoBulk d + 1
  | .slice elems spare => uptoBulkAll elems + uptoBulkAll spare + 1
  | .agg parts => uptoBulkAll parts + 1
  | .iface _ d => uptoBulk d + 1
  | .map entries => uptoBulkEntries entries + 1
  | .held _ => 1
def uptoBulkAll {H : Type} : List (DataW H) → Nat
  | [] => 0
  | d :: r => uptoBulk d + uptoBulkAll r
def uptoBulkEntries {H : Type} : List (Lit × DataW H) → Nat
  | [] => 0
  | x :: r => uptoBulkEntry x + uptoBulkEntries r
def uptoBulkEntry {H : Type} : Lit × DataW H → Nat
  | (.string bytes, d) => bytes.length + uptoBulk d + 1
  | (_, d) => uptoBulk d + 1
 end
def uptoSmall : (H : Type) → List (DataW H) → Bool := fun _ ds => decide (uptoBulkAll ds ≤ 1048576)
def OpenSpec.upto (s : _root_.Go.ChangeSpec) : _root_.Go.OpenSpec := { _root_.Go.OpenSpec.ofChange s with cond := some uptoSmall }

/-- 'bootjacklaw9.FeTells', WHERE WHAT IT READS IS OF BULK AT MOST 1048576: true; the input reads as it did. -/
def feTellsUptoRow : OpenClaim := { program := "ytlhnjdnkjgnooaa", sum := "c1716d6d941370186284c84da9dd7fd307d491945b5f2548a80dc164cd05bcd4", func := "bootjack/bootjacklaw9.FeTells", spec := "feTells", inPlace := ["math/bits.Add64"], apart := false, narrowed := true }
def FeTellsUptoSaid : Prop := feTellsUptoRow.holds Try.pinned (OpenSpec.upto feTellsSpec)

/-- 'bootjacklaw9.FeRuns', WHERE WHAT IT READS IS OF BULK AT MOST 1048576: true; the input reads as it did. -/
def feRunsUptoRow : OpenClaim := { program := "ytlhnjdnkjgnooaa", sum := "c1716d6d941370186284c84da9dd7fd307d491945b5f2548a80dc164cd05bcd4", func := "bootjack/bootjacklaw9.FeRuns", spec := "feRuns", inPlace := ["math/bits.Add64"], apart := false, narrowed := true }
def FeRunsUptoSaid : Prop := feRunsUptoRow.holds Try.pinned (OpenSpec.upto feRunsSpec)

/-- 'bootjacklaw9.FeRing', WHERE WHAT IT READS IS OF BULK AT MOST 1048576: true; the input reads as it did. -/
def feRingUptoRow : OpenClaim := { program := "ytlhnjdnkjgnooaa", sum := "c1716d6d941370186284c84da9dd7fd307d491945b5f2548a80dc164cd05bcd4", func := "bootjack/bootjacklaw9.FeRing", spec := "feRing", inPlace := ["math/bits.Add64"], apart := false, narrowed := true }
def FeRingUptoSaid : Prop := feRingUptoRow.holds Try.pinned (OpenSpec.upto feRingSpec)

/-- 'bootjacklaw9.FeBack', WHERE WHAT IT READS IS OF BULK AT MOST 1048576: true; the input reads as it did. -/
def feBackUptoRow : OpenClaim := { program := "ytlhnjdnkjgnooaa", sum := "c1716d6d941370186284c84da9dd7fd307d491945b5f2548a80dc164cd05bcd4", func := "bootjack/bootjacklaw9.FeBack", spec := "feBack", apart := false, narrowed := true }
def FeBackUptoSaid : Prop := feBackUptoRow.holds Try.pinned (OpenSpec.upto feBackSpec)

/-- 'bootjacklaw9.FeNeg', WHERE WHAT IT READS IS OF BULK AT MOST 1048576: true; the input reads as it did. -/
def feNegUptoRow : OpenClaim := { program := "ytlhnjdnkjgnooaa", sum := "c1716d6d941370186284c84da9dd7fd307d491945b5f2548a80dc164cd05bcd4", func := "bootjack/bootjacklaw9.FeNeg", spec := "feNeg", inPlace := ["math/bits.Add64"], apart := false, narrowed := true }
def FeNegUptoSaid : Prop := feNegUptoRow.holds Try.pinned (OpenSpec.upto feNegSpec)

/-- 'bootjacklaw9.FeEdges', WHERE WHAT IT READS IS OF BULK AT MOST 1048576: true; the input reads as it did. -/
def feEdgesUptoRow : OpenClaim := { program := "ytlhnjdnkjgnooaa", sum := "c1716d6d941370186284c84da9dd7fd307d491945b5f2548a80dc164cd05bcd4", func := "bootjack/bootjacklaw9.FeEdges", spec := "feEdges", apart := false, narrowed := true }
def FeEdgesUptoSaid : Prop := feEdgesUptoRow.holds Try.pinned (OpenSpec.upto feEdgesSpec)

end Rows
end Go.Proofs.Ytlhnjdnkjgnooaa
