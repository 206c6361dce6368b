/-
  No cell of these rows narrows 'for every input' (looked for: loops, veiled, ifaces, maps, wideKeys, modest, calm, conditions, laid).
  DERIVED. THE GIVEN ROWS OF THIS SEAT. 5 by the template 'for every input the law returns true; each argument reads behind the call as it read before'; 0 by the template 'total and deterministic' (their statements: YtlbododoooibbaaTotals.lean).
  GIVEN WITH THE SEED: the statements are not yours to turn. If you find one false, say at which input.
  Laid BY PROGRAM, IN A SANDBOX (cutbox-rows.mjs): the forced cells as the released guide's own fill.sh prints them over the translation 37b27a6abb7aa524… (all of the seat's roots in one cut). By AI agents, Wed Nov 11 2026. No macro, syntax, notation, axiom, sorry.
-/
import Derived.Test.YtlbododoooibbaaChecked
import GoSem.Claim
import GoSem.ClaimJoined
import GoSem.ClaimMapViews
import Derived.JoinedTies
import Derived.KernelRfl
namespace Go.Proofs.Ytlbododoooibbaa
/- THE CELL 'sum', in the pinned program and in every row, IS THE sha256 OF THE DUMP (.gsa) THAT YtlbododoooibbaaProg.lean LOADS. Nothing in Lean hashes anything: it is a label: what it is worth is what the hold of that sum in a sandbox is worth. -/
noncomputable def Try.pinned : Pinned := { name := "ytlbododoooibbaa", sum := "37b27a6abb7aa524f5c4b9ae25551eca3fda37145e3e99b80ba0465e22eba7ea", checked := Try.checked }
namespace Rows
def none {H : Type} : Left H := { results := [], args := [] }

/-- 'bootjacklaw1.NorTells': WHATEVER THE INPUT: true; the input reads as it did. -/
def norTellsSpec : ChangeSpec := { name := "norTells", fn := fun _ => fun
  | [d1, d2, d3, d4, d5] => { results := [.lit (.bool true)], args := [d1, d2, d3, d4, d5] }
  | _ => none }
def norTellsRow : OpenClaim := { program := "ytlbododoooibbaa", sum := "37b27a6abb7aa524f5c4b9ae25551eca3fda37145e3e99b80ba0465e22eba7ea", func := "bootjack/bootjacklaw1.NorTells", spec := "norTells", apart := false }
def NorTellsSaid : Prop := norTellsRow.holds Try.pinned (OpenSpec.ofChange norTellsSpec)

/-- ITS FALSE NEIGHBOUR: 'it returns false'. Refute it at one input. -/
def norTellsWrong : ChangeSpec := { name := "norTells", fn := fun _ => fun
  | [d1, d2, d3, d4, d5] => { results := [.lit (.bool false)], args := [d1, d2, d3, d4, d5] }
  | _ => none }
def NorTellsWrongFalsely : Prop := norTellsRow.holds Try.pinned (OpenSpec.ofChange norTellsWrong)

/-- 'bootjacklaw1.NorTorn': WHATEVER THE INPUT: true; the input reads as it did. -/
def norTornSpec : ChangeSpec := { name := "norTorn", fn := fun _ => fun
  | [d1, d2, d3] => { results := [.lit (.bool true)], args := [d1, d2, d3] }
  | _ => none }
def norTornRow : OpenClaim := { program := "ytlbododoooibbaa", sum := "37b27a6abb7aa524f5c4b9ae25551eca3fda37145e3e99b80ba0465e22eba7ea", func := "bootjack/bootjacklaw1.NorTorn", spec := "norTorn", apart := false }
def NorTornSaid : Prop := norTornRow.holds Try.pinned (OpenSpec.ofChange norTornSpec)

/-- ITS FALSE NEIGHBOUR: 'it returns false'. Refute it at one input. -/
def norTornWrong : ChangeSpec := { name := "norTorn", fn := fun _ => fun
  | [d1, d2, d3] => { results := [.lit (.bool false)], args := [d1, d2, d3] }
  | _ => none }
def NorTornWrongFalsely : Prop := norTornRow.holds Try.pinned (OpenSpec.ofChange norTornWrong)

/-- 'bootjacklaw1.NorOrder': WHATEVER THE INPUT: true; the input reads as it did. -/
def norOrderSpec : ChangeSpec := { name := "norOrder", fn := fun _ => fun
  | [d1, d2, d3] => { results := [.lit (.bool true)], args := [d1, d2, d3] }
  | _ => none }
def norOrderRow : OpenClaim := { program := "ytlbododoooibbaa", sum := "37b27a6abb7aa524f5c4b9ae25551eca3fda37145e3e99b80ba0465e22eba7ea", func := "bootjack/bootjacklaw1.NorOrder", spec := "norOrder", apart := false }
def NorOrderSaid : Prop := norOrderRow.holds Try.pinned (OpenSpec.ofChange norOrderSpec)

/-- ITS FALSE NEIGHBOUR: 'it returns false'. Refute it at one input. -/
def norOrderWrong : ChangeSpec := { name := "norOrder", fn := fun _ => fun
  | [d1, d2, d3] => { results := [.lit (.bool false)], args := [d1, d2, d3] }
  | _ => none }
def NorOrderWrongFalsely : Prop := norOrderRow.holds Try.pinned (OpenSpec.ofChange norOrderWrong)

/-- 'bootjacklaw1.NorTwice': WHATEVER THE INPUT: true; the input reads as it did. -/
def norTwiceSpec : ChangeSpec := { name := "norTwice", fn := fun _ => fun
  | [d1, d2, d3] => { results := [.lit (.bool true)], args := [d1, d2, d3] }
  | _ => none }
def norTwiceRow : OpenClaim := { program := "ytlbododoooibbaa", sum := "37b27a6abb7aa524f5c4b9ae25551eca3fda37145e3e99b80ba0465e22eba7ea", func := "bootjack/bootjacklaw1.NorTwice", spec := "norTwice", apart := false }
def NorTwiceSaid : Prop := norTwiceRow.holds Try.pinned (OpenSpec.ofChange norTwiceSpec)

/-- ITS FALSE NEIGHBOUR: 'it returns false'. Refute it at one input. -/
def norTwiceWrong : ChangeSpec := { name := "norTwice", fn := fun _ => fun
  | [d1, d2, d3] => { results := [.lit (.bool false)], args := [d1, d2, d3] }
  | _ => none }
def NorTwiceWrongFalsely : Prop := norTwiceRow.holds Try.pinned (OpenSpec.ofChange norTwiceWrong)

/-- 'bootjacklaw1.NorHalf': WHATEVER THE INPUT: true; the input reads as it did. -/
def norHalfSpec : ChangeSpec := { name := "norHalf", fn := fun _ => fun
  | [d1, d2] => { results := [.lit (.bool true)], args := [d1, d2] }
  | _ => none }
def norHalfRow : OpenClaim := { program := "ytlbododoooibbaa", sum := "37b27a6abb7aa524f5c4b9ae25551eca3fda37145e3e99b80ba0465e22eba7ea", func := "bootjack/bootjacklaw1.NorHalf", spec := "norHalf", apart := false }
def NorHalfSaid : Prop := norHalfRow.holds Try.pinned (OpenSpec.ofChange norHalfSpec)

/-- ITS FALSE NEIGHBOUR: 'it returns false'. Refute it at one input. -/
def norHalfWrong : ChangeSpec := { name := "norHalf", fn := fun _ => fun
  | [d1, d2] => { results := [.lit (.bool false)], args := [d1, d2] }
  | _ => none }
def NorHalfWrongFalsely : Prop := norHalfRow.holds Try.pinned (OpenSpec.ofChange norHalfWrong)

/- THE SECOND FORM. 'bulk': how many values and letters a reading holds, each counted each time it is reached (what is shared counts as often as it is met; a slice's spare places count too). A statement '..UptoSaid' is the law's where the arguments, and the package variables that the reading takes, are together of bulk at most 1048576: NARROWER than '..Said'. Prove '..Said' where nothing that the law and all that it calls make is longer than what came in: it says more and counts as full. Else prove '..UptoSaid'. A law counts once. -/
mutual
def uptoBulk {H : Type} : DataW H → Nat
  | .lit (.string bytes) => bytes.length + 1
  | .lit _ => 1
  | .nil => 1
  | .ptr d => uptoBulk d + 1
  | .slice elems spare => uptoBulkAll elems + uptoBulkAll spare + 1
  | .agg parts => uptoBulkAll parts + 1
  | .iface _ d => uptoBulk d + 1
  | .map entries => uptoBulkEntries entries + 1
  | .held _ => 1
def uptoBulkAll {H : Type} : List (DataW H) → Nat
  | [] => 0
  | d :: r => uptoBulk d + uptoBulkAll r
def uptoBulkEntries {H : Type} : List (Lit × DataW H) → Nat
  | [] => 0
  | x :: r => uptoBulkEntry x + uptoBulkEntries r
def uptoBulkEntry {H : Type} : Lit × DataW H → Nat
  | (.string bytes, d) => bytes.length + uptoBulk d + 1
  | (_, d) => uptoBulk d + 1
 end
def uptoSmall : (H : Type) → List (DataW H) → Bool := fun _ ds => decide (uptoBulkAll ds ≤ 1048576)
def OpenSpec.upto (s : _root_.Go.ChangeSpec) : _root_.Go.OpenSpec := { _root_.Go.OpenSpec.ofChange s with cond := some uptoSmall }

/-- 'bootjacklaw1.NorTells', WHERE WHAT IT READS IS OF BULK AT MOST 1048576: true; the input reads as it did. -/
def norTellsUptoRow : OpenClaim := { program := "ytlbododoooibbaa", sum := "37b27a6abb7aa524f5c4b9ae25551eca3fda37145e3e99b80ba0465e22eba7ea", func := "bootjack/bootjacklaw1.NorTells", spec := "norTells", apart := false, narrowed := true }
def NorTellsUptoSaid : Prop := norTellsUptoRow.holds Try.pinned (OpenSpec.upto norTellsSpec)

/-- 'bootjacklaw1.NorTorn', WHERE WHAT IT READS IS OF BULK AT MOST 1048576: true; the input reads as it did. -/
def norTornUptoRow : OpenClaim := { program := "ytlbododoooibbaa", sum := "37b27a6abb7aa524f5c4b9ae25551eca3fda37145e3e99b80ba0465e22eba7ea", func := "bootjack/bootjacklaw1.NorTorn", spec := "norTorn", apart := false, narrowed := true }
def NorTornUptoSaid : Prop := norTornUptoRow.holds Try.pinned (OpenSpec.upto norTornSpec)

/-- 'bootjacklaw1.NorOrder', WHERE WHAT IT READS IS OF BULK AT MOST 1048576: true; the input reads as it did. -/
def norOrderUptoRow : OpenClaim := { program := "ytlbododoooibbaa", sum := "37b27a6abb7aa524f5c4b9ae25551eca3fda37145e3e99b80ba0465e22eba7ea", func := "bootjack/bootjacklaw1.NorOrder", spec := "norOrder", apart := false, narrowed := true }
def NorOrderUptoSaid : Prop := norOrderUptoRow.holds Try.pinned (OpenSpec.upto norOrderSpec)

/-- 'bootjacklaw1.NorTwice', WHERE WHAT IT READS IS OF BULK AT MOST 1048576: true; the input reads as it did. -/
def norTwiceUptoRow : OpenClaim := { program := "ytlbododoooibbaa", sum := "37b27a6abb7aa524f5c4b9ae25551eca3fda37145e3e99b80ba0465e22eba7ea", func := "bootjack/bootjacklaw1.NorTwice", spec := "norTwice", apart := false, narrowed := true }
def NorTwiceUptoSaid : Prop := norTwiceUptoRow.holds Try.pinned (OpenSpec.upto norTwiceSpec)

/-- 'bootjacklaw1.NorHalf', WHERE WHAT IT READS IS OF BULK AT MOST 1048576: true; the input reads as it did. -/
def norHalfUptoRow : OpenClaim := { program := "ytlbododoooibbaa", sum := "37b27a6abb7aa524f5c4b9ae25551eca3fda37145e3e99b80ba0465e22eba7ea", func := "bootjack/bootjacklaw1.NorHalf", spec := "norHalf", apart := false, narrowed := true }
def NorHalfUptoSaid : Prop := norHalfUptoRow.holds Try.pinned (OpenSpec.upto norHalfSpec)

end Rows
end Go.Proofs.Ytlbododoooibbaa
