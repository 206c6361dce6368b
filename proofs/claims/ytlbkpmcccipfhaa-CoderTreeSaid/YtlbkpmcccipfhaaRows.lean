/-
  No cell of these rows narrows 'for every input' (looked for: loops, veiled, ifaces, maps, wideKeys, modest, calm, conditions, laid).
  DERIVED. THE GIVEN ROWS OF THIS SEAT. 5 by the template 'for every input the law returns true; each argument reads behind the call as it read before'; 0 by the template 'total and deterministic' (their statements: YtlbkpmcccipfhaaTotals.lean).
  GIVEN WITH THE SEED: the statements are not yours to turn. If you find one false, say at which input.
  Laid BY PROGRAM, IN A SANDBOX (cutbox-rows.mjs): the forced cells as the released guide's own fill.sh prints them over the translation 3d86d0b7c9d76e10… (all of the seat's roots in one cut). By AI agents, Wed Nov 11 2026. No macro, syntax, notation, axiom, sorry.
-/
import Derived.Test.YtlbkpmcccipfhaaChecked
import GoSem.Claim
import GoSem.ClaimJoined
import GoSem.ClaimMapViews
import Derived.JoinedTies
import Derived.KernelRfl
namespace Go.Proofs.Ytlbkpmcccipfhaa
/- THE CELL 'sum', in the pinned program and in every row, IS THE sha256 OF THE DUMP (.gsa) THAT YtlbkpmcccipfhaaProg.lean LOADS. Nothing in Lean hashes anything: it is a label: what it is worth is what the hold of that sum in a sandbox is worth. -/
noncomputable def Try.pinned : Pinned := { name := "ytlbkpmcccipfhaa", sum := "3d86d0b7c9d76e10f119e9e7101a4e09dffb07c7ccde3e1a7f57679640362183", checked := Try.checked }
namespace Rows
def none {H : Type} : Left H := { results := [], args := [] }

/-- 'bootjacklaw16.CoderPlays': WHATEVER THE INPUT: true; the input reads as it did. -/
def coderPlaysSpec : ChangeSpec := { name := "coderPlays", fn := fun _ => fun
  | [d1, d2] => { results := [.lit (.bool true)], args := [d1, d2] }
  | _ => none }
def coderPlaysRow : OpenClaim := { program := "ytlbkpmcccipfhaa", sum := "3d86d0b7c9d76e10f119e9e7101a4e09dffb07c7ccde3e1a7f57679640362183", func := "bootjack/bootjacklaw16.CoderPlays", spec := "coderPlays", apart := false }
def CoderPlaysSaid : Prop := coderPlaysRow.holds Try.pinned (OpenSpec.ofChange coderPlaysSpec)

/-- ITS FALSE NEIGHBOUR: 'it returns false'. Refute it at one input. -/
def coderPlaysWrong : ChangeSpec := { name := "coderPlays", fn := fun _ => fun
  | [d1, d2] => { results := [.lit (.bool false)], args := [d1, d2] }
  | _ => none }
def CoderPlaysWrongFalsely : Prop := coderPlaysRow.holds Try.pinned (OpenSpec.ofChange coderPlaysWrong)

/-- 'bootjacklaw16.CoderOrder': WHATEVER THE INPUT: true; the input reads as it did. -/
def coderOrderSpec : ChangeSpec := { name := "coderOrder", fn := fun _ => fun
  | [d1, d2, d3, d4] => { results := [.lit (.bool true)], args := [d1, d2, d3, d4] }
  | _ => none }
def coderOrderRow : OpenClaim := { program := "ytlbkpmcccipfhaa", sum := "3d86d0b7c9d76e10f119e9e7101a4e09dffb07c7ccde3e1a7f57679640362183", func := "bootjack/bootjacklaw16.CoderOrder", spec := "coderOrder", apart := false }
def CoderOrderSaid : Prop := coderOrderRow.holds Try.pinned (OpenSpec.ofChange coderOrderSpec)

/-- ITS FALSE NEIGHBOUR: 'it returns false'. Refute it at one input. -/
def coderOrderWrong : ChangeSpec := { name := "coderOrder", fn := fun _ => fun
  | [d1, d2, d3, d4] => { results := [.lit (.bool false)], args := [d1, d2, d3, d4] }
  | _ => none }
def CoderOrderWrongFalsely : Prop := coderOrderRow.holds Try.pinned (OpenSpec.ofChange coderOrderWrong)

/-- 'bootjacklaw16.CoderLength': WHATEVER THE INPUT: true; the input reads as it did. -/
def coderLengthSpec : ChangeSpec := { name := "coderLength", fn := fun _ => fun
  | [d] => { results := [.lit (.bool true)], args := [d] }
  | _ => none }
def coderLengthRow : OpenClaim := { program := "ytlbkpmcccipfhaa", sum := "3d86d0b7c9d76e10f119e9e7101a4e09dffb07c7ccde3e1a7f57679640362183", func := "bootjack/bootjacklaw16.CoderLength", spec := "coderLength", apart := false }
def CoderLengthSaid : Prop := coderLengthRow.holds Try.pinned (OpenSpec.ofChange coderLengthSpec)

/-- ITS FALSE NEIGHBOUR: 'it returns false'. Refute it at one input. -/
def coderLengthWrong : ChangeSpec := { name := "coderLength", fn := fun _ => fun
  | [d] => { results := [.lit (.bool false)], args := [d] }
  | _ => none }
def CoderLengthWrongFalsely : Prop := coderLengthRow.holds Try.pinned (OpenSpec.ofChange coderLengthWrong)

/-- 'bootjacklaw16.CoderTree': WHATEVER THE INPUT: true; the input reads as it did. -/
def coderTreeSpec : ChangeSpec := { name := "coderTree", fn := fun _ => fun
  | [d1, d2] => { results := [.lit (.bool true)], args := [d1, d2] }
  | _ => none }
def coderTreeRow : OpenClaim := { program := "ytlbkpmcccipfhaa", sum := "3d86d0b7c9d76e10f119e9e7101a4e09dffb07c7ccde3e1a7f57679640362183", func := "bootjack/bootjacklaw16.CoderTree", spec := "coderTree", apart := false }
def CoderTreeSaid : Prop := coderTreeRow.holds Try.pinned (OpenSpec.ofChange coderTreeSpec)

/-- ITS FALSE NEIGHBOUR: 'it returns false'. Refute it at one input. -/
def coderTreeWrong : ChangeSpec := { name := "coderTree", fn := fun _ => fun
  | [d1, d2] => { results := [.lit (.bool false)], args := [d1, d2] }
  | _ => none }
def CoderTreeWrongFalsely : Prop := coderTreeRow.holds Try.pinned (OpenSpec.ofChange coderTreeWrong)

/-- 'bootjacklaw16.CoderNone': WHATEVER THE INPUT: true; the input reads as it did. -/
def coderNoneSpec : ChangeSpec := { name := "coderNone", fn := fun _ => fun
  | [d1, d2, d3] => { results := [.lit (.bool true)], args := [d1, d2, d3] }
  | _ => none }
def coderNoneRow : OpenClaim := { program := "ytlbkpmcccipfhaa", sum := "3d86d0b7c9d76e10f119e9e7101a4e09dffb07c7ccde3e1a7f57679640362183", func := "bootjack/bootjacklaw16.CoderNone", spec := "coderNone", apart := false }
def CoderNoneSaid : Prop := coderNoneRow.holds Try.pinned (OpenSpec.ofChange coderNoneSpec)

/-- ITS FALSE NEIGHBOUR: 'it returns false'. Refute it at one input. -/
def coderNoneWrong : ChangeSpec := { name := "coderNone", fn := fun _ => fun
  | [d1, d2, d3] => { results := [.lit (.bool false)], args := [d1, d2, d3] }
  | _ => none }
def CoderNoneWrongFalsely : Prop := coderNoneRow.holds Try.pinned (OpenSpec.ofChange coderNoneWrong)

/- THE SECOND FORM. 'bulk': how many values and letters a reading holds, each counted each time it is reached (what is shared counts as often as it is met; a slice's spare places count too). A statement '..UptoSaid' is the law's where the arguments, and the package variables that the reading takes, are together of bulk at most 1048576: NARROWER than '..Said'. Prove '..Said' where nothing that the law and all that it calls make is longer than what came in: it says more and counts as full. Else prove '..UptoSaid'. A law counts once. -/
mutual
def uptoBulk {H : Type} : DataW H → Nat
  | .lit (.string bytes) => bytes.length + 1
  | .lit _ => 1
  | .nil => 1
  | .ptr d => uptoBulk d + 1
  | .slice elems spare => uptoBulkAll elems + uptoBulkAll spare + 1
  | .agg parts => uptoBulkAll parts + 1
  | .iface _ d => uptoBulk d + 1
  | .map entries => uptoBulkEntries entries + 1
  | .held _ => 1
def uptoBulkAll {H : Type} : List (DataW H) → Nat
  | [] => 0
  | d :: r => uptoBulk d + uptoBulkAll r
def uptoBulkEntries {H : Type} : List (Lit × DataW H) → Nat
  | [] => 0
  | x :: r => uptoBulkEntry x + uptoBulkEntries r
def uptoBulkEntry {H : Type} : Lit × DataW H → Nat
  | (.string bytes, d) => bytes.length + uptoBulk d + 1
  | (_, d) => uptoBulk d + 1
 end
def uptoSmall : (H : Type) → List (DataW H) → Bool := fun _ ds => decide (uptoBulkAll ds ≤ 1048576)
def OpenSpec.upto (s : _root_.Go.ChangeSpec) : _root_.Go.OpenSpec := { _root_.Go.OpenSpec.ofChange s with cond := some uptoSmall }

/-- 'bootjacklaw16.CoderPlays', WHERE WHAT IT READS IS OF BULK AT MOST 1048576: true; the input reads as it did. -/
def coderPlaysUptoRow : OpenClaim := { program := "ytlbkpmcccipfhaa", sum := "3d86d0b7c9d76e10f119e9e7101a4e09dffb07c7ccde3e1a7f57679640362183", func := "bootjack/bootjacklaw16.CoderPlays", spec := "coderPlays", apart := false, narrowed := true }
def CoderPlaysUptoSaid : Prop := coderPlaysUptoRow.holds Try.pinned (OpenSpec.upto coderPlaysSpec)

/-- 'bootjacklaw16.CoderOrder', WHERE WHAT IT READS IS OF BULK AT MOST 1048576: true; the input reads as it did. -/
def coderOrderUptoRow : OpenClaim := { program := "ytlbkpmcccipfhaa", sum := "3d86d0b7c9d76e10f119e9e7101a4e09dffb07c7ccde3e1a7f57679640362183", func := "bootjack/bootjacklaw16.CoderOrder", spec := "coderOrder", apart := false, narrowed := true }
def CoderOrderUptoSaid : Prop := coderOrderUptoRow.holds Try.pinned (OpenSpec.upto coderOrderSpec)

/-- 'bootjacklaw16.CoderLength', WHERE WHAT IT READS IS OF BULK AT MOST 1048576: true; the input reads as it did. -/
def coderLengthUptoRow : OpenClaim := { program := "ytlbkpmcccipfhaa", sum := "3d86d0b7c9d76e10f119e9e7101a4e09dffb07c7ccde3e1a7f57679640362183", func := "bootjack/bootjacklaw16.CoderLength", spec := "coderLength", apart := false, narrowed := true }
def CoderLengthUptoSaid : Prop := coderLengthUptoRow.holds Try.pinned (OpenSpec.upto coderLengthSpec)

/-- 'bootjacklaw16.CoderTree', WHERE WHAT IT READS IS OF BULK AT MOST 1048576: true; the input reads as it did. -/
def coderTreeUptoRow : OpenClaim := { program := "ytlbkpmcccipfhaa", sum := "3d86d0b7c9d76e10f119e9e7101a4e09dffb07c7ccde3e1a7f57679640362183", func := "bootjack/bootjacklaw16.CoderTree", spec := "coderTree", apart := false, narrowed := true }
def CoderTreeUptoSaid : Prop := coderTreeUptoRow.holds Try.pinned (OpenSpec.upto coderTreeSpec)

/-- 'bootjacklaw16.CoderNone', WHERE WHAT IT READS IS OF BULK AT MOST 1048576: true; the input reads as it did. -/
def coderNoneUptoRow : OpenClaim := { program := "ytlbkpmcccipfhaa", sum := "3d86d0b7c9d76e10f119e9e7101a4e09dffb07c7ccde3e1a7f57679640362183", func := "bootjack/bootjacklaw16.CoderNone", spec := "coderNone", apart := false, narrowed := true }
def CoderNoneUptoSaid : Prop := coderNoneUptoRow.holds Try.pinned (OpenSpec.upto coderNoneSpec)

end Rows
end Go.Proofs.Ytlbkpmcccipfhaa
