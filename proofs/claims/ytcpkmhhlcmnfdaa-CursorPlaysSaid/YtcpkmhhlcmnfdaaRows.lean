/-
  No cell of these rows narrows 'for every input' (looked for: loops, veiled, ifaces, maps, wideKeys, modest, calm, conditions, laid).
  DERIVED. THE GIVEN ROWS OF THIS SEAT. 6 by the template 'for every input the law returns true; each argument reads behind the call as it read before'; 0 by the template 'total and deterministic' (their statements: YtcpkmhhlcmnfdaaTotals.lean).
  GIVEN WITH THE SEED: the statements are not yours to turn. If you find one false, say at which input.
  Laid BY PROGRAM, IN A SANDBOX (cutbox-rows.mjs): the forced cells as the released guide's own fill.sh prints them over the translation 4b4904113058b74d… (all of the seat's roots in one cut). By AI agents, Wed Nov 11 2026. No macro, syntax, notation, axiom, sorry.
-/
import Derived.Test.YtcpkmhhlcmnfdaaChecked
import GoSem.Claim
import GoSem.ClaimJoined
import GoSem.ClaimMapViews
import Derived.JoinedTies
import Derived.KernelRfl
namespace Go.Proofs.Ytcpkmhhlcmnfdaa
/- THE CELL 'sum', in the pinned program and in every row, IS THE sha256 OF THE DUMP (.gsa) THAT YtcpkmhhlcmnfdaaProg.lean LOADS. Nothing in Lean hashes anything: it is a label: what it is worth is what the hold of that sum in a sandbox is worth. -/
noncomputable def Try.pinned : Pinned := { name := "ytcpkmhhlcmnfdaa", sum := "4b4904113058b74d2e92f3c801d9b344e4770f94efbcc7e3c571ad72f1b3c552", checked := Try.checked }
namespace Rows
def none {H : Type} : Left H := { results := [], args := [] }

/-- 'bootjacklaw4.CursorPlays': WHATEVER THE INPUT: true; the input reads as it did. -/
def cursorPlaysSpec : ChangeSpec := { name := "cursorPlays", fn := fun _ => fun
  | [d1, d2, d3] => { results := [.lit (.bool true)], args := [d1, d2, d3] }
  | _ => none }
def cursorPlaysRow : OpenClaim := { program := "ytcpkmhhlcmnfdaa", sum := "4b4904113058b74d2e92f3c801d9b344e4770f94efbcc7e3c571ad72f1b3c552", func := "bootjack/bootjacklaw4.CursorPlays", spec := "cursorPlays", apart := false }
def CursorPlaysSaid : Prop := cursorPlaysRow.holds Try.pinned (OpenSpec.ofChange cursorPlaysSpec)

/-- ITS FALSE NEIGHBOUR: 'it returns false'. Refute it at one input. -/
def cursorPlaysWrong : ChangeSpec := { name := "cursorPlays", fn := fun _ => fun
  | [d1, d2, d3] => { results := [.lit (.bool false)], args := [d1, d2, d3] }
  | _ => none }
def CursorPlaysWrongFalsely : Prop := cursorPlaysRow.holds Try.pinned (OpenSpec.ofChange cursorPlaysWrong)

/-- 'bootjacklaw4.CursorParts': WHATEVER THE INPUT: true; the input reads as it did. -/
def cursorPartsSpec : ChangeSpec := { name := "cursorParts", fn := fun _ => fun
  | [d1, d2, d3, d4] => { results := [.lit (.bool true)], args := [d1, d2, d3, d4] }
  | _ => none }
def cursorPartsRow : OpenClaim := { program := "ytcpkmhhlcmnfdaa", sum := "4b4904113058b74d2e92f3c801d9b344e4770f94efbcc7e3c571ad72f1b3c552", func := "bootjack/bootjacklaw4.CursorParts", spec := "cursorParts", apart := false }
def CursorPartsSaid : Prop := cursorPartsRow.holds Try.pinned (OpenSpec.ofChange cursorPartsSpec)

/-- ITS FALSE NEIGHBOUR: 'it returns false'. Refute it at one input. -/
def cursorPartsWrong : ChangeSpec := { name := "cursorParts", fn := fun _ => fun
  | [d1, d2, d3, d4] => { results := [.lit (.bool false)], args := [d1, d2, d3, d4] }
  | _ => none }
def CursorPartsWrongFalsely : Prop := cursorPartsRow.holds Try.pinned (OpenSpec.ofChange cursorPartsWrong)

/-- 'bootjacklaw4.CursorOnce': WHATEVER THE INPUT: true; the input reads as it did. -/
def cursorOnceSpec : ChangeSpec := { name := "cursorOnce", fn := fun _ => fun
  | [d1, d2, d3, d4] => { results := [.lit (.bool true)], args := [d1, d2, d3, d4] }
  | _ => none }
def cursorOnceRow : OpenClaim := { program := "ytcpkmhhlcmnfdaa", sum := "4b4904113058b74d2e92f3c801d9b344e4770f94efbcc7e3c571ad72f1b3c552", func := "bootjack/bootjacklaw4.CursorOnce", spec := "cursorOnce", apart := false }
def CursorOnceSaid : Prop := cursorOnceRow.holds Try.pinned (OpenSpec.ofChange cursorOnceSpec)

/-- ITS FALSE NEIGHBOUR: 'it returns false'. Refute it at one input. -/
def cursorOnceWrong : ChangeSpec := { name := "cursorOnce", fn := fun _ => fun
  | [d1, d2, d3, d4] => { results := [.lit (.bool false)], args := [d1, d2, d3, d4] }
  | _ => none }
def CursorOnceWrongFalsely : Prop := cursorOnceRow.holds Try.pinned (OpenSpec.ofChange cursorOnceWrong)

/-- 'bootjacklaw4.CursorGoesOn': WHATEVER THE INPUT: true; the input reads as it did. -/
def cursorGoesOnSpec : ChangeSpec := { name := "cursorGoesOn", fn := fun _ => fun
  | [d1, d2, d3] => { results := [.lit (.bool true)], args := [d1, d2, d3] }
  | _ => none }
def cursorGoesOnRow : OpenClaim := { program := "ytcpkmhhlcmnfdaa", sum := "4b4904113058b74d2e92f3c801d9b344e4770f94efbcc7e3c571ad72f1b3c552", func := "bootjack/bootjacklaw4.CursorGoesOn", spec := "cursorGoesOn", apart := false }
def CursorGoesOnSaid : Prop := cursorGoesOnRow.holds Try.pinned (OpenSpec.ofChange cursorGoesOnSpec)

/-- ITS FALSE NEIGHBOUR: 'it returns false'. Refute it at one input. -/
def cursorGoesOnWrong : ChangeSpec := { name := "cursorGoesOn", fn := fun _ => fun
  | [d1, d2, d3] => { results := [.lit (.bool false)], args := [d1, d2, d3] }
  | _ => none }
def CursorGoesOnWrongFalsely : Prop := cursorGoesOnRow.holds Try.pinned (OpenSpec.ofChange cursorGoesOnWrong)

/-- 'bootjacklaw4.CursorRepeats': WHATEVER THE INPUT: true; the input reads as it did. -/
def cursorRepeatsSpec : ChangeSpec := { name := "cursorRepeats", fn := fun _ => fun
  | [d1, d2, d3, d4, d5] => { results := [.lit (.bool true)], args := [d1, d2, d3, d4, d5] }
  | _ => none }
def cursorRepeatsRow : OpenClaim := { program := "ytcpkmhhlcmnfdaa", sum := "4b4904113058b74d2e92f3c801d9b344e4770f94efbcc7e3c571ad72f1b3c552", func := "bootjack/bootjacklaw4.CursorRepeats", spec := "cursorRepeats", apart := false }
def CursorRepeatsSaid : Prop := cursorRepeatsRow.holds Try.pinned (OpenSpec.ofChange cursorRepeatsSpec)

/-- ITS FALSE NEIGHBOUR: 'it returns false'. Refute it at one input. -/
def cursorRepeatsWrong : ChangeSpec := { name := "cursorRepeats", fn := fun _ => fun
  | [d1, d2, d3, d4, d5] => { results := [.lit (.bool false)], args := [d1, d2, d3, d4, d5] }
  | _ => none }
def CursorRepeatsWrongFalsely : Prop := cursorRepeatsRow.holds Try.pinned (OpenSpec.ofChange cursorRepeatsWrong)

/-- 'bootjacklaw4.CursorFull': WHATEVER THE INPUT: true; the input reads as it did. -/
def cursorFullSpec : ChangeSpec := { name := "cursorFull", fn := fun _ => fun
  | [d1, d2] => { results := [.lit (.bool true)], args := [d1, d2] }
  | _ => none }
def cursorFullRow : OpenClaim := { program := "ytcpkmhhlcmnfdaa", sum := "4b4904113058b74d2e92f3c801d9b344e4770f94efbcc7e3c571ad72f1b3c552", func := "bootjack/bootjacklaw4.CursorFull", spec := "cursorFull", apart := false }
def CursorFullSaid : Prop := cursorFullRow.holds Try.pinned (OpenSpec.ofChange cursorFullSpec)

/-- ITS FALSE NEIGHBOUR: 'it returns false'. Refute it at one input. -/
def cursorFullWrong : ChangeSpec := { name := "cursorFull", fn := fun _ => fun
  | [d1, d2] => { results := [.lit (.bool false)], args := [d1, d2] }
  | _ => none }
def CursorFullWrongFalsely : Prop := cursorFullRow.holds Try.pinned (OpenSpec.ofChange cursorFullWrong)

/- THE SECOND FORM. 'bulk': how many values and letters a reading holds, each counted each time it is reached (what is shared counts as often as it is met; a slice's spare places count too). A statement '..UptoSaid' is the law's where the arguments, and the package variables that the reading takes, are together of bulk at most 1048576: NARROWER than '..Said'. Prove '..Said' where nothing that the law and all that it calls make is longer than what came in: it says more and counts as full. Else prove '..UptoSaid'. A law counts once. -/
mutual
def uptoBulk {H : Type} : DataW H → Nat
  | .lit (.string bytes) => bytes.length + 1
  | .lit _ => 1
  | .nil => 1
  | .ptr d => uptoBulk d + 1
  | .slice elems spare => uptoBulkAll elems + uptoBulkAll spare + 1
  | .agg parts => uptoBulkAll parts + 1
  | .iface _ d => uptoBulk d + 1
  | .map entries => uptoBulkEntries entries + 1
  | .held _ => 1
def uptoBulkAll {H : Type} : List (DataW H) → Nat
  | [] => 0
  | d :: r => uptoBulk d + uptoBulkAll r
def uptoBulkEntries {H : Type} : List (Lit × DataW H) → Nat
  | [] => 0
  | x :: r => uptoBulkEntry x + uptoBulkEntries r
def uptoBulkEntry {H : Type} : Lit × DataW H → Nat
  | (.string bytes, d) => bytes.length + uptoBulk d + 1
  | (_, d) => uptoBulk d + 1
 end
def uptoSmall : (H : Type) → List (DataW H) → Bool := fun _ ds => decide (uptoBulkAll ds ≤ 1048576)
def OpenSpec.upto (s : _root_.Go.ChangeSpec) : _root_.Go.OpenSpec := { _root_.Go.OpenSpec.ofChange s with cond := some uptoSmall }

/-- 'bootjacklaw4.CursorPlays', WHERE WHAT IT READS IS OF BULK AT MOST 1048576: true; the input reads as it did. -/
def cursorPlaysUptoRow : OpenClaim := { program := "ytcpkmhhlcmnfdaa", sum := "4b4904113058b74d2e92f3c801d9b344e4770f94efbcc7e3c571ad72f1b3c552", func := "bootjack/bootjacklaw4.CursorPlays", spec := "cursorPlays", apart := false, narrowed := true }
def CursorPlaysUptoSaid : Prop := cursorPlaysUptoRow.holds Try.pinned (OpenSpec.upto cursorPlaysSpec)

/-- 'bootjacklaw4.CursorParts', WHERE WHAT IT READS IS OF BULK AT MOST 1048576: true; the input reads as it did. -/
def cursorPartsUptoRow : OpenClaim := { program := "ytcpkmhhlcmnfdaa", sum := "4b4904113058b74d2e92f3c801d9b344e4770f94efbcc7e3c571ad72f1b3c552", func := "bootjack/bootjacklaw4.CursorParts", spec := "cursorParts", apart := false, narrowed := true }
def CursorPartsUptoSaid : Prop := cursorPartsUptoRow.holds Try.pinned (OpenSpec.upto cursorPartsSpec)

/-- 'bootjacklaw4.CursorOnce', WHERE WHAT IT READS IS OF BULK AT MOST 1048576: true; the input reads as it did. -/
def cursorOnceUptoRow : OpenClaim := { program := "ytcpkmhhlcmnfdaa", sum := "4b4904113058b74d2e92f3c801d9b344e4770f94efbcc7e3c571ad72f1b3c552", func := "bootjack/bootjacklaw4.CursorOnce", spec := "cursorOnce", apart := false, narrowed := true }
def CursorOnceUptoSaid : Prop := cursorOnceUptoRow.holds Try.pinned (OpenSpec.upto cursorOnceSpec)

/-- 'bootjacklaw4.CursorGoesOn', WHERE WHAT IT READS IS OF BULK AT MOST 1048576: true; the input reads as it did. -/
def cursorGoesOnUptoRow : OpenClaim := { program := "ytcpkmhhlcmnfdaa", sum := "4b4904113058b74d2e92f3c801d9b344e4770f94efbcc7e3c571ad72f1b3c552", func := "bootjack/bootjacklaw4.CursorGoesOn", spec := "cursorGoesOn", apart := false, narrowed := true }
def CursorGoesOnUptoSaid : Prop := cursorGoesOnUptoRow.holds Try.pinned (OpenSpec.upto cursorGoesOnSpec)

/-- 'bootjacklaw4.CursorRepeats', WHERE WHAT IT READS IS OF BULK AT MOST 1048576: true; the input reads as it did. -/
def cursorRepeatsUptoRow : OpenClaim := { program := "ytcpkmhhlcmnfdaa", sum := "4b4904113058b74d2e92f3c801d9b344e4770f94efbcc7e3c571ad72f1b3c552", func := "bootjack/bootjacklaw4.CursorRepeats", spec := "cursorRepeats", apart := false, narrowed := true }
def CursorRepeatsUptoSaid : Prop := cursorRepeatsUptoRow.holds Try.pinned (OpenSpec.upto cursorRepeatsSpec)

/-- 'bootjacklaw4.CursorFull', WHERE WHAT IT READS IS OF BULK AT MOST 1048576: true; the input reads as it did. -/
def cursorFullUptoRow : OpenClaim := { program := "ytcpkmhhlcmnfdaa", sum := "4b4904113058b74d2e92f3c801d9b344e4770f94efbcc7e3c571ad72f1b3c552", func := "bootjack/bootjacklaw4.CursorFull", spec := "cursorFull", apart := false, narrowed := true }
def CursorFullUptoSaid : Prop := cursorFullUptoRow.holds Try.pinned (OpenSpec.upto cursorFullSpec)

end Rows
end Go.Proofs.Ytcpkmhhlcmnfdaa
