/-
  No cell of these rows narrows 'for every input' (looked for: loops, veiled, ifaces, maps, wideKeys, modest, calm, conditions, laid).
  DERIVED. THE GIVEN ROWS OF THIS SEAT. 6 by the template 'for every input the law returns true; each argument reads behind the call as it read before'; 0 by the template 'total and deterministic' (their statements: YtddijcopoaeejaaTotals.lean).
  GIVEN WITH THE SEED: the statements are not yours to turn. If you find one false, say at which input.
  Laid BY PROGRAM, IN A SANDBOX (cutbox-rows.mjs): the forced cells as the released guide's own fill.sh prints them over the translation 8650c6c6d4f11f3a… (all of the seat's roots in one cut). By AI agents, Wed Nov 11 2026. No macro, syntax, notation, axiom, sorry.
-/
import Derived.Test.YtddijcopoaeejaaChecked
import GoSem.Claim
import GoSem.ClaimJoined
import GoSem.ClaimMapViews
import Derived.JoinedTies
import Derived.KernelRfl
namespace Go.Proofs.Ytddijcopoaeejaa
/- THE CELL 'sum', in the pinned program and in every row, IS THE sha256 OF THE DUMP (.gsa) THAT YtddijcopoaeejaaProg.lean LOADS. Nothing in Lean hashes anything: it is a label: what it is worth is what the hold of that sum in a sandbox is worth. -/
noncomputable def Try.pinned : Pinned := { name := "ytddijcopoaeejaa", sum := "8650c6c6d4f11f3a2035d27584be39ff37e8e9295398e19bbbe71aae6b768853", checked := Try.checked }
namespace Rows
def none {H : Type} : Left H := { results := [], args := [] }

/-- 'bootjacklaw12.PointTells': WHATEVER THE INPUT: true; the input reads as it did. -/
def pointTellsSpec : ChangeSpec := { name := "pointTells", fn := fun _ => fun
  | [d1, d2] => { results := [.lit (.bool true)], args := [d1, d2] }
  | _ => none }
def pointTellsRow : OpenClaim := { program := "ytddijcopoaeejaa", sum := "8650c6c6d4f11f3a2035d27584be39ff37e8e9295398e19bbbe71aae6b768853", func := "bootjack/bootjacklaw12.PointTells", spec := "pointTells", inPlace := ["math/bits.Add64"], recurses := true, apart := false }
def PointTellsSaid : Prop := pointTellsRow.holds Try.pinned (OpenSpec.ofChange pointTellsSpec)

/-- ITS FALSE NEIGHBOUR: 'it returns false'. Refute it at one input. -/
def pointTellsWrong : ChangeSpec := { name := "pointTells", fn := fun _ => fun
  | [d1, d2] => { results := [.lit (.bool false)], args := [d1, d2] }
  | _ => none }
def PointTellsWrongFalsely : Prop := pointTellsRow.holds Try.pinned (OpenSpec.ofChange pointTellsWrong)

/-- 'bootjacklaw12.PointBack': WHATEVER THE INPUT: true; the input reads as it did. -/
def pointBackSpec : ChangeSpec := { name := "pointBack", fn := fun _ => fun
  | [d] => { results := [.lit (.bool true)], args := [d] }
  | _ => none }
def pointBackRow : OpenClaim := { program := "ytddijcopoaeejaa", sum := "8650c6c6d4f11f3a2035d27584be39ff37e8e9295398e19bbbe71aae6b768853", func := "bootjack/bootjacklaw12.PointBack", spec := "pointBack", inPlace := ["math/bits.Add64"], recurses := true, apart := false }
def PointBackSaid : Prop := pointBackRow.holds Try.pinned (OpenSpec.ofChange pointBackSpec)

/-- ITS FALSE NEIGHBOUR: 'it returns false'. Refute it at one input. -/
def pointBackWrong : ChangeSpec := { name := "pointBack", fn := fun _ => fun
  | [d] => { results := [.lit (.bool false)], args := [d] }
  | _ => none }
def PointBackWrongFalsely : Prop := pointBackRow.holds Try.pinned (OpenSpec.ofChange pointBackWrong)

/-- 'bootjacklaw12.PointGroup': WHATEVER THE INPUT: true; the input reads as it did. -/
def pointGroupSpec : ChangeSpec := { name := "pointGroup", fn := fun _ => fun
  | [d1, d2, d3] => { results := [.lit (.bool true)], args := [d1, d2, d3] }
  | _ => none }
def pointGroupRow : OpenClaim := { program := "ytddijcopoaeejaa", sum := "8650c6c6d4f11f3a2035d27584be39ff37e8e9295398e19bbbe71aae6b768853", func := "bootjack/bootjacklaw12.PointGroup", spec := "pointGroup", inPlace := ["math/bits.Add64"], recurses := true, apart := false }
def PointGroupSaid : Prop := pointGroupRow.holds Try.pinned (OpenSpec.ofChange pointGroupSpec)

/-- ITS FALSE NEIGHBOUR: 'it returns false'. Refute it at one input. -/
def pointGroupWrong : ChangeSpec := { name := "pointGroup", fn := fun _ => fun
  | [d1, d2, d3] => { results := [.lit (.bool false)], args := [d1, d2, d3] }
  | _ => none }
def PointGroupWrongFalsely : Prop := pointGroupRow.holds Try.pinned (OpenSpec.ofChange pointGroupWrong)

/-- 'bootjacklaw12.PointSame': WHATEVER THE INPUT: true; the input reads as it did. -/
def pointSameSpec : ChangeSpec := { name := "pointSame", fn := fun _ => fun
  | [d1, d2] => { results := [.lit (.bool true)], args := [d1, d2] }
  | _ => none }
def pointSameRow : OpenClaim := { program := "ytddijcopoaeejaa", sum := "8650c6c6d4f11f3a2035d27584be39ff37e8e9295398e19bbbe71aae6b768853", func := "bootjack/bootjacklaw12.PointSame", spec := "pointSame", inPlace := ["math/bits.Add64"], recurses := true, apart := false }
def PointSameSaid : Prop := pointSameRow.holds Try.pinned (OpenSpec.ofChange pointSameSpec)

/-- ITS FALSE NEIGHBOUR: 'it returns false'. Refute it at one input. -/
def pointSameWrong : ChangeSpec := { name := "pointSame", fn := fun _ => fun
  | [d1, d2] => { results := [.lit (.bool false)], args := [d1, d2] }
  | _ => none }
def PointSameWrongFalsely : Prop := pointSameRow.holds Try.pinned (OpenSpec.ofChange pointSameWrong)

/-- 'bootjacklaw12.PointSmall': WHATEVER THE INPUT: true; the input reads as it did. -/
def pointSmallSpec : ChangeSpec := { name := "pointSmall", fn := fun _ => fun
  | [d] => { results := [.lit (.bool true)], args := [d] }
  | _ => none }
def pointSmallRow : OpenClaim := { program := "ytddijcopoaeejaa", sum := "8650c6c6d4f11f3a2035d27584be39ff37e8e9295398e19bbbe71aae6b768853", func := "bootjack/bootjacklaw12.PointSmall", spec := "pointSmall", inPlace := ["math/bits.Add64"], recurses := true, apart := false }
def PointSmallSaid : Prop := pointSmallRow.holds Try.pinned (OpenSpec.ofChange pointSmallSpec)

/-- ITS FALSE NEIGHBOUR: 'it returns false'. Refute it at one input. -/
def pointSmallWrong : ChangeSpec := { name := "pointSmall", fn := fun _ => fun
  | [d] => { results := [.lit (.bool false)], args := [d] }
  | _ => none }
def PointSmallWrongFalsely : Prop := pointSmallRow.holds Try.pinned (OpenSpec.ofChange pointSmallWrong)

/-- 'bootjacklaw12.PointWrong': WHATEVER THE INPUT: true; the input reads as it did. -/
def pointWrongSpec : ChangeSpec := { name := "pointWrong", fn := fun _ => fun
  | [d1, d2] => { results := [.lit (.bool true)], args := [d1, d2] }
  | _ => none }
def pointWrongRow : OpenClaim := { program := "ytddijcopoaeejaa", sum := "8650c6c6d4f11f3a2035d27584be39ff37e8e9295398e19bbbe71aae6b768853", func := "bootjack/bootjacklaw12.PointWrong", spec := "pointWrong", inPlace := ["math/bits.Add64"], recurses := true, apart := false }
def PointWrongSaid : Prop := pointWrongRow.holds Try.pinned (OpenSpec.ofChange pointWrongSpec)

/-- ITS FALSE NEIGHBOUR: 'it returns false'. Refute it at one input. -/
def pointWrongWrong : ChangeSpec := { name := "pointWrong", fn := fun _ => fun
  | [d1, d2] => { results := [.lit (.bool false)], args := [d1, d2] }
  | _ => none }
def PointWrongWrongFalsely : Prop := pointWrongRow.holds Try.pinned (OpenSpec.ofChange pointWrongWrong)

/- THE SECOND FORM. 'bulk': how many values and letters a reading holds, each counted each time it is reached (what is shared counts as often as it is met; a slice's spare places count too). A statement '..UptoSaid' is the law's where the arguments, and the package variables that the reading takes, are together of bulk at most 1048576: NARROWER than '..Said'. Prove '..Said' where nothing that the law and all that it calls make is longer than what came in: it says more and counts as full. Else prove '..UptoSaid'. A law counts once. -/
mutual
def uptoBulk {H : Type} : DataW H → Nat
  | .lit (.string bytes) => bytes.length + 1
  | .lit _ => 1
  | .nil => 1
  | .ptr d => uptoBulk d + 1
  | .slice elems spare => uptoBulkAll elems + uptoBulkAll spare + 1
  | .agg parts => uptoBulkAll parts + 1
  | .iface _ d => uptoBulk d + 1
  | .map entries => uptoBulkEntries entries + 1
  | .held _ => 1
def uptoBulkAll {H : Type} : List (DataW H) → Nat
  | [] => 0
  | d :: r => uptoBulk d + uptoBulkAll r
def uptoBulkEntries {H : Type} : List (Lit × DataW H) → Nat
  | [] => 0
  | x :: r => uptoBulkEntry x + uptoBulkEntries r
def uptoBulkEntry {H : Type} : Lit × DataW H → Nat
  | (.string bytes, d) => bytes.length + uptoBulk d + 1
  | (_, d) => uptoBulk d + 1
 end
def uptoSmall : (H : Type) → List (DataW H) → Bool := fun _ ds => decide (uptoBulkAll ds ≤ 1048576)
def OpenSpec.upto (s : _root_.Go.ChangeSpec) : _root_.Go.OpenSpec := { _root_.Go.OpenSpec.ofChange s with cond := some uptoSmall }

/-- 'bootjacklaw12.PointTells', WHERE WHAT IT READS IS OF BULK AT MOST 1048576: true; the input reads as it did. -/
def pointTellsUptoRow : OpenClaim := { program := "ytddijcopoaeejaa", sum := "8650c6c6d4f11f3a2035d27584be39ff37e8e9295398e19bbbe71aae6b768853", func := "bootjack/bootjacklaw12.PointTells", spec := "pointTells", inPlace := ["math/bits.Add64"], recurses := true, apart := false, narrowed := true }
def PointTellsUptoSaid : Prop := pointTellsUptoRow.holds Try.pinned (OpenSpec.upto pointTellsSpec)

/-- 'bootjacklaw12.PointBack', WHERE WHAT IT READS IS OF BULK AT MOST 1048576: true; the input reads as it did. -/
def pointBackUptoRow : OpenClaim := { program := "ytddijcopoaeejaa", sum := "8650c6c6d4f11f3a2035d27584be39ff37e8e9295398e19bbbe71aae6b768853", func := "bootjack/bootjacklaw12.PointBack", spec := "pointBack", inPlace := ["math/bits.Add64"], recurses := true, apart := false, narrowed := true }
def PointBackUptoSaid : Prop := pointBackUptoRow.holds Try.pinned (OpenSpec.upto pointBackSpec)

/-- 'bootjacklaw12.PointGroup', WHERE WHAT IT READS IS OF BULK AT MOST 1048576: true; the input reads as it did. -/
def pointGroupUptoRow : OpenClaim := { program := "ytddijcopoaeejaa", sum := "8650c6c6d4f11f3a2035d27584be39ff37e8e9295398e19bbbe71aae6b768853", func := "bootjack/bootjacklaw12.PointGroup", spec := "pointGroup", inPlace := ["math/bits.Add64"], recurses := true, apart := false, narrowed := true }
def PointGroupUptoSaid : Prop := pointGroupUptoRow.holds Try.pinned (OpenSpec.upto pointGroupSpec)

/-- 'bootjacklaw12.PointSame', WHERE WHAT IT READS IS OF BULK AT MOST 1048576: true; the input reads as it did. -/
def pointSameUptoRow : OpenClaim := { program := "ytddijcopoaeejaa", sum := "8650c6c6d4f11f3a2035d27584be39ff37e8e9295398e19bbbe71aae6b768853", func := "bootjack/bootjacklaw12.PointSame", spec := "pointSame", inPlace := ["math/bits.Add64"], recurses := true, apart := false, narrowed := true }
def PointSameUptoSaid : Prop := pointSameUptoRow.holds Try.pinned (OpenSpec.upto pointSameSpec)

/-- 'bootjacklaw12.PointSmall', WHERE WHAT IT READS IS OF BULK AT MOST 1048576: true; the input reads as it did. -/
def pointSmallUptoRow : OpenClaim := { program := "ytddijcopoaeejaa", sum := "8650c6c6d4f11f3a2035d27584be39ff37e8e9295398e19bbbe71aae6b768853", func := "bootjack/bootjacklaw12.PointSmall", spec := "pointSmall", inPlace := ["math/bits.Add64"], recurses := true, apart := false, narrowed := true }
def PointSmallUptoSaid : Prop := pointSmallUptoRow.holds Try.pinned (OpenSpec.upto pointSmallSpec)

/-- 'bootjacklaw12.PointWrong', WHERE WHAT IT READS IS OF BULK AT MOST 1048576: true; the input reads as it did. -/
def pointWrongUptoRow : OpenClaim := { program := "ytddijcopoaeejaa", sum := "8650c6c6d4f11f3a2035d27584be39ff37e8e9295398e19bbbe71aae6b768853", func := "bootjack/bootjacklaw12.PointWrong", spec := "pointWrong", inPlace := ["math/bits.Add64"], recurses := true, apart := false, narrowed := true }
def PointWrongUptoSaid : Prop := pointWrongUptoRow.holds Try.pinned (OpenSpec.upto pointWrongSpec)

end Rows
end Go.Proofs.Ytddijcopoaeejaa
