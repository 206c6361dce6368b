/-
  No cell of these rows narrows 'for every input' (looked for: loops, veiled, ifaces, maps, wideKeys, modest, calm, conditions, laid).
  DERIVED. THE GIVEN ROWS OF THIS SEAT. 4 by the template 'for every input the law returns true; each argument reads behind the call as it read before'; 0 by the template 'total and deterministic' (their statements: YtmhcogpjgllgjaaTotals.lean).
  GIVEN WITH THE SEED: the statements are not yours to turn. If you find one false, say at which input.
  Laid BY PROGRAM, IN A SANDBOX (cutbox-rows.mjs): the forced cells as the released guide's own fill.sh prints them over the translation 6312c954e0c6ef64… (all of the seat's roots in one cut). By AI agents, Wed Nov 11 2026. No macro, syntax, notation, axiom, sorry.
-/
import Derived.Test.YtmhcogpjgllgjaaChecked
import GoSem.Claim
import GoSem.ClaimJoined
import GoSem.ClaimMapViews
import Derived.JoinedTies
import Derived.KernelRfl
namespace Go.Proofs.Ytmhcogpjgllgjaa
/- THE CELL 'sum', in the pinned program and in every row, IS THE sha256 OF THE DUMP (.gsa) THAT YtmhcogpjgllgjaaProg.lean LOADS. Nothing in Lean hashes anything: it is a label: what it is worth is what the hold of that sum in a sandbox is worth. -/
noncomputable def Try.pinned : Pinned := { name := "ytmhcogpjgllgjaa", sum := "6312c954e0c6ef64b2b3065ba33c33ffe232ed62a892e7c3d45b14b8852168ad", checked := Try.checked }
namespace Rows
def none {H : Type} : Left H := { results := [], args := [] }

/-- 'bootjacklaw3.RegionPlays': WHATEVER THE INPUT: true; the input reads as it did. -/
def regionPlaysSpec : ChangeSpec := { name := "regionPlays", fn := fun _ => fun
  | [d1, d2, d3] => { results := [.lit (.bool true)], args := [d1, d2, d3] }
  | _ => none }
def regionPlaysRow : OpenClaim := { program := "ytmhcogpjgllgjaa", sum := "6312c954e0c6ef64b2b3065ba33c33ffe232ed62a892e7c3d45b14b8852168ad", func := "bootjack/bootjacklaw3.RegionPlays", spec := "regionPlays", apart := false }
def RegionPlaysSaid : Prop := regionPlaysRow.holds Try.pinned (OpenSpec.ofChange regionPlaysSpec)

/-- ITS FALSE NEIGHBOUR: 'it returns false'. Refute it at one input. -/
def regionPlaysWrong : ChangeSpec := { name := "regionPlays", fn := fun _ => fun
  | [d1, d2, d3] => { results := [.lit (.bool false)], args := [d1, d2, d3] }
  | _ => none }
def RegionPlaysWrongFalsely : Prop := regionPlaysRow.holds Try.pinned (OpenSpec.ofChange regionPlaysWrong)

/-- 'bootjacklaw3.RegionOnly': WHATEVER THE INPUT: true; the input reads as it did. -/
def regionOnlySpec : ChangeSpec := { name := "regionOnly", fn := fun _ => fun
  | [d1, d2, d3] => { results := [.lit (.bool true)], args := [d1, d2, d3] }
  | _ => none }
def regionOnlyRow : OpenClaim := { program := "ytmhcogpjgllgjaa", sum := "6312c954e0c6ef64b2b3065ba33c33ffe232ed62a892e7c3d45b14b8852168ad", func := "bootjack/bootjacklaw3.RegionOnly", spec := "regionOnly", apart := false }
def RegionOnlySaid : Prop := regionOnlyRow.holds Try.pinned (OpenSpec.ofChange regionOnlySpec)

/-- ITS FALSE NEIGHBOUR: 'it returns false'. Refute it at one input. -/
def regionOnlyWrong : ChangeSpec := { name := "regionOnly", fn := fun _ => fun
  | [d1, d2, d3] => { results := [.lit (.bool false)], args := [d1, d2, d3] }
  | _ => none }
def RegionOnlyWrongFalsely : Prop := regionOnlyRow.holds Try.pinned (OpenSpec.ofChange regionOnlyWrong)

/-- 'bootjacklaw3.RegionParts': WHATEVER THE INPUT: true; the input reads as it did. -/
def regionPartsSpec : ChangeSpec := { name := "regionParts", fn := fun _ => fun
  | [d1, d2, d3, d4, d5] => { results := [.lit (.bool true)], args := [d1, d2, d3, d4, d5] }
  | _ => none }
def regionPartsRow : OpenClaim := { program := "ytmhcogpjgllgjaa", sum := "6312c954e0c6ef64b2b3065ba33c33ffe232ed62a892e7c3d45b14b8852168ad", func := "bootjack/bootjacklaw3.RegionParts", spec := "regionParts", apart := false }
def RegionPartsSaid : Prop := regionPartsRow.holds Try.pinned (OpenSpec.ofChange regionPartsSpec)

/-- ITS FALSE NEIGHBOUR: 'it returns false'. Refute it at one input. -/
def regionPartsWrong : ChangeSpec := { name := "regionParts", fn := fun _ => fun
  | [d1, d2, d3, d4, d5] => { results := [.lit (.bool false)], args := [d1, d2, d3, d4, d5] }
  | _ => none }
def RegionPartsWrongFalsely : Prop := regionPartsRow.holds Try.pinned (OpenSpec.ofChange regionPartsWrong)

/-- 'bootjacklaw3.RegionNone': WHATEVER THE INPUT: true; the input reads as it did. -/
def regionNoneSpec : ChangeSpec := { name := "regionNone", fn := fun _ => fun
  | [d1, d2, d3] => { results := [.lit (.bool true)], args := [d1, d2, d3] }
  | _ => none }
def regionNoneRow : OpenClaim := { program := "ytmhcogpjgllgjaa", sum := "6312c954e0c6ef64b2b3065ba33c33ffe232ed62a892e7c3d45b14b8852168ad", func := "bootjack/bootjacklaw3.RegionNone", spec := "regionNone", apart := false }
def RegionNoneSaid : Prop := regionNoneRow.holds Try.pinned (OpenSpec.ofChange regionNoneSpec)

/-- ITS FALSE NEIGHBOUR: 'it returns false'. Refute it at one input. -/
def regionNoneWrong : ChangeSpec := { name := "regionNone", fn := fun _ => fun
  | [d1, d2, d3] => { results := [.lit (.bool false)], args := [d1, d2, d3] }
  | _ => none }
def RegionNoneWrongFalsely : Prop := regionNoneRow.holds Try.pinned (OpenSpec.ofChange regionNoneWrong)

/- THE SECOND FORM. 'bulk': how many values and letters a reading holds, each counted each time it is reached (what is shared counts as often as it is met; a slice's spare places count too). A statement '..UptoSaid' is the law's where the arguments, and the package variables that the reading takes, are together of bulk at most 1048576: NARROWER than '..Said'. Prove '..Said' where nothing that the law and all that it calls make is longer than what came in: it says more and counts as full. Else prove '..UptoSaid'. A law counts once. -/
mutual
def uptoBulk {H : Type} : DataW H → Nat
  | .lit (.string bytes) => bytes.length + 1
  | .lit _ => 1
  | .nil => 1
  | .ptr d => uptoBulk d + 1
  | .slice elems spare => uptoBulkAll elems + uptoBulkAll spare + 1
  | .agg parts => uptoBulkAll parts + 1
  | .iface _ d => uptoBulk d + 1
  | .map entries => uptoBulkEntries entries + 1
  | .held _ => 1
def uptoBulkAll {H : Type} : List (DataW H) → Nat
  | [] => 0
  | d :: r => uptoBulk d + uptoBulkAll r
def uptoBulkEntries {H : Type} : List (Lit × DataW H) → Nat
  | [] => 0
  | x :: r => uptoBulkEntry x + uptoBulkEntries r
def uptoBulkEntry {H : Type} : Lit × DataW H → Nat
  | (.string bytes, d) => bytes.length + uptoBulk d + 1
  | (_, d) => uptoBulk d + 1
 end
def uptoSmall : (H : Type) → List (DataW H) → Bool := fun _ ds => decide (uptoBulkAll ds ≤ 1048576)
def OpenSpec.upto (s : _root_.Go.ChangeSpec) : _root_.Go.OpenSpec := { _root_.Go.OpenSpec.ofChange s with cond := some uptoSmall }

/-- 'bootjacklaw3.RegionPlays', WHERE WHAT IT READS IS OF BULK AT MOST 1048576: true; the input reads as it did. -/
def regionPlaysUptoRow : OpenClaim := { program := "ytmhcogpjgllgjaa", sum := "6312c954e0c6ef64b2b3065ba33c33ffe232ed62a892e7c3d45b14b8852168ad", func := "bootjack/bootjacklaw3.RegionPlays", spec := "regionPlays", apart := false, narrowed := true }
def RegionPlaysUptoSaid : Prop := regionPlaysUptoRow.holds Try.pinned (OpenSpec.upto regionPlaysSpec)

/-- 'bootjacklaw3.RegionOnly', WHERE WHAT IT READS IS OF BULK AT MOST 1048576: true; the input reads as it did. -/
def regionOnlyUptoRow : OpenClaim := { program := "ytmhcogpjgllgjaa", sum := "6312c954e0c6ef64b2b3065ba33c33ffe232ed62a892e7c3d45b14b8852168ad", func := "bootjack/bootjacklaw3.RegionOnly", spec := "regionOnly", apart := false, narrowed := true }
def RegionOnlyUptoSaid : Prop := regionOnlyUptoRow.holds Try.pinned (OpenSpec.upto regionOnlySpec)

/-- 'bootjacklaw3.RegionParts', WHERE WHAT IT READS IS OF BULK AT MOST 1048576: true; the input reads as it did. -/
def regionPartsUptoRow : OpenClaim := { program := "ytmhcogpjgllgjaa", sum := "6312c954e0c6ef64b2b3065ba33c33ffe232ed62a892e7c3d45b14b8852168ad", func := "bootjack/bootjacklaw3.RegionParts", spec := "regionParts", apart := false, narrowed := true }
def RegionPartsUptoSaid : Prop := regionPartsUptoRow.holds Try.pinned (OpenSpec.upto regionPartsSpec)

/-- 'bootjacklaw3.RegionNone', WHERE WHAT IT READS IS OF BULK AT MOST 1048576: true; the input reads as it did. -/
def regionNoneUptoRow : OpenClaim := { program := "ytmhcogpjgllgjaa", sum := "6312c954e0c6ef64b2b3065ba33c33ffe232ed62a892e7c3d45b14b8852168ad", func := "bootjack/bootjacklaw3.RegionNone", spec := "regionNone", apart := false, narrowed := true }
def RegionNoneUptoSaid : Prop := regionNoneUptoRow.holds Try.pinned (OpenSpec.upto regionNoneSpec)

end Rows
end Go.Proofs.Ytmhcogpjgllgjaa
