/-
  No cell of these rows narrows 'for every input' (looked for: loops, veiled, ifaces, maps, wideKeys, modest, calm, conditions, laid).
  DERIVED. THE GIVEN ROWS OF THIS SEAT. 5 by the template 'for every input the law returns true; each argument reads behind the call as it read before'; 0 by the template 'total and deterministic' (their statements: YtmmfbbbljhifjaaTotals.lean).
  GIVEN WITH THE SEED: the statements are not yours to turn. If you find one false, say at which input.
  Laid BY PROGRAM, IN A SANDBOX (cutbox-rows.mjs): the forced cells as the released guide's own fill.sh prints them over the translation e1c935ba1f2373c6… (all of the seat's roots in one cut). By AI agents, Wed Nov 11 2026. No macro, syntax, notation, axiom, sorry.
-/
import Derived.Test.YtmmfbbbljhifjaaChecked
import GoSem.Claim
import GoSem.ClaimJoined
import GoSem.ClaimMapViews
import Derived.JoinedTies
import Derived.KernelRfl
namespace Go.Proofs.Ytmmfbbbljhifjaa
/- THE CELL 'sum', in the pinned program and in every row, IS THE sha256 OF THE DUMP (.gsa) THAT YtmmfbbbljhifjaaProg.lean LOADS. Nothing in Lean hashes anything: it is a label: what it is worth is what the hold of that sum in a sandbox is worth. -/
noncomputable def Try.pinned : Pinned := { name := "ytmmfbbbljhifjaa", sum := "e1c935ba1f2373c60d98a896f3b09786794ee6331e829393873a6f8d00c01c39", checked := Try.checked }
namespace Rows
def none {H : Type} : Left H := { results := [], args := [] }

/-- 'bootjacklaw11.ScalarTells': WHATEVER THE INPUT: true; the input reads as it did. -/
def scalarTellsSpec : ChangeSpec := { name := "scalarTells", fn := fun _ => fun
  | [d1, d2, d3, d4] => { results := [.lit (.bool true)], args := [d1, d2, d3, d4] }
  | _ => none }
def scalarTellsRow : OpenClaim := { program := "ytmmfbbbljhifjaa", sum := "e1c935ba1f2373c60d98a896f3b09786794ee6331e829393873a6f8d00c01c39", func := "bootjack/bootjacklaw11.ScalarTells", spec := "scalarTells", inPlace := ["math/bits.Add64", "math/bits.Sub64"], apart := false }
def ScalarTellsSaid : Prop := scalarTellsRow.holds Try.pinned (OpenSpec.ofChange scalarTellsSpec)

/-- ITS FALSE NEIGHBOUR: 'it returns false'. Refute it at one input. -/
def scalarTellsWrong : ChangeSpec := { name := "scalarTells", fn := fun _ => fun
  | [d1, d2, d3, d4] => { results := [.lit (.bool false)], args := [d1, d2, d3, d4] }
  | _ => none }
def ScalarTellsWrongFalsely : Prop := scalarTellsRow.holds Try.pinned (OpenSpec.ofChange scalarTellsWrong)

/-- 'bootjacklaw11.ScalarRing': WHATEVER THE INPUT: true; the input reads as it did. -/
def scalarRingSpec : ChangeSpec := { name := "scalarRing", fn := fun _ => fun
  | [d1, d2, d3] => { results := [.lit (.bool true)], args := [d1, d2, d3] }
  | _ => none }
def scalarRingRow : OpenClaim := { program := "ytmmfbbbljhifjaa", sum := "e1c935ba1f2373c60d98a896f3b09786794ee6331e829393873a6f8d00c01c39", func := "bootjack/bootjacklaw11.ScalarRing", spec := "scalarRing", inPlace := ["math/bits.Add64", "math/bits.Sub64"], apart := false }
def ScalarRingSaid : Prop := scalarRingRow.holds Try.pinned (OpenSpec.ofChange scalarRingSpec)

/-- ITS FALSE NEIGHBOUR: 'it returns false'. Refute it at one input. -/
def scalarRingWrong : ChangeSpec := { name := "scalarRing", fn := fun _ => fun
  | [d1, d2, d3] => { results := [.lit (.bool false)], args := [d1, d2, d3] }
  | _ => none }
def ScalarRingWrongFalsely : Prop := scalarRingRow.holds Try.pinned (OpenSpec.ofChange scalarRingWrong)

/-- 'bootjacklaw11.ScalarNeg': WHATEVER THE INPUT: true; the input reads as it did. -/
def scalarNegSpec : ChangeSpec := { name := "scalarNeg", fn := fun _ => fun
  | [d1, d2] => { results := [.lit (.bool true)], args := [d1, d2] }
  | _ => none }
def scalarNegRow : OpenClaim := { program := "ytmmfbbbljhifjaa", sum := "e1c935ba1f2373c60d98a896f3b09786794ee6331e829393873a6f8d00c01c39", func := "bootjack/bootjacklaw11.ScalarNeg", spec := "scalarNeg", inPlace := ["math/bits.Add64", "math/bits.Sub64"], apart := false }
def ScalarNegSaid : Prop := scalarNegRow.holds Try.pinned (OpenSpec.ofChange scalarNegSpec)

/-- ITS FALSE NEIGHBOUR: 'it returns false'. Refute it at one input. -/
def scalarNegWrong : ChangeSpec := { name := "scalarNeg", fn := fun _ => fun
  | [d1, d2] => { results := [.lit (.bool false)], args := [d1, d2] }
  | _ => none }
def ScalarNegWrongFalsely : Prop := scalarNegRow.holds Try.pinned (OpenSpec.ofChange scalarNegWrong)

/-- 'bootjacklaw11.ScalarWide': WHATEVER THE INPUT: true; the input reads as it did. -/
def scalarWideSpec : ChangeSpec := { name := "scalarWide", fn := fun _ => fun
  | [d1, d2] => { results := [.lit (.bool true)], args := [d1, d2] }
  | _ => none }
def scalarWideRow : OpenClaim := { program := "ytmmfbbbljhifjaa", sum := "e1c935ba1f2373c60d98a896f3b09786794ee6331e829393873a6f8d00c01c39", func := "bootjack/bootjacklaw11.ScalarWide", spec := "scalarWide", inPlace := ["math/bits.Add64", "math/bits.Sub64"], apart := false }
def ScalarWideSaid : Prop := scalarWideRow.holds Try.pinned (OpenSpec.ofChange scalarWideSpec)

/-- ITS FALSE NEIGHBOUR: 'it returns false'. Refute it at one input. -/
def scalarWideWrong : ChangeSpec := { name := "scalarWide", fn := fun _ => fun
  | [d1, d2] => { results := [.lit (.bool false)], args := [d1, d2] }
  | _ => none }
def ScalarWideWrongFalsely : Prop := scalarWideRow.holds Try.pinned (OpenSpec.ofChange scalarWideWrong)

/-- 'bootjacklaw11.ScalarBits': WHATEVER THE INPUT: true; the input reads as it did. -/
def scalarBitsSpec : ChangeSpec := { name := "scalarBits", fn := fun _ => fun
  | [d] => { results := [.lit (.bool true)], args := [d] }
  | _ => none }
def scalarBitsRow : OpenClaim := { program := "ytmmfbbbljhifjaa", sum := "e1c935ba1f2373c60d98a896f3b09786794ee6331e829393873a6f8d00c01c39", func := "bootjack/bootjacklaw11.ScalarBits", spec := "scalarBits", inPlace := ["math/bits.Add64", "math/bits.Sub64"], apart := false }
def ScalarBitsSaid : Prop := scalarBitsRow.holds Try.pinned (OpenSpec.ofChange scalarBitsSpec)

/-- ITS FALSE NEIGHBOUR: 'it returns false'. Refute it at one input. -/
def scalarBitsWrong : ChangeSpec := { name := "scalarBits", fn := fun _ => fun
  | [d] => { results := [.lit (.bool false)], args := [d] }
  | _ => none }
def ScalarBitsWrongFalsely : Prop := scalarBitsRow.holds Try.pinned (OpenSpec.ofChange scalarBitsWrong)

/- THE SECOND FORM. 'bulk': how many values and letters a reading holds, each counted each time it is reached (what is shared counts as often as it is met; a slice's spare places count too). A statement '..UptoSaid' is the law's where the arguments, and the package variables that the reading takes, are together of bulk at most 1048576: NARROWER than '..Said'. Prove '..Said' where nothing that the law and all that it calls make is longer than what came in: it says more and counts as full. Else prove '..UptoSaid'. A law counts once. -/
mutual
def uptoBulk {H : Type} : DataW H → Nat
  | .lit (.string bytes) => bytes.length + 1
  | .lit _ => 1
  | .nil => 1
  | .ptr d => uptoBulk d + 1
  | .slice elems spare => uptoBulkAll elems + uptoBulkAll spare + 1
  | .agg parts => uptoBulkAll parts + 1
  | .iface _ d => uptoBulk d + 1
  | .map entries => uptoBulkEntries entries + 1
  | .held _ => 1
def uptoBulkAll {H : Type} : List (DataW H) → Nat
  | [] => 0
  | d :: r => uptoBulk d + uptoBulkAll r
def uptoBulkEntries {H : Type} : List (Lit × DataW H) → Nat
  | [] => 0
  | x :: r => uptoBulkEntry x + uptoBulkEntries r
def uptoBulkEntry {H : Type} : Lit × DataW H → Nat
  | (.string bytes, d) => bytes.length + uptoBulk d + 1
  | (_, d) => uptoBulk d + 1
 end
def uptoSmall : (H : Type) → List (DataW H) → Bool := fun _ ds => decide (uptoBulkAll ds ≤ 1048576)
def OpenSpec.upto (s : _root_.Go.ChangeSpec) : _root_.Go.OpenSpec := { _root_.Go.OpenSpec.ofChange s with cond := some uptoSmall }

/-- 'bootjacklaw11.ScalarTells', WHERE WHAT IT READS IS OF BULK AT MOST 1048576: true; the input reads as it did. -/
def scalarTellsUptoRow : OpenClaim := { program := "ytmmfbbbljhifjaa", sum := "e1c935ba1f2373c60d98a896f3b09786794ee6331e829393873a6f8d00c01c39", func := "bootjack/bootjacklaw11.ScalarTells", spec := "scalarTells", inPlace := ["math/bits.Add64", "math/bits.Sub64"], apart := false, narrowed := true }
def ScalarTellsUptoSaid : Prop := scalarTellsUptoRow.holds Try.pinned (OpenSpec.upto scalarTellsSpec)

/-- 'bootjacklaw11.ScalarRing', WHERE WHAT IT READS IS OF BULK AT MOST 1048576: true; the input reads as it did. -/
def scalarRingUptoRow : OpenClaim := { program := "ytmmfbbbljhifjaa", sum := "e1c935ba1f2373c60d98a896f3b09786794ee6331e829393873a6f8d00c01c39", func := "bootjack/bootjacklaw11.ScalarRing", spec := "scalarRing", inPlace := ["math/bits.Add64", "math/bits.Sub64"], apart := false, narrowed := true }
def ScalarRingUptoSaid : Prop := scalarRingUptoRow.holds Try.pinned (OpenSpec.upto scalarRingSpec)

/-- 'bootjacklaw11.ScalarNeg', WHERE WHAT IT READS IS OF BULK AT MOST 1048576: true; the input reads as it did. -/
def scalarNegUptoRow : OpenClaim := { program := "ytmmfbbbljhifjaa", sum := "e1c935ba1f2373c60d98a896f3b09786794ee6331e829393873a6f8d00c01c39", func := "bootjack/bootjacklaw11.ScalarNeg", spec := "scalarNeg", inPlace := ["math/bits.Add64", "math/bits.Sub64"], apart := false, narrowed := true }
def ScalarNegUptoSaid : Prop := scalarNegUptoRow.holds Try.pinned (OpenSpec.upto scalarNegSpec)

/-- 'bootjacklaw11.ScalarWide', WHERE WHAT IT READS IS OF BULK AT MOST 1048576: true; the input reads as it did. -/
def scalarWideUptoRow : OpenClaim := { program := "ytmmfbbbljhifjaa", sum := "e1c935ba1f2373c60d98a896f3b09786794ee6331e829393873a6f8d00c01c39", func := "bootjack/bootjacklaw11.ScalarWide", spec := "scalarWide", inPlace := ["math/bits.Add64", "math/bits.Sub64"], apart := false, narrowed := true }
def ScalarWideUptoSaid : Prop := scalarWideUptoRow.holds Try.pinned (OpenSpec.upto scalarWideSpec)

/-- 'bootjacklaw11.ScalarBits', WHERE WHAT IT READS IS OF BULK AT MOST 1048576: true; the input reads as it did. -/
def scalarBitsUptoRow : OpenClaim := { program := "ytmmfbbbljhifjaa", sum := "e1c935ba1f2373c60d98a896f3b09786794ee6331e829393873a6f8d00c01c39", func := "bootjack/bootjacklaw11.ScalarBits", spec := "scalarBits", inPlace := ["math/bits.Add64", "math/bits.Sub64"], apart := false, narrowed := true }
def ScalarBitsUptoSaid : Prop := scalarBitsUptoRow.holds Try.pinned (OpenSpec.upto scalarBitsSpec)

end Rows
end Go.Proofs.Ytmmfbbbljhifjaa
