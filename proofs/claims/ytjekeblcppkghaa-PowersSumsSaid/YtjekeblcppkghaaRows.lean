/-
  No cell of these rows narrows 'for every input' (looked for: loops, veiled, ifaces, maps, wideKeys, modest, calm, conditions, laid).
  DERIVED. THE GIVEN ROWS OF THIS SEAT. 5 by the template 'for every input the law returns true; each argument reads behind the call as it read before'; 0 by the template 'total and deterministic' (their statements: YtjekeblcppkghaaTotals.lean).
  GIVEN WITH THE SEED: the statements are not yours to turn. If you find one false, say at which input.
  Laid BY PROGRAM, IN A SANDBOX (cutbox-rows.mjs): the forced cells as the released guide's own fill.sh prints them over the translation 297c8d08b4490575… (all of the seat's roots in one cut). By AI agents, Wed Nov 11 2026. No macro, syntax, notation, axiom, sorry.
-/
import Derived.Test.YtjekeblcppkghaaChecked
import GoSem.Claim
import GoSem.ClaimJoined
import GoSem.ClaimMapViews
import Derived.JoinedTies
import Derived.KernelRfl
namespace Go.Proofs.Ytjekeblcppkghaa
/- THE CELL 'sum', in the pinned program and in every row, IS THE sha256 OF THE DUMP (.gsa) THAT YtjekeblcppkghaaProg.lean LOADS. Nothing in Lean hashes anything: it is a label: what it is worth is what the hold of that sum in a sandbox is worth. -/
noncomputable def Try.pinned : Pinned := { name := "ytjekeblcppkghaa", sum := "297c8d08b44905751c7b746f459773e5f031e2188bd72887fd70d46e7a5e60dd", checked := Try.checked }
namespace Rows
def none {H : Type} : Left H := { results := [], args := [] }

/-- 'bootjacklaw10.PowersTell': WHATEVER THE INPUT: true; the input reads as it did. -/
def powersTellSpec : ChangeSpec := { name := "powersTell", fn := fun _ => fun
  | [d1, d2, d3] => { results := [.lit (.bool true)], args := [d1, d2, d3] }
  | _ => none }
def powersTellRow : OpenClaim := { program := "ytjekeblcppkghaa", sum := "297c8d08b44905751c7b746f459773e5f031e2188bd72887fd70d46e7a5e60dd", func := "bootjack/bootjacklaw10.PowersTell", spec := "powersTell", inPlace := ["math/bits.Add64"], recurses := true, apart := false }
def PowersTellSaid : Prop := powersTellRow.holds Try.pinned (OpenSpec.ofChange powersTellSpec)

/-- ITS FALSE NEIGHBOUR: 'it returns false'. Refute it at one input. -/
def powersTellWrong : ChangeSpec := { name := "powersTell", fn := fun _ => fun
  | [d1, d2, d3] => { results := [.lit (.bool false)], args := [d1, d2, d3] }
  | _ => none }
def PowersTellWrongFalsely : Prop := powersTellRow.holds Try.pinned (OpenSpec.ofChange powersTellWrong)

/-- 'bootjacklaw10.PowersInvert': WHATEVER THE INPUT: true; the input reads as it did. -/
def powersInvertSpec : ChangeSpec := { name := "powersInvert", fn := fun _ => fun
  | [d1, d2] => { results := [.lit (.bool true)], args := [d1, d2] }
  | _ => none }
def powersInvertRow : OpenClaim := { program := "ytjekeblcppkghaa", sum := "297c8d08b44905751c7b746f459773e5f031e2188bd72887fd70d46e7a5e60dd", func := "bootjack/bootjacklaw10.PowersInvert", spec := "powersInvert", inPlace := ["math/bits.Add64"], recurses := true, apart := false }
def PowersInvertSaid : Prop := powersInvertRow.holds Try.pinned (OpenSpec.ofChange powersInvertSpec)

/-- ITS FALSE NEIGHBOUR: 'it returns false'. Refute it at one input. -/
def powersInvertWrong : ChangeSpec := { name := "powersInvert", fn := fun _ => fun
  | [d1, d2] => { results := [.lit (.bool false)], args := [d1, d2] }
  | _ => none }
def PowersInvertWrongFalsely : Prop := powersInvertRow.holds Try.pinned (OpenSpec.ofChange powersInvertWrong)

/-- 'bootjacklaw10.PowersSqrt': WHATEVER THE INPUT: true; the input reads as it did. -/
def powersSqrtSpec : ChangeSpec := { name := "powersSqrt", fn := fun _ => fun
  | [d] => { results := [.lit (.bool true)], args := [d] }
  | _ => none }
def powersSqrtRow : OpenClaim := { program := "ytjekeblcppkghaa", sum := "297c8d08b44905751c7b746f459773e5f031e2188bd72887fd70d46e7a5e60dd", func := "bootjack/bootjacklaw10.PowersSqrt", spec := "powersSqrt", inPlace := ["math/bits.Add64"], recurses := true, apart := false }
def PowersSqrtSaid : Prop := powersSqrtRow.holds Try.pinned (OpenSpec.ofChange powersSqrtSpec)

/-- ITS FALSE NEIGHBOUR: 'it returns false'. Refute it at one input. -/
def powersSqrtWrong : ChangeSpec := { name := "powersSqrt", fn := fun _ => fun
  | [d] => { results := [.lit (.bool false)], args := [d] }
  | _ => none }
def PowersSqrtWrongFalsely : Prop := powersSqrtRow.holds Try.pinned (OpenSpec.ofChange powersSqrtWrong)

/-- 'bootjacklaw10.PowersSums': WHATEVER THE INPUT: true; the input reads as it did. -/
def powersSumsSpec : ChangeSpec := { name := "powersSums", fn := fun _ => fun
  | [d1, d2, d3] => { results := [.lit (.bool true)], args := [d1, d2, d3] }
  | _ => none }
def powersSumsRow : OpenClaim := { program := "ytjekeblcppkghaa", sum := "297c8d08b44905751c7b746f459773e5f031e2188bd72887fd70d46e7a5e60dd", func := "bootjack/bootjacklaw10.PowersSums", spec := "powersSums", inPlace := ["math/bits.Add64"], recurses := true, apart := false }
def PowersSumsSaid : Prop := powersSumsRow.holds Try.pinned (OpenSpec.ofChange powersSumsSpec)

/-- ITS FALSE NEIGHBOUR: 'it returns false'. Refute it at one input. -/
def powersSumsWrong : ChangeSpec := { name := "powersSums", fn := fun _ => fun
  | [d1, d2, d3] => { results := [.lit (.bool false)], args := [d1, d2, d3] }
  | _ => none }
def PowersSumsWrongFalsely : Prop := powersSumsRow.holds Try.pinned (OpenSpec.ofChange powersSumsWrong)

/-- 'bootjacklaw10.PowersRatio': WHATEVER THE INPUT: true; the input reads as it did. -/
def powersRatioSpec : ChangeSpec := { name := "powersRatio", fn := fun _ => fun
  | [d1, d2] => { results := [.lit (.bool true)], args := [d1, d2] }
  | _ => none }
def powersRatioRow : OpenClaim := { program := "ytjekeblcppkghaa", sum := "297c8d08b44905751c7b746f459773e5f031e2188bd72887fd70d46e7a5e60dd", func := "bootjack/bootjacklaw10.PowersRatio", spec := "powersRatio", inPlace := ["math/bits.Add64"], recurses := true, apart := false }
def PowersRatioSaid : Prop := powersRatioRow.holds Try.pinned (OpenSpec.ofChange powersRatioSpec)

/-- ITS FALSE NEIGHBOUR: 'it returns false'. Refute it at one input. -/
def powersRatioWrong : ChangeSpec := { name := "powersRatio", fn := fun _ => fun
  | [d1, d2] => { results := [.lit (.bool false)], args := [d1, d2] }
  | _ => none }
def PowersRatioWrongFalsely : Prop := powersRatioRow.holds Try.pinned (OpenSpec.ofChange powersRatioWrong)

/- THE SECOND FORM. 'bulk': how many values and letters a reading holds, each counted each time it is reached (what is shared counts as often as it is met; a slice's spare places count too). A statement '..UptoSaid' is the law's where the arguments, and the package variables that the reading takes, are together of bulk at most 1048576: NARROWER than '..Said'. Prove '..Said' where nothing that the law and all that it calls make is longer than what came in: it says more and counts as full. Else prove '..UptoSaid'. A law counts once. -/
mutual
def uptoBulk {H : Type} : DataW H → Nat
  | .lit (.string bytes) => bytes.length + 1
  | .lit _ => 1
  | .nil => 1
  | .ptr d => uptoBulk d + 1
  | .slice elems spare => uptoBulkAll elems + uptoBulkAll spare + 1
  | .agg parts => uptoBulkAll parts + 1
  | .iface _ d => uptoBulk d + 1
  | .map entries => uptoBulkEntries entries + 1
  | .held _ => 1
def uptoBulkAll {H : Type} : List (DataW H) → Nat
  | [] => 0
  | d :: r => uptoBulk d + uptoBulkAll r
def uptoBulkEntries {H : Type} : List (Lit × DataW H) → Nat
  | [] => 0
  | x :: r => uptoBulkEntry x + uptoBulkEntries r
def uptoBulkEntry {H : Type} : Lit × DataW H → Nat
  | (.string bytes, d) => bytes.length + uptoBulk d + 1
  | (_, d) => uptoBulk d + 1
 end
def uptoSmall : (H : Type) → List (DataW H) → Bool := fun _ ds => decide (uptoBulkAll ds ≤ 1048576)
def OpenSpec.upto (s : _root_.Go.ChangeSpec) : _root_.Go.OpenSpec := { _root_.Go.OpenSpec.ofChange s with cond := some uptoSmall }

/-- 'bootjacklaw10.PowersTell', WHERE WHAT IT READS IS OF BULK AT MOST 1048576: true; the input reads as it did. -/
def powersTellUptoRow : OpenClaim := { program := "ytjekeblcppkghaa", sum := "297c8d08b44905751c7b746f459773e5f031e2188bd72887fd70d46e7a5e60dd", func := "bootjack/bootjacklaw10.PowersTell", spec := "powersTell", inPlace := ["math/bits.Add64"], recurses := true, apart := false, narrowed := true }
def PowersTellUptoSaid : Prop := powersTellUptoRow.holds Try.pinned (OpenSpec.upto powersTellSpec)

/-- 'bootjacklaw10.PowersInvert', WHERE WHAT IT READS IS OF BULK AT MOST 1048576: true; the input reads as it did. -/
def powersInvertUptoRow : OpenClaim := { program := "ytjekeblcppkghaa", sum := "297c8d08b44905751c7b746f459773e5f031e2188bd72887fd70d46e7a5e60dd", func := "bootjack/bootjacklaw10.PowersInvert", spec := "powersInvert", inPlace := ["math/bits.Add64"], recurses := true, apart := false, narrowed := true }
def PowersInvertUptoSaid : Prop := powersInvertUptoRow.holds Try.pinned (OpenSpec.upto powersInvertSpec)

/-- 'bootjacklaw10.PowersSqrt', WHERE WHAT IT READS IS OF BULK AT MOST 1048576: true; the input reads as it did. -/
def powersSqrtUptoRow : OpenClaim := { program := "ytjekeblcppkghaa", sum := "297c8d08b44905751c7b746f459773e5f031e2188bd72887fd70d46e7a5e60dd", func := "bootjack/bootjacklaw10.PowersSqrt", spec := "powersSqrt", inPlace := ["math/bits.Add64"], recurses := true, apart := false, narrowed := true }
def PowersSqrtUptoSaid : Prop := powersSqrtUptoRow.holds Try.pinned (OpenSpec.upto powersSqrtSpec)

/-- 'bootjacklaw10.PowersSums', WHERE WHAT IT READS IS OF BULK AT MOST 1048576: true; the input reads as it did. -/
def powersSumsUptoRow : OpenClaim := { program := "ytjekeblcppkghaa", sum := "297c8d08b44905751c7b746f459773e5f031e2188bd72887fd70d46e7a5e60dd", func := "bootjack/bootjacklaw10.PowersSums", spec := "powersSums", inPlace := ["math/bits.Add64"], recurses := true, apart := false, narrowed := true }
def PowersSumsUptoSaid : Prop := powersSumsUptoRow.holds Try.pinned (OpenSpec.upto powersSumsSpec)

/-- 'bootjacklaw10.PowersRatio', WHERE WHAT IT READS IS OF BULK AT MOST 1048576: true; the input reads as it did. -/
def powersRatioUptoRow : OpenClaim := { program := "ytjekeblcppkghaa", sum := "297c8d08b44905751c7b746f459773e5f031e2188bd72887fd70d46e7a5e60dd", func := "bootjack/bootjacklaw10.PowersRatio", spec := "powersRatio", inPlace := ["math/bits.Add64"], recurses := true, apart := false, narrowed := true }
def PowersRatioUptoSaid : Prop := powersRatioUptoRow.holds Try.pinned (OpenSpec.upto powersRatioSpec)

end Rows
end Go.Proofs.Ytjekeblcppkghaa
