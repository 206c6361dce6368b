/-
  No cell of these rows narrows 'for every input' (looked for: loops, veiled, ifaces, maps, wideKeys, modest, calm, conditions, laid).
  DERIVED. THE GIVEN ROWS OF THIS SEAT. 5 by the template 'for every input the law returns true; each argument reads behind the call as it read before'; 0 by the template 'total and deterministic' (their statements: YtfejabfmhddepaaTotals.lean).
  GIVEN WITH THE SEED: the statements are not yours to turn. If you find one false, say at which input.
  Laid BY PROGRAM, IN A SANDBOX (cutbox-rows.mjs): the forced cells as the released guide's own fill.sh prints them over the translation a096d07d09432b2b… (all of the seat's roots in one cut). By AI agents, Wed Nov 11 2026. No macro, syntax, notation, axiom, sorry.
-/
import Derived.Test.YtfejabfmhddepaaChecked
import GoSem.Claim
import GoSem.ClaimJoined
import GoSem.ClaimMapViews
import Derived.JoinedTies
import Derived.KernelRfl
namespace Go.Proofs.Ytfejabfmhddepaa
/- THE CELL 'sum', in the pinned program and in every row, IS THE sha256 OF THE DUMP (.gsa) THAT YtfejabfmhddepaaProg.lean LOADS. Nothing in Lean hashes anything: it is a label: what it is worth is what the hold of that sum in a sandbox is worth. -/
noncomputable def Try.pinned : Pinned := { name := "ytfejabfmhddepaa", sum := "a096d07d09432b2bcc2095a616ef924dc96318acfc96f1e2809c297f89f3c12a", checked := Try.checked }
namespace Rows
def none {H : Type} : Left H := { results := [], args := [] }

/-- 'bootjacklaw13.MultTells': WHATEVER THE INPUT: true; the input reads as it did. -/
def multTellsSpec : ChangeSpec := { name := "multTells", fn := fun _ => fun
  | [d1, d2] => { results := [.lit (.bool true)], args := [d1, d2] }
  | _ => none }
def multTellsRow : OpenClaim := { program := "ytfejabfmhddepaa", sum := "a096d07d09432b2bcc2095a616ef924dc96318acfc96f1e2809c297f89f3c12a", func := "bootjack/bootjacklaw13.MultTells", spec := "multTells", inPlace := ["math/bits.Add64"], recurses := true, apart := false }
def MultTellsSaid : Prop := multTellsRow.holds Try.pinned (OpenSpec.ofChange multTellsSpec)

/-- ITS FALSE NEIGHBOUR: 'it returns false'. Refute it at one input. -/
def multTellsWrong : ChangeSpec := { name := "multTells", fn := fun _ => fun
  | [d1, d2] => { results := [.lit (.bool false)], args := [d1, d2] }
  | _ => none }
def MultTellsWrongFalsely : Prop := multTellsRow.holds Try.pinned (OpenSpec.ofChange multTellsWrong)

/-- 'bootjacklaw13.MultSums': WHATEVER THE INPUT: true; the input reads as it did. -/
def multSumsSpec : ChangeSpec := { name := "multSums", fn := fun _ => fun
  | [d1, d2, d3] => { results := [.lit (.bool true)], args := [d1, d2, d3] }
  | _ => none }
def multSumsRow : OpenClaim := { program := "ytfejabfmhddepaa", sum := "a096d07d09432b2bcc2095a616ef924dc96318acfc96f1e2809c297f89f3c12a", func := "bootjack/bootjacklaw13.MultSums", spec := "multSums", inPlace := ["math/bits.Add64"], recurses := true, apart := false }
def MultSumsSaid : Prop := multSumsRow.holds Try.pinned (OpenSpec.ofChange multSumsSpec)

/-- ITS FALSE NEIGHBOUR: 'it returns false'. Refute it at one input. -/
def multSumsWrong : ChangeSpec := { name := "multSums", fn := fun _ => fun
  | [d1, d2, d3] => { results := [.lit (.bool false)], args := [d1, d2, d3] }
  | _ => none }
def MultSumsWrongFalsely : Prop := multSumsRow.holds Try.pinned (OpenSpec.ofChange multSumsWrong)

/-- 'bootjacklaw13.MultOver': WHATEVER THE INPUT: true; the input reads as it did. -/
def multOverSpec : ChangeSpec := { name := "multOver", fn := fun _ => fun
  | [d1, d2, d3] => { results := [.lit (.bool true)], args := [d1, d2, d3] }
  | _ => none }
def multOverRow : OpenClaim := { program := "ytfejabfmhddepaa", sum := "a096d07d09432b2bcc2095a616ef924dc96318acfc96f1e2809c297f89f3c12a", func := "bootjack/bootjacklaw13.MultOver", spec := "multOver", inPlace := ["math/bits.Add64"], recurses := true, apart := false }
def MultOverSaid : Prop := multOverRow.holds Try.pinned (OpenSpec.ofChange multOverSpec)

/-- ITS FALSE NEIGHBOUR: 'it returns false'. Refute it at one input. -/
def multOverWrong : ChangeSpec := { name := "multOver", fn := fun _ => fun
  | [d1, d2, d3] => { results := [.lit (.bool false)], args := [d1, d2, d3] }
  | _ => none }
def MultOverWrongFalsely : Prop := multOverRow.holds Try.pinned (OpenSpec.ofChange multOverWrong)

/-- 'bootjacklaw13.MultOrder': WHATEVER THE INPUT: true; the input reads as it did. -/
def multOrderSpec : ChangeSpec := { name := "multOrder", fn := fun _ => fun
  | [d1, d2] => { results := [.lit (.bool true)], args := [d1, d2] }
  | _ => none }
def multOrderRow : OpenClaim := { program := "ytfejabfmhddepaa", sum := "a096d07d09432b2bcc2095a616ef924dc96318acfc96f1e2809c297f89f3c12a", func := "bootjack/bootjacklaw13.MultOrder", spec := "multOrder", inPlace := ["math/bits.Add64", "math/bits.Sub64"], apart := false }
def MultOrderSaid : Prop := multOrderRow.holds Try.pinned (OpenSpec.ofChange multOrderSpec)

/-- ITS FALSE NEIGHBOUR: 'it returns false'. Refute it at one input. -/
def multOrderWrong : ChangeSpec := { name := "multOrder", fn := fun _ => fun
  | [d1, d2] => { results := [.lit (.bool false)], args := [d1, d2] }
  | _ => none }
def MultOrderWrongFalsely : Prop := multOrderRow.holds Try.pinned (OpenSpec.ofChange multOrderWrong)

/-- 'bootjacklaw13.MultTwo': WHATEVER THE INPUT: true; the input reads as it did. -/
def multTwoSpec : ChangeSpec := { name := "multTwo", fn := fun _ => fun
  | [d1, d2, d3] => { results := [.lit (.bool true)], args := [d1, d2, d3] }
  | _ => none }
def multTwoRow : OpenClaim := { program := "ytfejabfmhddepaa", sum := "a096d07d09432b2bcc2095a616ef924dc96318acfc96f1e2809c297f89f3c12a", func := "bootjack/bootjacklaw13.MultTwo", spec := "multTwo", inPlace := ["math/bits.Add64"], recurses := true, apart := false }
def MultTwoSaid : Prop := multTwoRow.holds Try.pinned (OpenSpec.ofChange multTwoSpec)

/-- ITS FALSE NEIGHBOUR: 'it returns false'. Refute it at one input. -/
def multTwoWrong : ChangeSpec := { name := "multTwo", fn := fun _ => fun
  | [d1, d2, d3] => { results := [.lit (.bool false)], args := [d1, d2, d3] }
  | _ => none }
def MultTwoWrongFalsely : Prop := multTwoRow.holds Try.pinned (OpenSpec.ofChange multTwoWrong)

/- THE SECOND FORM. 'bulk': how many values and letters a reading holds, each counted each time it is reached (what is shared counts as often as it is met; a slice's spare places count too). A statement '..UptoSaid' is the law's where the arguments, and the package variables that the reading takes, are together of bulk at most 1048576: NARROWER than '..Said'. Prove '..Said' where nothing that the law and all that it calls make is longer than what came in: it says more and counts as full. Else prove '..UptoSaid'. A law counts once. -/
mutual
def uptoBulk {H : Type} : DataW H → Nat
  | .lit (.string bytes) => bytes.length + 1
  | .lit _ => 1
  | .nil => 1
  | .ptr d => uptoBulk d + 1
  | .slice elems spare => uptoBulkAll elems + uptoBulkAll spare + 1
  | .agg parts => uptoBulkAll parts + 1
  | .iface _ d => uptoBulk d + 1
  | .map entries => uptoBulkEntries entries + 1
  | .held _ => 1
def uptoBulkAll {H : Type} : List (DataW H) → Nat
  | [] => 0
  | d :: r => uptoBulk d + uptoBulkAll r
def uptoBulkEntries {H : Type} : List (Lit × DataW H) → Nat
  | [] => 0
  | x :: r => uptoBulkEntry x + uptoBulkEntries r
def uptoBulkEntry {H : Type} : Lit × DataW H → Nat
  | (.string bytes, d) => bytes.length + uptoBulk d + 1
  | (_, d) => uptoBulk d + 1
 end
def uptoSmall : (H : Type) → List (DataW H) → Bool := fun _ ds => decide (uptoBulkAll ds ≤ 1048576)
def OpenSpec.upto (s : _root_.Go.ChangeSpec) : _root_.Go.OpenSpec := { _root_.Go.OpenSpec.ofChange s with cond := some uptoSmall }

/-- 'bootjacklaw13.MultTells', WHERE WHAT IT READS IS OF BULK AT MOST 1048576: true; the input reads as it did. -/
def multTellsUptoRow : OpenClaim := { program := "ytfejabfmhddepaa", sum := "a096d07d09432b2bcc2095a616ef924dc96318acfc96f1e2809c297f89f3c12a", func := "bootjack/bootjacklaw13.MultTells", spec := "multTells", inPlace := ["math/bits.Add64"], recurses := true, apart := false, narrowed := true }
def MultTellsUptoSaid : Prop := multTellsUptoRow.holds Try.pinned (OpenSpec.upto multTellsSpec)

/-- 'bootjacklaw13.MultSums', WHERE WHAT IT READS IS OF BULK AT MOST 1048576: true; the input reads as it did. -/
def multSumsUptoRow : OpenClaim := { program := "ytfejabfmhddepaa", sum := "a096d07d09432b2bcc2095a616ef924dc96318acfc96f1e2809c297f89f3c12a", func := "bootjack/bootjacklaw13.MultSums", spec := "multSums", inPlace := ["math/bits.Add64"], recurses := true, apart := false, narrowed := true }
def MultSumsUptoSaid : Prop := multSumsUptoRow.holds Try.pinned (OpenSpec.upto multSumsSpec)

/-- 'bootjacklaw13.MultOver', WHERE WHAT IT READS IS OF BULK AT MOST 1048576: true; the input reads as it did. -/
def multOverUptoRow : OpenClaim := { program := "ytfejabfmhddepaa", sum := "a096d07d09432b2bcc2095a616ef924dc96318acfc96f1e2809c297f89f3c12a", func := "bootjack/bootjacklaw13.MultOver", spec := "multOver", inPlace := ["math/bits.Add64"], recurses := true, apart := false, narrowed := true }
def MultOverUptoSaid : Prop := multOverUptoRow.holds Try.pinned (OpenSpec.upto multOverSpec)

/-- 'bootjacklaw13.MultOrder', WHERE WHAT IT READS IS OF BULK AT MOST 1048576: true; the input reads as it did. -/
def multOrderUptoRow : OpenClaim := { program := "ytfejabfmhddepaa", sum := "a096d07d09432b2bcc2095a616ef924dc96318acfc96f1e2809c297f89f3c12a", func := "bootjack/bootjacklaw13.MultOrder", spec := "multOrder", inPlace := ["math/bits.Add64", "math/bits.Sub64"], apart := false, narrowed := true }
def MultOrderUptoSaid : Prop := multOrderUptoRow.holds Try.pinned (OpenSpec.upto multOrderSpec)

/-- 'bootjacklaw13.MultTwo', WHERE WHAT IT READS IS OF BULK AT MOST 1048576: true; the input reads as it did. -/
def multTwoUptoRow : OpenClaim := { program := "ytfejabfmhddepaa", sum := "a096d07d09432b2bcc2095a616ef924dc96318acfc96f1e2809c297f89f3c12a", func := "bootjack/bootjacklaw13.MultTwo", spec := "multTwo", inPlace := ["math/bits.Add64"], recurses := true, apart := false, narrowed := true }
def MultTwoUptoSaid : Prop := multTwoUptoRow.holds Try.pinned (OpenSpec.upto multTwoSpec)

end Rows
end Go.Proofs.Ytfejabfmhddepaa
