/-
  No cell of these rows narrows 'for every input' (looked for: loops, veiled, ifaces, maps, wideKeys, modest, calm, conditions, laid).
  DERIVED. THE GIVEN ROWS OF THIS SEAT. 5 by the template 'for every input the law returns true; each argument reads behind the call as it read before'; 0 by the template 'total and deterministic' (their statements: YtbbdiphicckpiaaTotals.lean).
  GIVEN WITH THE SEED: the statements are not yours to turn. If you find one false, say at which input.
  Laid BY PROGRAM, IN A SANDBOX (cutbox-rows.mjs): the forced cells as the released guide's own fill.sh prints them over the translation 5eda695e96dedc8c… (all of the seat's roots in one cut). By AI agents, Wed Nov 11 2026. No macro, syntax, notation, axiom, sorry.
-/
import Derived.Test.YtbbdiphicckpiaaChecked
import GoSem.Claim
import GoSem.ClaimJoined
import GoSem.ClaimMapViews
import Derived.JoinedTies
import Derived.KernelRfl
namespace Go.Proofs.Ytbbdiphicckpiaa
/- THE CELL 'sum', in the pinned program and in every row, IS THE sha256 OF THE DUMP (.gsa) THAT YtbbdiphicckpiaaProg.lean LOADS. Nothing in Lean hashes anything: it is a label: what it is worth is what the hold of that sum in a sandbox is worth. -/
noncomputable def Try.pinned : Pinned := { name := "ytbbdiphicckpiaa", sum := "5eda695e96dedc8c98ac0c3b676d608641705ed688ff6b8071a11377899300f1", checked := Try.checked }
namespace Rows
def none {H : Type} : Left H := { results := [], args := [] }

/-- 'bootjacklaw7.PressTells': WHATEVER THE INPUT: true; the input reads as it did. -/
def pressTellsSpec : ChangeSpec := { name := "pressTells", fn := fun _ => fun
  | [d1, d2, d3, d4, d5, d6] => { results := [.lit (.bool true)], args := [d1, d2, d3, d4, d5, d6] }
  | _ => none }
def pressTellsRow : OpenClaim := { program := "ytbbdiphicckpiaa", sum := "5eda695e96dedc8c98ac0c3b676d608641705ed688ff6b8071a11377899300f1", func := "bootjack/bootjacklaw7.PressTells", spec := "pressTells", inPlace := ["math/bits.Add64", "math/bits.Sub64"], unfollowed := true, recurses := true, apart := false }
def PressTellsSaid : Prop := pressTellsRow.holds Try.pinned (OpenSpec.ofChange pressTellsSpec)

/-- ITS FALSE NEIGHBOUR: 'it returns false'. Refute it at one input. -/
def pressTellsWrong : ChangeSpec := { name := "pressTells", fn := fun _ => fun
  | [d1, d2, d3, d4, d5, d6] => { results := [.lit (.bool false)], args := [d1, d2, d3, d4, d5, d6] }
  | _ => none }
def PressTellsWrongFalsely : Prop := pressTellsRow.holds Try.pinned (OpenSpec.ofChange pressTellsWrong)

/-- 'bootjacklaw7.PressWords': WHATEVER THE INPUT: true; the input reads as it did. -/
def pressWordsSpec : ChangeSpec := { name := "pressWords", fn := fun _ => fun
  | [d] => { results := [.lit (.bool true)], args := [d] }
  | _ => none }
def pressWordsRow : OpenClaim := { program := "ytbbdiphicckpiaa", sum := "5eda695e96dedc8c98ac0c3b676d608641705ed688ff6b8071a11377899300f1", func := "bootjack/bootjacklaw7.PressWords", spec := "pressWords", apart := false }
def PressWordsSaid : Prop := pressWordsRow.holds Try.pinned (OpenSpec.ofChange pressWordsSpec)

/-- ITS FALSE NEIGHBOUR: 'it returns false'. Refute it at one input. -/
def pressWordsWrong : ChangeSpec := { name := "pressWords", fn := fun _ => fun
  | [d] => { results := [.lit (.bool false)], args := [d] }
  | _ => none }
def PressWordsWrongFalsely : Prop := pressWordsRow.holds Try.pinned (OpenSpec.ofChange pressWordsWrong)

/-- 'bootjacklaw7.PressRotr': WHATEVER THE INPUT: true; the input reads as it did. -/
def pressRotrSpec : ChangeSpec := { name := "pressRotr", fn := fun _ => fun
  | [d1, d2, d3] => { results := [.lit (.bool true)], args := [d1, d2, d3] }
  | _ => none }
def pressRotrRow : OpenClaim := { program := "ytbbdiphicckpiaa", sum := "5eda695e96dedc8c98ac0c3b676d608641705ed688ff6b8071a11377899300f1", func := "bootjack/bootjacklaw7.PressRotr", spec := "pressRotr", apart := false }
def PressRotrSaid : Prop := pressRotrRow.holds Try.pinned (OpenSpec.ofChange pressRotrSpec)

/-- ITS FALSE NEIGHBOUR: 'it returns false'. Refute it at one input. -/
def pressRotrWrong : ChangeSpec := { name := "pressRotr", fn := fun _ => fun
  | [d1, d2, d3] => { results := [.lit (.bool false)], args := [d1, d2, d3] }
  | _ => none }
def PressRotrWrongFalsely : Prop := pressRotrRow.holds Try.pinned (OpenSpec.ofChange pressRotrWrong)

/-- 'bootjacklaw7.PressBits': WHATEVER THE INPUT: true; the input reads as it did. -/
def pressBitsSpec : ChangeSpec := { name := "pressBits", fn := fun _ => fun
  | [d1, d2, d3] => { results := [.lit (.bool true)], args := [d1, d2, d3] }
  | _ => none }
def pressBitsRow : OpenClaim := { program := "ytbbdiphicckpiaa", sum := "5eda695e96dedc8c98ac0c3b676d608641705ed688ff6b8071a11377899300f1", func := "bootjack/bootjacklaw7.PressBits", spec := "pressBits", apart := false }
def PressBitsSaid : Prop := pressBitsRow.holds Try.pinned (OpenSpec.ofChange pressBitsSpec)

/-- ITS FALSE NEIGHBOUR: 'it returns false'. Refute it at one input. -/
def pressBitsWrong : ChangeSpec := { name := "pressBits", fn := fun _ => fun
  | [d1, d2, d3] => { results := [.lit (.bool false)], args := [d1, d2, d3] }
  | _ => none }
def PressBitsWrongFalsely : Prop := pressBitsRow.holds Try.pinned (OpenSpec.ofChange pressBitsWrong)

/-- 'bootjacklaw7.PressSchedule': WHATEVER THE INPUT: true; the input reads as it did. -/
def pressScheduleSpec : ChangeSpec := { name := "pressSchedule", fn := fun _ => fun
  | [d1, d2] => { results := [.lit (.bool true)], args := [d1, d2] }
  | _ => none }
def pressScheduleRow : OpenClaim := { program := "ytbbdiphicckpiaa", sum := "5eda695e96dedc8c98ac0c3b676d608641705ed688ff6b8071a11377899300f1", func := "bootjack/bootjacklaw7.PressSchedule", spec := "pressSchedule", apart := false }
def PressScheduleSaid : Prop := pressScheduleRow.holds Try.pinned (OpenSpec.ofChange pressScheduleSpec)

/-- ITS FALSE NEIGHBOUR: 'it returns false'. Refute it at one input. -/
def pressScheduleWrong : ChangeSpec := { name := "pressSchedule", fn := fun _ => fun
  | [d1, d2] => { results := [.lit (.bool false)], args := [d1, d2] }
  | _ => none }
def PressScheduleWrongFalsely : Prop := pressScheduleRow.holds Try.pinned (OpenSpec.ofChange pressScheduleWrong)

/- THE SECOND FORM. 'bulk': how many values and letters a reading holds, each counted each time it is reached (what is shared counts as often as it is met; a slice's spare places count too). A statement '..UptoSaid' is the law's where the arguments, and the package variables that the reading takes, are together of bulk at most 1048576: NARROWER than '..Said'. Prove '..Said' where nothing that the law and all that it calls make is longer than what came in: it says more and counts as full. Else prove '..UptoSaid'. A law counts once. -/
mutual
def uptoBulk {H : Type} : DataW H → Nat
  | .lit (.string bytes) => bytes.length + 1
  | .lit _ => 1
  | .nil => 1
  | .ptr d => uptoBulk d + 1
  | .slice elems spare => uptoBulkAll elems + uptoBulkAll spare + 1
  | .agg parts => uptoBulkAll parts + 1
  | .iface _ d => uptoBulk d + 1
  | .map entries => uptoBulkEntries entries + 1
  | .held _ => 1
def uptoBulkAll {H : Type} : List (DataW H) → Nat
  | [] => 0
  | d :: r => uptoBulk d + uptoBulkAll r
def uptoBulkEntries {H : Type} : List (Lit × DataW H) → Nat
  | [] => 0
  | x :: r => uptoBulkEntry x + uptoBulkEntries r
def uptoBulkEntry {H : Type} : Lit × DataW H → Nat
  | (.string bytes, d) => bytes.length + uptoBulk d + 1
  | (_, d) => uptoBulk d + 1
 end
def uptoSmall : (H : Type) → List (DataW H) → Bool := fun _ ds => decide (uptoBulkAll ds ≤ 1048576)
def OpenSpec.upto (s : _root_.Go.ChangeSpec) : _root_.Go.OpenSpec := { _root_.Go.OpenSpec.ofChange s with cond := some uptoSmall }

/-- 'bootjacklaw7.PressTells', WHERE WHAT IT READS IS OF BULK AT MOST 1048576: true; the input reads as it did. -/
def pressTellsUptoRow : OpenClaim := { program := "ytbbdiphicckpiaa", sum := "5eda695e96dedc8c98ac0c3b676d608641705ed688ff6b8071a11377899300f1", func := "bootjack/bootjacklaw7.PressTells", spec := "pressTells", inPlace := ["math/bits.Add64", "math/bits.Sub64"], unfollowed := true, recurses := true, apart := false, narrowed := true }
def PressTellsUptoSaid : Prop := pressTellsUptoRow.holds Try.pinned (OpenSpec.upto pressTellsSpec)

/-- 'bootjacklaw7.PressWords', WHERE WHAT IT READS IS OF BULK AT MOST 1048576: true; the input reads as it did. -/
def pressWordsUptoRow : OpenClaim := { program := "ytbbdiphicckpiaa", sum := "5eda695e96dedc8c98ac0c3b676d608641705ed688ff6b8071a11377899300f1", func := "bootjack/bootjacklaw7.PressWords", spec := "pressWords", apart := false, narrowed := true }
def PressWordsUptoSaid : Prop := pressWordsUptoRow.holds Try.pinned (OpenSpec.upto pressWordsSpec)

/-- 'bootjacklaw7.PressRotr', WHERE WHAT IT READS IS OF BULK AT MOST 1048576: true; the input reads as it did. -/
def pressRotrUptoRow : OpenClaim := { program := "ytbbdiphicckpiaa", sum := "5eda695e96dedc8c98ac0c3b676d608641705ed688ff6b8071a11377899300f1", func := "bootjack/bootjacklaw7.PressRotr", spec := "pressRotr", apart := false, narrowed := true }
def PressRotrUptoSaid : Prop := pressRotrUptoRow.holds Try.pinned (OpenSpec.upto pressRotrSpec)

/-- 'bootjacklaw7.PressBits', WHERE WHAT IT READS IS OF BULK AT MOST 1048576: true; the input reads as it did. -/
def pressBitsUptoRow : OpenClaim := { program := "ytbbdiphicckpiaa", sum := "5eda695e96dedc8c98ac0c3b676d608641705ed688ff6b8071a11377899300f1", func := "bootjack/bootjacklaw7.PressBits", spec := "pressBits", apart := false, narrowed := true }
def PressBitsUptoSaid : Prop := pressBitsUptoRow.holds Try.pinned (OpenSpec.upto pressBitsSpec)

/-- 'bootjacklaw7.PressSchedule', WHERE WHAT IT READS IS OF BULK AT MOST 1048576: true; the input reads as it did. -/
def pressScheduleUptoRow : OpenClaim := { program := "ytbbdiphicckpiaa", sum := "5eda695e96dedc8c98ac0c3b676d608641705ed688ff6b8071a11377899300f1", func := "bootjack/bootjacklaw7.PressSchedule", spec := "pressSchedule", apart := false, narrowed := true }
def PressScheduleUptoSaid : Prop := pressScheduleUptoRow.holds Try.pinned (OpenSpec.upto pressScheduleSpec)

end Rows
end Go.Proofs.Ytbbdiphicckpiaa
