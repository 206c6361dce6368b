/-
  No cell of these rows narrows 'for every input' (looked for: loops, veiled, ifaces, maps, wideKeys, modest, calm, conditions, laid).
  DERIVED. THE GIVEN ROWS OF THIS SEAT. 4 by the template 'for every input the law returns true; each argument reads behind the call as it read before'; 0 by the template 'total and deterministic' (their statements: YtlnpfndjdilfhaaTotals.lean).
  GIVEN WITH THE SEED: the statements are not yours to turn. If you find one false, say at which input.
  Laid BY PROGRAM, IN A SANDBOX (cutbox-rows.mjs): the forced cells as the released guide's own fill.sh prints them over the translation 7c0c5cf02859f622… (all of the seat's roots in one cut). By AI agents, Wed Nov 11 2026. No macro, syntax, notation, axiom, sorry.
-/
import Derived.Test.YtlnpfndjdilfhaaChecked
import GoSem.Claim
import GoSem.ClaimJoined
import GoSem.ClaimMapViews
import Derived.JoinedTies
import Derived.KernelRfl
namespace Go.Proofs.Ytlnpfndjdilfhaa
/- THE CELL 'sum', in the pinned program and in every row, IS THE sha256 OF THE DUMP (.gsa) THAT YtlnpfndjdilfhaaProg.lean LOADS. Nothing in Lean hashes anything: it is a label: what it is worth is what the hold of that sum in a sandbox is worth. -/
noncomputable def Try.pinned : Pinned := { name := "ytlnpfndjdilfhaa", sum := "7c0c5cf02859f6228fa44b3dc440a5f19576fa21a207ef8417f2d2f21de418f2", checked := Try.checked }
namespace Rows
def none {H : Type} : Left H := { results := [], args := [] }

/-- 'bootjacklaw2.FlashPlays': WHATEVER THE INPUT: true; the input reads as it did. -/
def flashPlaysSpec : ChangeSpec := { name := "flashPlays", fn := fun _ => fun
  | [d1, d2] => { results := [.lit (.bool true)], args := [d1, d2] }
  | _ => none }
def flashPlaysRow : OpenClaim := { program := "ytlnpfndjdilfhaa", sum := "7c0c5cf02859f6228fa44b3dc440a5f19576fa21a207ef8417f2d2f21de418f2", func := "bootjack/bootjacklaw2.FlashPlays", spec := "flashPlays", apart := false }
def FlashPlaysSaid : Prop := flashPlaysRow.holds Try.pinned (OpenSpec.ofChange flashPlaysSpec)

/-- ITS FALSE NEIGHBOUR: 'it returns false'. Refute it at one input. -/
def flashPlaysWrong : ChangeSpec := { name := "flashPlays", fn := fun _ => fun
  | [d1, d2] => { results := [.lit (.bool false)], args := [d1, d2] }
  | _ => none }
def FlashPlaysWrongFalsely : Prop := flashPlaysRow.holds Try.pinned (OpenSpec.ofChange flashPlaysWrong)

/-- 'bootjacklaw2.FlashErases': WHATEVER THE INPUT: true; the input reads as it did. -/
def flashErasesSpec : ChangeSpec := { name := "flashErases", fn := fun _ => fun
  | [d1, d2, d3, d4] => { results := [.lit (.bool true)], args := [d1, d2, d3, d4] }
  | _ => none }
def flashErasesRow : OpenClaim := { program := "ytlnpfndjdilfhaa", sum := "7c0c5cf02859f6228fa44b3dc440a5f19576fa21a207ef8417f2d2f21de418f2", func := "bootjack/bootjacklaw2.FlashErases", spec := "flashErases", apart := false }
def FlashErasesSaid : Prop := flashErasesRow.holds Try.pinned (OpenSpec.ofChange flashErasesSpec)

/-- ITS FALSE NEIGHBOUR: 'it returns false'. Refute it at one input. -/
def flashErasesWrong : ChangeSpec := { name := "flashErases", fn := fun _ => fun
  | [d1, d2, d3, d4] => { results := [.lit (.bool false)], args := [d1, d2, d3, d4] }
  | _ => none }
def FlashErasesWrongFalsely : Prop := flashErasesRow.holds Try.pinned (OpenSpec.ofChange flashErasesWrong)

/-- 'bootjacklaw2.FlashRefuses': WHATEVER THE INPUT: true; the input reads as it did. -/
def flashRefusesSpec : ChangeSpec := { name := "flashRefuses", fn := fun _ => fun
  | [d1, d2, d3, d4] => { results := [.lit (.bool true)], args := [d1, d2, d3, d4] }
  | _ => none }
def flashRefusesRow : OpenClaim := { program := "ytlnpfndjdilfhaa", sum := "7c0c5cf02859f6228fa44b3dc440a5f19576fa21a207ef8417f2d2f21de418f2", func := "bootjack/bootjacklaw2.FlashRefuses", spec := "flashRefuses", apart := false }
def FlashRefusesSaid : Prop := flashRefusesRow.holds Try.pinned (OpenSpec.ofChange flashRefusesSpec)

/-- ITS FALSE NEIGHBOUR: 'it returns false'. Refute it at one input. -/
def flashRefusesWrong : ChangeSpec := { name := "flashRefuses", fn := fun _ => fun
  | [d1, d2, d3, d4] => { results := [.lit (.bool false)], args := [d1, d2, d3, d4] }
  | _ => none }
def FlashRefusesWrongFalsely : Prop := flashRefusesRow.holds Try.pinned (OpenSpec.ofChange flashRefusesWrong)

/-- 'bootjacklaw2.FlashBoots': WHATEVER THE INPUT: true; the input reads as it did. -/
def flashBootsSpec : ChangeSpec := { name := "flashBoots", fn := fun _ => fun
  | [d1, d2] => { results := [.lit (.bool true)], args := [d1, d2] }
  | _ => none }
def flashBootsRow : OpenClaim := { program := "ytlnpfndjdilfhaa", sum := "7c0c5cf02859f6228fa44b3dc440a5f19576fa21a207ef8417f2d2f21de418f2", func := "bootjack/bootjacklaw2.FlashBoots", spec := "flashBoots", apart := false }
def FlashBootsSaid : Prop := flashBootsRow.holds Try.pinned (OpenSpec.ofChange flashBootsSpec)

/-- ITS FALSE NEIGHBOUR: 'it returns false'. Refute it at one input. -/
def flashBootsWrong : ChangeSpec := { name := "flashBoots", fn := fun _ => fun
  | [d1, d2] => { results := [.lit (.bool false)], args := [d1, d2] }
  | _ => none }
def FlashBootsWrongFalsely : Prop := flashBootsRow.holds Try.pinned (OpenSpec.ofChange flashBootsWrong)

/- THE SECOND FORM. 'bulk': how many values and letters a reading holds, each counted each time it is reached (what is shared counts as often as it is met; a slice's spare places count too). A statement '..UptoSaid' is the law's where the arguments, and the package variables that the reading takes, are together of bulk at most 1048576: NARROWER than '..Said'. Prove '..Said' where nothing that the law and all that it calls make is longer than what came in: it says more and counts as full. Else prove '..UptoSaid'. A law counts once. -/
mutual
def uptoBulk {H : Type} : DataW H → Nat
  | .lit (.string bytes) => bytes.length + 1
  | .lit _ => 1
  | .nil => 1
  | .ptr d => uptoBulk d + 1
  | .slice elems spare => uptoBulkAll elems + uptoBulkAll spare + 1
  | .agg parts => uptoBulkAll parts + 1
  | .iface _ d => uptoBulk d + 1
  | .map entries => uptoBulkEntries entries + 1
  | .held _ => 1
def uptoBulkAll {H : Type} : List (DataW H) → Nat
  | [] => 0
  | d :: r => uptoBulk d + uptoBulkAll r
def uptoBulkEntries {H : Type} : List (Lit × DataW H) → Nat
  | [] => 0
  | x :: r => uptoBulkEntry x + uptoBulkEntries r
def uptoBulkEntry {H : Type} : Lit × DataW H → Nat
  | (.string bytes, d) => bytes.length + uptoBulk d + 1
  | (_, d) => uptoBulk d + 1
 end
def uptoSmall : (H : Type) → List (DataW H) → Bool := fun _ ds => decide (uptoBulkAll ds ≤ 1048576)
def OpenSpec.upto (s : _root_.Go.ChangeSpec) : _root_.Go.OpenSpec := { _root_.Go.OpenSpec.ofChange s with cond := some uptoSmall }

/-- 'bootjacklaw2.FlashPlays', WHERE WHAT IT READS IS OF BULK AT MOST 1048576: true; the input reads as it did. -/
def flashPlaysUptoRow : OpenClaim := { program := "ytlnpfndjdilfhaa", sum := "7c0c5cf02859f6228fa44b3dc440a5f19576fa21a207ef8417f2d2f21de418f2", func := "bootjack/bootjacklaw2.FlashPlays", spec := "flashPlays", apart := false, narrowed := true }
def FlashPlaysUptoSaid : Prop := flashPlaysUptoRow.holds Try.pinned (OpenSpec.upto flashPlaysSpec)

/-- 'bootjacklaw2.FlashErases', WHERE WHAT IT READS IS OF BULK AT MOST 1048576: true; the input reads as it did. -/
def flashErasesUptoRow : OpenClaim := { program := "ytlnpfndjdilfhaa", sum := "7c0c5cf02859f6228fa44b3dc440a5f19576fa21a207ef8417f2d2f21de418f2", func := "bootjack/bootjacklaw2.FlashErases", spec := "flashErases", apart := false, narrowed := true }
def FlashErasesUptoSaid : Prop := flashErasesUptoRow.holds Try.pinned (OpenSpec.upto flashErasesSpec)

/-- 'bootjacklaw2.FlashRefuses', WHERE WHAT IT READS IS OF BULK AT MOST 1048576: true; the input reads as it did. -/
def flashRefusesUptoRow : OpenClaim := { program := "ytlnpfndjdilfhaa", sum := "7c0c5cf02859f6228fa44b3dc440a5f19576fa21a207ef8417f2d2f21de418f2", func := "bootjack/bootjacklaw2.FlashRefuses", spec := "flashRefuses", apart := false, narrowed := true }
def FlashRefusesUptoSaid : Prop := flashRefusesUptoRow.holds Try.pinned (OpenSpec.upto flashRefusesSpec)

/-- 'bootjacklaw2.FlashBoots', WHERE WHAT IT READS IS OF BULK AT MOST 1048576: true; the input reads as it did. -/
def flashBootsUptoRow : OpenClaim := { program := "ytlnpfndjdilfhaa", sum := "7c0c5cf02859f6228fa44b3dc440a5f19576fa21a207ef8417f2d2f21de418f2", func := "bootjack/bootjacklaw2.FlashBoots", spec := "flashBoots", apart := false, narrowed := true }
def FlashBootsUptoSaid : Prop := flashBootsUptoRow.holds Try.pinned (OpenSpec.upto flashBootsSpec)

end Rows
end Go.Proofs.Ytlnpfndjdilfhaa
