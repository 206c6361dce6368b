/-
  No cell of these rows narrows 'for every input' (looked for: loops, veiled, ifaces, maps, wideKeys, modest, calm, conditions, laid).
  DERIVED. THE GIVEN ROWS OF THIS SEAT. 6 by the template 'for every input the law returns true; each argument reads behind the call as it read before'; 0 by the template 'total and deterministic' (their statements: YtkgodlcnoenmbaaGreatTotals.lean).
  GIVEN WITH THE SEED: the statements are not yours to turn. If you find one false, say at which input.
  Laid BY PROGRAM, IN A SANDBOX (cutbox-rows.mjs): the forced cells as the released guide's own fill.sh prints them over the translation 00a50d3823d4782c… (all of the seat's roots in one cut). By AI agents, Wed Nov 11 2026. No macro, syntax, notation, axiom, sorry.
-/
import Derived.Test.YtkgodlcnoenmbaaGreatChecked
import GoSem.Claim
import GoSem.ClaimJoined
import GoSem.ClaimMapViews
import Derived.JoinedTies
import Derived.KernelRfl
namespace Go.Proofs.YtkgodlcnoenmbaaGreat
/- THE CELL 'sum', in the pinned program and in every row, IS THE sha256 OF THE DUMP (.gsa) THAT YtkgodlcnoenmbaaGreatProg.lean LOADS. Nothing in Lean hashes anything: it is a label: what it is worth is what the hold of that sum in a sandbox is worth. -/
noncomputable def Tryz.pinned : Pinned := { name := "ytkgodlcnoenmbaagreat", sum := "00a50d3823d4782cb0929641b5f7d5d24a6606e61db049cbe948abdd8caa03dd", checked := Tryz.checked }
namespace Rows
def none {H : Type} : Left H := { results := [], args := [] }

/-- 'bootjacklaw14.EdTells': WHATEVER THE INPUT: true; the input reads as it did. -/
def edTellsSpec : ChangeSpec := { name := "edTells", fn := fun _ => fun
  | [d1, d2, d3] => { results := [.lit (.bool true)], args := [d1, d2, d3] }
  | _ => none }
def edTellsRow : OpenClaim := { program := "ytkgodlcnoenmbaagreat", sum := "00a50d3823d4782cb0929641b5f7d5d24a6606e61db049cbe948abdd8caa03dd", func := "bootjack/bootjacklaw14.EdTells", spec := "edTells", inPlace := ["math/bits.Add64", "math/bits.Sub64"], unfollowed := true, recurses := true, apart := false }
def EdTellsSaid : Prop := edTellsRow.holds Tryz.pinned (OpenSpec.ofChange edTellsSpec)

/-- ITS FALSE NEIGHBOUR: 'it returns false'. Refute it at one input. -/
def edTellsWrong : ChangeSpec := { name := "edTells", fn := fun _ => fun
  | [d1, d2, d3] => { results := [.lit (.bool false)], args := [d1, d2, d3] }
  | _ => none }
def EdTellsWrongFalsely : Prop := edTellsRow.holds Tryz.pinned (OpenSpec.ofChange edTellsWrong)

/-- 'bootjacklaw14.EdVerifies': WHATEVER THE INPUT: true; the input reads as it did. -/
def edVerifiesSpec : ChangeSpec := { name := "edVerifies", fn := fun _ => fun
  | [d1, d2, d3, d4] => { results := [.lit (.bool true)], args := [d1, d2, d3, d4] }
  | _ => none }
def edVerifiesRow : OpenClaim := { program := "ytkgodlcnoenmbaagreat", sum := "00a50d3823d4782cb0929641b5f7d5d24a6606e61db049cbe948abdd8caa03dd", func := "bootjack/bootjacklaw14.EdVerifies", spec := "edVerifies", inPlace := ["math/bits.Add64", "math/bits.Sub64"], unfollowed := true, recurses := true, apart := false }
def EdVerifiesSaid : Prop := edVerifiesRow.holds Tryz.pinned (OpenSpec.ofChange edVerifiesSpec)

/-- ITS FALSE NEIGHBOUR: 'it returns false'. Refute it at one input. -/
def edVerifiesWrong : ChangeSpec := { name := "edVerifies", fn := fun _ => fun
  | [d1, d2, d3, d4] => { results := [.lit (.bool false)], args := [d1, d2, d3, d4] }
  | _ => none }
def EdVerifiesWrongFalsely : Prop := edVerifiesRow.holds Tryz.pinned (OpenSpec.ofChange edVerifiesWrong)

/-- 'bootjacklaw14.EdBack': WHATEVER THE INPUT: true; the input reads as it did. -/
def edBackSpec : ChangeSpec := { name := "edBack", fn := fun _ => fun
  | [d1, d2, d3] => { results := [.lit (.bool true)], args := [d1, d2, d3] }
  | _ => none }
def edBackRow : OpenClaim := { program := "ytkgodlcnoenmbaagreat", sum := "00a50d3823d4782cb0929641b5f7d5d24a6606e61db049cbe948abdd8caa03dd", func := "bootjack/bootjacklaw14.EdBack", spec := "edBack", inPlace := ["math/bits.Add64", "math/bits.Sub64"], unfollowed := true, recurses := true, apart := false }
def EdBackSaid : Prop := edBackRow.holds Tryz.pinned (OpenSpec.ofChange edBackSpec)

/-- ITS FALSE NEIGHBOUR: 'it returns false'. Refute it at one input. -/
def edBackWrong : ChangeSpec := { name := "edBack", fn := fun _ => fun
  | [d1, d2, d3] => { results := [.lit (.bool false)], args := [d1, d2, d3] }
  | _ => none }
def EdBackWrongFalsely : Prop := edBackRow.holds Tryz.pinned (OpenSpec.ofChange edBackWrong)

/-- 'bootjacklaw14.EdTurns': WHATEVER THE INPUT: true; the input reads as it did. -/
def edTurnsSpec : ChangeSpec := { name := "edTurns", fn := fun _ => fun
  | [d1, d2, d3, d4] => { results := [.lit (.bool true)], args := [d1, d2, d3, d4] }
  | _ => none }
def edTurnsRow : OpenClaim := { program := "ytkgodlcnoenmbaagreat", sum := "00a50d3823d4782cb0929641b5f7d5d24a6606e61db049cbe948abdd8caa03dd", func := "bootjack/bootjacklaw14.EdTurns", spec := "edTurns", inPlace := ["math/bits.Add64", "math/bits.Sub64"], unfollowed := true, recurses := true, apart := false }
def EdTurnsSaid : Prop := edTurnsRow.holds Tryz.pinned (OpenSpec.ofChange edTurnsSpec)

/-- ITS FALSE NEIGHBOUR: 'it returns false'. Refute it at one input. -/
def edTurnsWrong : ChangeSpec := { name := "edTurns", fn := fun _ => fun
  | [d1, d2, d3, d4] => { results := [.lit (.bool false)], args := [d1, d2, d3, d4] }
  | _ => none }
def EdTurnsWrongFalsely : Prop := edTurnsRow.holds Tryz.pinned (OpenSpec.ofChange edTurnsWrong)

/-- 'bootjacklaw14.EdLong': WHATEVER THE INPUT: true; the input reads as it did. -/
def edLongSpec : ChangeSpec := { name := "edLong", fn := fun _ => fun
  | [d1, d2, d3] => { results := [.lit (.bool true)], args := [d1, d2, d3] }
  | _ => none }
def edLongRow : OpenClaim := { program := "ytkgodlcnoenmbaagreat", sum := "00a50d3823d4782cb0929641b5f7d5d24a6606e61db049cbe948abdd8caa03dd", func := "bootjack/bootjacklaw14.EdLong", spec := "edLong", inPlace := ["math/bits.Add64", "math/bits.Sub64"], unfollowed := true, recurses := true, apart := false }
def EdLongSaid : Prop := edLongRow.holds Tryz.pinned (OpenSpec.ofChange edLongSpec)

/-- ITS FALSE NEIGHBOUR: 'it returns false'. Refute it at one input. -/
def edLongWrong : ChangeSpec := { name := "edLong", fn := fun _ => fun
  | [d1, d2, d3] => { results := [.lit (.bool false)], args := [d1, d2, d3] }
  | _ => none }
def EdLongWrongFalsely : Prop := edLongRow.holds Tryz.pinned (OpenSpec.ofChange edLongWrong)

/-- 'bootjacklaw14.EdKnown': WHATEVER THE INPUT: true; the input reads as it did. -/
def edKnownSpec : ChangeSpec := { name := "edKnown", fn := fun _ => fun
  | [d] => { results := [.lit (.bool true)], args := [d] }
  | _ => none }
def edKnownRow : OpenClaim := { program := "ytkgodlcnoenmbaagreat", sum := "00a50d3823d4782cb0929641b5f7d5d24a6606e61db049cbe948abdd8caa03dd", func := "bootjack/bootjacklaw14.EdKnown", spec := "edKnown", inPlace := ["math/bits.Add64", "math/bits.Sub64"], unfollowed := true, recurses := true, apart := false }
def EdKnownSaid : Prop := edKnownRow.holds Tryz.pinned (OpenSpec.ofChange edKnownSpec)

/-- ITS FALSE NEIGHBOUR: 'it returns false'. Refute it at one input. -/
def edKnownWrong : ChangeSpec := { name := "edKnown", fn := fun _ => fun
  | [d] => { results := [.lit (.bool false)], args := [d] }
  | _ => none }
def EdKnownWrongFalsely : Prop := edKnownRow.holds Tryz.pinned (OpenSpec.ofChange edKnownWrong)

/- THE SECOND FORM. 'bulk': how many values and letters a reading holds, each counted each time it is reached (what is shared counts as often as it is met; a slice's spare places count too). A statement '..UptoSaid' is the law's where the arguments, and the package variables that the reading takes, are together of bulk at most 1048576: NARROWER than '..Said'. Prove '..Said' where nothing that the law and all that it calls make is longer than what came in: it says more and counts as full. Else prove '..UptoSaid'. A law counts once. -/
mutual
def uptoBulk {H : Type} : DataW H → Nat
  | .lit (.string bytes) => bytes.length + 1
  | .lit _ => 1
  | .nil => 1
  | .ptr d => uptoBulk d + 1
  | .slice elems spare => uptoBulkAll elems + uptoBulkAll spare + 1
  | .agg parts => uptoBulkAll parts + 1
  | .iface _ d => uptoBulk d + 1
  | .map entries => uptoBulkEntries entries + 1
  | .held _ => 1
def uptoBulkAll {H : Type} : List (DataW H) → Nat
  | [] => 0
  | d :: r => uptoBulk d + uptoBulkAll r
def uptoBulkEntries {H : Type} : List (Lit × DataW H) → Nat
  | [] => 0
  | x :: r => uptoBulkEntry x + uptoBulkEntries r
def uptoBulkEntry {H : Type} : Lit × DataW H → Nat
  | (.string bytes, d) => bytes.length + uptoBulk d + 1
  | (_, d) => uptoBulk d + 1
 end
def uptoSmall : (H : Type) → List (DataW H) → Bool := fun _ ds => decide (uptoBulkAll ds ≤ 1048576)
def OpenSpec.upto (s : _root_.Go.ChangeSpec) : _root_.Go.OpenSpec := { _root_.Go.OpenSpec.ofChange s with cond := some uptoSmall }

/-- 'bootjacklaw14.EdTells', WHERE WHAT IT READS IS OF BULK AT MOST 1048576: true; the input reads as it did. -/
def edTellsUptoRow : OpenClaim := { program := "ytkgodlcnoenmbaagreat", sum := "00a50d3823d4782cb0929641b5f7d5d24a6606e61db049cbe948abdd8caa03dd", func := "bootjack/bootjacklaw14.EdTells", spec := "edTells", inPlace := ["math/bits.Add64", "math/bits.Sub64"], unfollowed := true, recurses := true, apart := false, narrowed := true }
def EdTellsUptoSaid : Prop := edTellsUptoRow.holds Tryz.pinned (OpenSpec.upto edTellsSpec)

/-- 'bootjacklaw14.EdVerifies', WHERE WHAT IT READS IS OF BULK AT MOST 1048576: true; the input reads as it did. -/
def edVerifiesUptoRow : OpenClaim := { program := "ytkgodlcnoenmbaagreat", sum := "00a50d3823d4782cb0929641b5f7d5d24a6606e61db049cbe948abdd8caa03dd", func := "bootjack/bootjacklaw14.EdVerifies", spec := "edVerifies", inPlace := ["math/bits.Add64", "math/bits.Sub64"], unfollowed := true, recurses := true, apart := false, narrowed := true }
def EdVerifiesUptoSaid : Prop := edVerifiesUptoRow.holds Tryz.pinned (OpenSpec.upto edVerifiesSpec)

/-- 'bootjacklaw14.EdBack', WHERE WHAT IT READS IS OF BULK AT MOST 1048576: true; the input reads as it did. -/
def edBackUptoRow : OpenClaim := { program := "ytkgodlcnoenmbaagreat", sum := "00a50d3823d4782cb0929641b5f7d5d24a6606e61db049cbe948abdd8caa03dd", func := "bootjack/bootjacklaw14.EdBack", spec := "edBack", inPlace := ["math/bits.Add64", "math/bits.Sub64"], unfollowed := true, recurses := true, apart := false, narrowed := true }
def EdBackUptoSaid : Prop := edBackUptoRow.holds Tryz.pinned (OpenSpec.upto edBackSpec)

/-- 'bootjacklaw14.EdTurns', WHERE WHAT IT READS IS OF BULK AT MOST 1048576: true; the input reads as it did. -/
def edTurnsUptoRow : OpenClaim := { program := "ytkgodlcnoenmbaagreat", sum := "00a50d3823d4782cb0929641b5f7d5d24a6606e61db049cbe948abdd8caa03dd", func := "bootjack/bootjacklaw14.EdTurns", spec := "edTurns", inPlace := ["math/bits.Add64", "math/bits.Sub64"], unfollowed := true, recurses := true, apart := false, narrowed := true }
def EdTurnsUptoSaid : Prop := edTurnsUptoRow.holds Tryz.pinned (OpenSpec.upto edTurnsSpec)

/-- 'bootjacklaw14.EdLong', WHERE WHAT IT READS IS OF BULK AT MOST 1048576: true; the input reads as it did. -/
def edLongUptoRow : OpenClaim := { program := "ytkgodlcnoenmbaagreat", sum := "00a50d3823d4782cb0929641b5f7d5d24a6606e61db049cbe948abdd8caa03dd", func := "bootjack/bootjacklaw14.EdLong", spec := "edLong", inPlace := ["math/bits.Add64", "math/bits.Sub64"], unfollowed := true, recurses := true, apart := false, narrowed := true }
def EdLongUptoSaid : Prop := edLongUptoRow.holds Tryz.pinned (OpenSpec.upto edLongSpec)

/-- 'bootjacklaw14.EdKnown', WHERE WHAT IT READS IS OF BULK AT MOST 1048576: true; the input reads as it did. -/
def edKnownUptoRow : OpenClaim := { program := "ytkgodlcnoenmbaagreat", sum := "00a50d3823d4782cb0929641b5f7d5d24a6606e61db049cbe948abdd8caa03dd", func := "bootjack/bootjacklaw14.EdKnown", spec := "edKnown", inPlace := ["math/bits.Add64", "math/bits.Sub64"], unfollowed := true, recurses := true, apart := false, narrowed := true }
def EdKnownUptoSaid : Prop := edKnownUptoRow.holds Tryz.pinned (OpenSpec.upto edKnownSpec)

end Rows
end Go.Proofs.YtkgodlcnoenmbaaGreat
