/- Layer 16's laws, and what the frames open. -/
import Derived.Test.YtlbkpmcccipfhaaLaw16Plays
import Derived.Test.YtlbkpmcccipfhaaLaw16Bits
import Derived.Test.YtlbkpmcccipfhaaLaw16Tree
import Derived.Test.YtlbkpmcccipfhaaLaw16Order
import Derived.Test.YtlbkpmcccipfhaaAct3Arg
import Derived.Test.YtlbkpmcccipfhaaRowsArg
namespace Go.Proofs.Ytlbkpmcccipfhaa
open Go.RowKit Go.ChangeShapes Go.WideShapes Go.Deep
set_option linter.unusedVariables false
set_option maxRecDepth 100000

/-- as bools_of, with the room told -/
theorem bools16_of {H : Type} {enc : TypeId × Value → H} {W : World} {base : Nat} {held : Bool} {fuel : Nat} {a : Option Addr} {len cap : Nat} {x : DataW H × List MemPlace}
    (h : DataW.trod enc Try.prog W base (fun _ => true) held fuel 45 [.slice a len cap] = some x) : ∃ L : List Bool, L.length = len ∧ BoolRow W a L ∧ len ≤ cap := by
  have hc : len ≤ cap := by
    rcases open_bools Try.underlying45 Try.underlying4 (by kernel_rfl) h with ⟨hcs, _⟩ | ⟨x, l, c, B, hcs, _, hl, hm, _, hcell⟩
    · injection hcs with hcs
      injection hcs with e1 e2 e3
      omega
    · injection hcs with hcs
      injection hcs with e1 e2 e3
      omega
  obtain ⟨L, h1, h2, -⟩ := bools_of h
  exact ⟨L, h1, h2, hc⟩
end Go.Proofs.Ytlbkpmcccipfhaa

