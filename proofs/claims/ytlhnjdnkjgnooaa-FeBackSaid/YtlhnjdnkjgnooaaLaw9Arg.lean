/- Layer 9's laws with their arguments as the frame tells them. -/
import Derived.Test.YtlhnjdnkjgnooaaLaw9Tells
import Derived.Test.YtlhnjdnkjgnooaaLaw9Ring
import Derived.Test.YtlhnjdnkjgnooaaLaw9Neg
import Derived.Test.YtlhnjdnkjgnooaaLaw9Back
import Derived.Test.YtlhnjdnkjgnooaaLaw9Edges
import Derived.Test.YtlhnjdnkjgnooaaLaw9Runs
import Derived.Test.YtlhnjdnkjgnooaaByteArg
namespace Go.Proofs.Ytlhnjdnkjgnooaa
open Go.RowKit
set_option linter.unusedVariables false
set_option maxRecDepth 100000

theorem law9TellsI {R : Array Value → Nat → Prop} (C : FeC R) (a b : List UInt8) (ha : a.length = 32) (hb : b.length = 32) (n : Int) (w : World) (hn : (Lit.int .u64 n).wf = true) :
    Calls Try.prog 3 #[.agg (arrB a), .agg (arrB b), .int .u64 n] w fun e w' => e = .returned (.bool true) ∧ Below w.heap.size w w' := by
  have h : 0 ≤ n ∧ n < 18446744073709551616 := by
    simp [Lit.wf, IntKind.min, IntKind.max, IntKind.signed, IntKind.bits] at hn
    omega
  obtain ⟨m, rfl⟩ : ∃ m : Nat, n = (m : Int) := ⟨n.toNat, by omega⟩
  exact law9Tells C a ha b hb m (by omega) w
end Go.Proofs.Ytlhnjdnkjgnooaa

