/- The walks of layer 10, as the frames call them. -/
import Derived.Test.YtjekeblcppkghaaLaw10Tell
import Derived.Test.YtjekeblcppkghaaLaw10Invert
import Derived.Test.YtjekeblcppkghaaLaw10Sqrt
import Derived.Test.YtjekeblcppkghaaLaw10Ratio
import Derived.Test.YtjekeblcppkghaaLaw10Sums
import Derived.Test.YtjekeblcppkghaaGbyt
namespace Go.Proofs.Ytjekeblcppkghaa
open Go.RowKit
set_option linter.unusedVariables false
set_option maxRecDepth 100000

theorem law10SumsI {R : Array Value → Nat → Prop} (C : Fe10C R) (D : PowC R) {a : List UInt8} (ha : a.length = 32) {m n : Int} (hm : (Lit.int .u32 m).wf = true) (hn : (Lit.int .u32 n).wf = true) (w : World) : Calls Try.prog 6 #[.agg (arrB a), .int .u32 m, .int .u32 n] w fun e w' => e = .returned (.bool true) ∧ Below w.heap.size w w' := by
  have h1 : 0 ≤ m ∧ m < 4294967296 := by
    simp [Lit.wf, IntKind.min, IntKind.max, IntKind.signed, IntKind.bits] at hm
    omega
  have h2 : 0 ≤ n ∧ n < 4294967296 := by
    simp [Lit.wf, IntKind.min, IntKind.max, IntKind.signed, IntKind.bits] at hn
    omega
  obtain ⟨m, rfl⟩ : ∃ k : Nat, m = (k : Int) := ⟨m.toNat, by omega⟩
  obtain ⟨n, rfl⟩ : ∃ k : Nat, n = (k : Int) := ⟨n.toNat, by omega⟩
  exact law10Sums C D a ha m n (by omega) (by omega) w
end Go.Proofs.Ytjekeblcppkghaa

