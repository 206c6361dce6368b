/- The contract of bootjackref1.picked. -/
import Derived.Test.YtlnpfndjdilfhaaWords
namespace Go.Proofs.Ytlnpfndjdilfhaa
open Go.RowKit
set_option linter.unusedVariables false

theorem picked_any (A : Option Addr) (p : List UInt8) (c : Nat) (k : Nat) (w : World) (h : Bs w A p) (hp : p.length ≤ 2147483648) (hk : k ≤ 2147483648) :
    Calls Try.prog 54 #[.slice A p.length c, .int .i64 (k : Int)] w fun e w' => e = .returned (.int .u8 ((p.getD k 0).toNat : Int)) ∧ w' = w := by
  by_cases hlt : k < p.length
  · obtain ⟨b, o, rfl, hc⟩ := h.at_ hlt
    generalize p.getD k 0 = x at *
    go_enter Try.func54, Try.ntmps54
    go_wp2
    go_ret
    exact ⟨rfl, rfl⟩
  · have hz : p.getD k 0 = 0 := getD_over p k (by omega)
    rw [hz]
    clear hz
    go_enter Try.func54, Try.ntmps54
    go_wp2
    go_ret
    exact ⟨rfl, rfl⟩
end Go.Proofs.Ytlnpfndjdilfhaa
