/- The contract of bootjackref1.bit. -/
import Derived.Test.YtlnpfndjdilfhaaWords
import Derived.Test.YtlnpfndjdilfhaaBits
namespace Go.Proofs.Ytlnpfndjdilfhaa
open Go.RowKit
set_option linter.unusedVariables false

set_option maxHeartbeats 400000 in
theorem bit_any (x : UInt8) (k : Nat) (hk : k < 8) (w : World) :
    Calls Try.prog 53 #[.int .u8 (x.toNat : Int), .int .i64 (k : Int)] w fun e w' => e = .returned (.int .i64 (bitI x k)) ∧ w' = w := by
  rw [bitI_eq]
  have hx := x.toNat_lt
  go_enter Try.func53, Try.ntmps53
  go_wp2
  go_ret
  exact ⟨by
    show Ending.returned (Value.int .i64 (bits .and .i64 (wrap64 ((x.toNat : Int) / 2 ^ k)) 1)) = _
    rw [bit_and hx], rfl⟩

theorem bit_is (x : UInt8) (k : Nat) (hk : k < 8) (b : Int) (hb : Hid (bitI x k = b)) (w : World) :
    Calls Try.prog 53 #[.int .u8 (x.toNat : Int), .int .i64 (k : Int)] w fun e w' => e = .returned (.int .i64 b) ∧ w = w' :=
  (bit_any x k hk w).mono fun e w' ⟨he, hw⟩ => ⟨by rw [he, hb.out], hw.symm⟩
end Go.Proofs.Ytlnpfndjdilfhaa
