/- The contracts of bootjackref1.Cap, bit, picked. -/
import Derived.Test.YtlbododoooibbaaMask
import Derived.Test.YtlbododoooibbaaAlive
namespace Go.Proofs.Ytlbododoooibbaa
open Go.RowKit
set_option linter.unusedVariables false

theorem quiet_at {P : Program} {f : FuncId} {args : Array Value} {w : World} {a n : Nat} {v : Value}
    (h : ∀ W : World, Calls P f args W fun e w' => e = .returned v ∧ w' = W) :
    Calls P f args (w.drewN (a + n)) fun e w'' => e = .returned v ∧ ∃ m, w'' = w.drewN (a + m) :=
  (h _).mono fun _ _ ⟨he, hm⟩ => ⟨he, n, hm⟩

/-- a byte's bit, as a number -/
def bitI (x : UInt8) (k : Nat) : Int := if x.toBitVec.getLsbD k then 1 else 0

theorem bitI_eq (x : UInt8) (k : Nat) : bitI x k = ((x.toNat / 2 ^ k % 2 : Nat) : Int) := by
  unfold bitI
  rw [BitVec.getLsbD, Nat.testBit_eq_decide_div_mod_eq]
  have : x.toBitVec.toNat = x.toNat := rfl
  rw [this]
  have h2 := Nat.mod_lt (x.toNat / 2 ^ k) (show 2 > 0 by omega)
  by_cases h : x.toNat / 2 ^ k % 2 = 1
  · simp [h]
  · have : x.toNat / 2 ^ k % 2 = 0 := by omega
    simp [this]

theorem i64_and1 (n : Nat) (h : n < 256) : bits .and .i64 (n : Int) 1 = ((n % 2 : Nat) : Int) := by
  have := (bits_nat .i64 63 (by decide) (fun m h0 h1 => by rw [IntKind.wrap_i64]; omega) n 1 (by omega) (by decide)).1
  rw [Nat.and_one_is_mod] at this
  exact this
theorem bit_and {n k : Nat} (h : n < 2 ^ 8) : bits .and .i64 (wrap64 ((n : Int) / 2 ^ k)) 1 = ((n / 2 ^ k % 2 : Nat) : Int) := by
  have hd : n / 2 ^ k ≤ n := Nat.div_le_self _ _
  have e : (n : Int) / 2 ^ k = ((n / 2 ^ k : Nat) : Int) := by simp
  rw [e]
  have e2 : wrap64 ((n / 2 ^ k : Nat) : Int) = ((n / 2 ^ k : Nat) : Int) := by
    generalize n / 2 ^ k = q at *
    unfold wrap64
    omega
  rw [e2, i64_and1 _ (by omega)]

set_option maxHeartbeats 400000 in
theorem bit_any (x : UInt8) (k : Nat) (hk : k < 8) (w : World) :
    Calls Try.prog 27 #[.int .u8 (x.toNat : Int), .int .i64 (k : Int)] w fun e w' => e = .returned (.int .i64 (bitI x k)) ∧ w' = w := by
  rw [bitI_eq]
  have hx := x.toNat_lt
  go_enter Try.func27, Try.ntmps27
  go_wp2
  go_ret
  exact ⟨by
    show Ending.returned (Value.int .i64 (bits .and .i64 (wrap64 ((x.toNat : Int) / 2 ^ k)) 1)) = _
    rw [bit_and hx], rfl⟩

theorem cap_any (n a b : Int) (w : World) : Calls Try.prog 26 #[.int .i64 n, .int .i64 a, .int .i64 b] w fun e w' => e = .returned (.int .i64 (if n < a then a else if b < n then b else n)) ∧ w' = w := by
  by_cases h1 : n < a
  · rw [if_pos h1]
    go_enter Try.func26, Try.ntmps26
    go_wp2
    go_ret
    exact ⟨rfl, rfl⟩
  · rw [if_neg h1]
    by_cases h2 : b < n
    · rw [if_pos h2]
      go_enter Try.func26, Try.ntmps26
      go_wp2
      go_ret
      exact ⟨rfl, rfl⟩
    · rw [if_neg h2]
      go_enter Try.func26, Try.ntmps26
      go_wp2
      go_ret
      exact ⟨rfl, rfl⟩

theorem picked_any (A : Option Addr) (p : List UInt8) (c : Nat) (k : Nat) (w : World) (h : Bs w A p) (hp : p.length ≤ 2147483648) (hk : k ≤ 2147483648) :
    Calls Try.prog 29 #[.slice A p.length c, .int .i64 (k : Int)] w fun e w' => e = .returned (.int .u8 ((p.getD k 0).toNat : Int)) ∧ w' = w := by
  by_cases hlt : k < p.length
  · obtain ⟨b, o, rfl, hc⟩ := h.at_ hlt
    generalize p.getD k 0 = x at *
    go_enter Try.func29, Try.ntmps29
    go_wp2
    go_ret
    exact ⟨rfl, rfl⟩
  · have hz : p.getD k 0 = 0 := getD_over p k (by omega)
    rw [hz]
    clear hz
    go_enter Try.func29, Try.ntmps29
    go_wp2
    go_ret
    exact ⟨rfl, rfl⟩
end Go.Proofs.Ytlbododoooibbaa
