/- The developers' field elements: five limbs of 51 bits and a little more. -/
import Derived.Test.YtlhnjdnkjgnooaaFe51
import Derived.Test.YtlhnjdnkjgnooaaLaw9Spec
import Derived.Test.YtlhnjdnkjgnooaaHeldAlloc
import Derived.Test.YtlhnjdnkjgnooaaGroo1
import Derived.Deep.QuietTactic
import Derived.BigQuiet
import Derived.Laws.BitsAllLaws
namespace Go.Proofs.Ytlhnjdnkjgnooaa
open Go.RowKit
set_option linter.unusedVariables false
set_option maxRecDepth 100000

/-- five limbs -/
def limb5 (a b c d e : Nat) : Array Value := #[.int .u64 (a : Int), .int .u64 (b : Int), .int .u64 (c : Int), .int .u64 (d : Int), .int .u64 (e : Int)]
/-- the cells stand for the number x -/
def feR (cs : Array Value) (x : Nat) : Prop := ∃ a b c d e : Nat, cs = limb5 a b c d e ∧ a < L51 ∧ b < L51 ∧ c < L51 ∧ d < L51 ∧ e < L51 ∧ val5 a b c d e % PP = x
/-- a sum of products in two words -/
def wide2 (v : Nat) : Array Value := #[.int .u64 ((v / 18446744073709551616 : Nat) : Int), .int .u64 ((v % 18446744073709551616 : Nat) : Int)]
theorem and51 (n : Nat) (h : n < 18446744073709551616) : bits .and .u64 (n : Int) 2251799813685247 = ((n % 2251799813685248 : Nat) : Int) := by
  have h := u64_and_nat n 2251799813685247 h (by omega)
  rw [show (2251799813685247 : Nat) = 2 ^ 51 - 1 by decide, Nat.and_two_pow_sub_one_eq_mod] at h
  exact h
theorem limb5_info (a b c d e : Nat) : (Try.prog.info? 26).map (·.size) = some (limb5 a b c d e).size := by kernel_rfl
theorem limb5_one (a b c d e : Nat) : (limb5 a b c d e).all (·.oneCell') = true := by simp [limb5, Value.oneCell']

set_option maxHeartbeats 1600000 in
theorem carried_any (l0 l1 l2 l3 l4 : Nat) (h0 : l0 < 18446744073709551616) (h1 : l1 < 18446744073709551616) (h2 : l2 < 18446744073709551616) (h3 : l3 < 18446744073709551616) (h4 : l4 < 18446744073709551616) (W : World) :
    Calls Try.prog 33 #[.int .u64 (l0 : Int), .int .u64 (l1 : Int), .int .u64 (l2 : Int), .int .u64 (l3 : Int), .int .u64 (l4 : Int)] W
      (RetV W (.agg (limb5 (l0 % M51 + 19 * (l4 / M51)) (l1 % M51 + l0 / M51) (l2 % M51 + l1 / M51) (l3 % M51 + l2 / M51) (l4 % M51 + l3 / M51)))) := by
  have a0 := and51 l0 h0
  have a1 := and51 l1 h1
  have a2 := and51 l2 h2
  have a3 := and51 l3 h3
  have a4 := and51 l4 h4
  have d0 : (l0 : Int) / 2251799813685248 = ((l0 / 2251799813685248 : Nat) : Int) := by omega
  have d1 : (l1 : Int) / 2251799813685248 = ((l1 / 2251799813685248 : Nat) : Int) := by omega
  have d2 : (l2 : Int) / 2251799813685248 = ((l2 / 2251799813685248 : Nat) : Int) := by omega
  have d3 : (l3 : Int) / 2251799813685248 = ((l3 / 2251799813685248 : Nat) : Int) := by omega
  have d4 : (l4 : Int) / 2251799813685248 = ((l4 / 2251799813685248 : Nat) : Int) := by omega
  have q4 : l4 / 2251799813685248 < 8192 := by omega
  have q3 : l3 / 2251799813685248 < 8192 := by omega
  have q2 : l2 / 2251799813685248 < 8192 := by omega
  have q1 : l1 / 2251799813685248 < 8192 := by omega
  have q0 : l0 / 2251799813685248 < 8192 := by omega
  have r4 : l4 % 2251799813685248 < 2251799813685248 := by omega
  have r3 : l3 % 2251799813685248 < 2251799813685248 := by omega
  have r2 : l2 % 2251799813685248 < 2251799813685248 := by omega
  have r1 : l1 % 2251799813685248 < 2251799813685248 := by omega
  have r0 : l0 % 2251799813685248 < 2251799813685248 := by omega
  unfold M51
  generalize l0 / 2251799813685248 = u0 at *
  generalize l1 / 2251799813685248 = u1 at *
  generalize l2 / 2251799813685248 = u2 at *
  generalize l3 / 2251799813685248 = u3 at *
  generalize l4 / 2251799813685248 = u4 at *
  generalize l0 % 2251799813685248 = v0 at *
  generalize l1 % 2251799813685248 = v1 at *
  generalize l2 % 2251799813685248 = v2 at *
  generalize l3 % 2251799813685248 = v3 at *
  generalize l4 % 2251799813685248 = v4 at *
  clear h0 h1 h2 h3 h4
  unfold limb5
  go_enter Try.func33, Try.ntmps33
  go_wp2
  refine bodyPost_ret (v := .agg #[.int .u64 ((v0 + 19 * u4 : Nat) : Int), .int .u64 ((v1 + u0 : Nat) : Int), .int .u64 ((v2 + u1 : Nat) : Int), .int .u64 ((v3 + u2 : Nat) : Int), .int .u64 ((v4 + u3 : Nat) : Int)]) (by simp [results, Try.results33, go_sem]) rfl ⟨rfl, (Below.refl _ _).alloc (Nat.le_refl _) _⟩
end Go.Proofs.Ytlhnjdnkjgnooaa

