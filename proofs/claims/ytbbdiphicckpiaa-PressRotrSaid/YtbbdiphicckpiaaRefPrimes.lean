/- The contract of the reference's Primes. -/
import Derived.Test.YtbbdiphicckpiaaPrimes
namespace Go.Proofs.Ytbbdiphicckpiaa
open Go.RowKit
set_option linter.unusedVariables false
set_option maxRecDepth 100000

/-- no number below e, from 2 on, divides y -/
def isPto (y e : Nat) : Bool := (List.range e).all (fun d => Nat.ble d 1 || !(Nat.beq (y % d) 0))
theorem isPto_two (y : Nat) : isPto y 2 = true := rfl
theorem isPto_succ (y e : Nat) (h : 2 ≤ e) : isPto y (e + 1) = (isPto y e && !(Nat.beq (y % e) 0)) := by
  have h1 : Nat.ble e 1 = false := by
    cases hb : Nat.ble e 1
    · rfl
    · rw [Nat.ble_eq] at hb; omega
  unfold isPto
  rw [List.range_succ, List.all_append]
  simp [h1]

def NInt (N : Int) (w : World) (s : Value) (w' : World) : Prop := s = .int .i64 N ∧ w' = w

end Go.Proofs.Ytbbdiphicckpiaa

