/- The contract of the reference's times. -/
import Derived.Test.YtbbdiphicckpiaaRefDigits
namespace Go.Proofs.Ytbbdiphicckpiaa
open Go.RowKit
set_option linter.unusedVariables false
set_option maxRecDepth 100000

theorem and16 (t : Nat) (h : t < 18446744073709551616) : bits .and .u64 (t : Int) 65535 = ((t % 65536 : Nat) : Int) := by
  have := u64_and_nat t 65535 h (by omega)
  rw [show t &&& 65535 = t % 65536 from Nat.and_two_pow_sub_one_eq_mod t 16] at this
  exact this

def TimesPost (w : World) (n v : Nat) (e : Ending) (w' : World) : Prop :=
  ∃ A c o, e = .returned (.slice A n c) ∧ Us w' A o ∧ o.length = n ∧ Dig o ∧ vl o = v ∧ Below w.heap.size w w'

end Go.Proofs.Ytbbdiphicckpiaa

