/- The contracts of the reference's Region: IsBlank, Of. -/
import Derived.Test.YtddalnmoahpljaaRefRegion
import Derived.Test.YtddalnmoahpljaaGref
namespace Go.Proofs.Ytddalnmoahpljaa
open Go.RowKit
set_option linter.unusedVariables false
set_option maxRecDepth 100000

def rgBlank (f : Fl) (a c : Nat) (s : Int) : Bool × Int := if f.dark then (false, 5) else if 0 ≤ s ∧ s < (c : Int) then ((rgRead f a c (s * 1024) 1024).1.all (· == 255), 0) else (false, 2)
def FlagPost (w : World) (r : Bool × Int) (e : Ending) (w' : World) : Prop := e = .returned (.tuple #[.bool r.1, .int .i64 r.2]) ∧ Below w.heap.size w w'

theorem readOf_len (f : Fl) (t n : Int) : (readOf f t n).1.length ≤ f.b.length := by
  unfold readOf
  split
  · simp
  · split
    · rename_i h
      rw [cut_len (by omega)]
      omega
    · simp
theorem rgRead_len (f : Fl) (a c : Nat) (t n : Int) : (rgRead f a c t n).1.length ≤ f.b.length := by
  unfold rgRead
  split
  · simp
  · split
    · exact readOf_len _ _ _
    · simp

/-- which regions there are -/
def ofB (n : Nat) (a c : Int) : Bool := decide (0 ≤ a) && decide (1 ≤ c) && decide (a + c ≤ (n : Int))
theorem ofB_iff {n : Nat} {a c : Int} : ofB n a c = true ↔ 0 ≤ a ∧ 1 ≤ c ∧ a + c ≤ (n : Int) := by
  unfold ofB
  simp only [Bool.and_eq_true, decide_eq_true_eq, and_assoc]

def OfPost (w : World) (g : Nat) (a c : Int) (b : Bool) (e : Ending) (w' : World) : Prop :=
  e = .returned (if b then .tuple #[.agg #[.pointer (some ⟨g, 0, none⟩), .int .i64 a, .int .i64 c], .int .i64 0] else .tuple #[.agg #[.pointer none, .int .i64 0, .int .i64 0], .int .i64 1]) ∧ Below w.heap.size w w'

end Go.Proofs.Ytddalnmoahpljaa

