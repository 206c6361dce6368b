/- The contracts of the reference's Region: Size, Read, Program, Erase. -/
import Derived.Test.YtddalnmoahpljaaGsim
namespace Go.Proofs.Ytddalnmoahpljaa
open Go.RowKit
set_option linter.unusedVariables false
set_option maxRecDepth 100000

/-- a region of the reference, as a value -/
def rgV (g : Nat) (a c : Nat) : Value := .agg #[.pointer (some ⟨g, 0, none⟩), .int .i64 (a : Int), .int .i64 (c : Int)]
def rgRead (f : Fl) (a c : Nat) (t n : Int) : List UInt8 × Int :=
  if f.dark then ([], 5) else if 0 ≤ t ∧ 0 ≤ n ∧ t + n ≤ (c : Int) * 1024 then readOf f ((a : Int) * 1024 + t) n else ([], 2)

def rgProg (f : Fl) (a c : Nat) (t : Int) (m : List UInt8) : Int × Fl :=
  if f.dark then (5, f) else if 0 ≤ t ∧ t + m.length ≤ (c : Int) * 1024 then rprogOf f ((a : Int) * 1024 + t) m else (2, f)

def rgErase (f : Fl) (a c : Nat) (s : Int) : Int × Fl := if f.dark then (5, f) else if 0 ≤ s ∧ s < (c : Int) then eraseOf f ((a : Int) + s) else (2, f)

end Go.Proofs.Ytddalnmoahpljaa

