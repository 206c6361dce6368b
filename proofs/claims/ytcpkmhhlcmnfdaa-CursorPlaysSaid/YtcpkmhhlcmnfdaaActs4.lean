/- The row of calls that came in (a struct of two integers and a slice of bytes), as it lies in memory. -/
import Derived.Test.YtcpkmhhlcmnfdaaGbase
namespace Go.Proofs.Ytcpkmhhlcmnfdaa
open Go.RowKit
set_option linter.unusedVariables false
set_option maxRecDepth 100000

/-- a call as it lies in a row -/
structure ActE where
  k : Int
  n : Int
  A : Option Addr
  b : List UInt8
  c : Nat

structure ActAt4 (w : World) (g o : Nat) (a : ActE) : Prop where
  k : w.cell? ⟨g, o, none⟩ = some (.int .i64 a.k)
  n : w.cell? ⟨g, o + 1, none⟩ = some (.int .i64 a.n)
  s : w.cell? ⟨g, o + 2, none⟩ = some (.slice a.A a.b.length a.c)
  b : Bs w a.A a.b
  c : a.b.length ≤ a.c
  m : a.c ≤ 9223372036854775807
  n1 : -9223372036854775808 ≤ a.n
  n2 : a.n ≤ 9223372036854775807

def Acts4 (w : World) (A0 : Option Addr) (L : List ActE) : Prop :=
  0 < L.length → ∃ g o, A0 = some ⟨g, o, none⟩ ∧ ∀ i (h : i < L.length), ActAt4 w g (o + i * 3) L[i]

theorem ActAt4.below {w w' : World} {g o : Nat} {a : ActE} (h : ActAt4 w g o a) (hb : Below w.heap.size w w') : ActAt4 w' g o a := by
  have hg : g < w.heap.size := World.block_lt_of_cell? w _ h.k
  exact ⟨by rw [hb.cell (p := ⟨g, o, none⟩) hg]; exact h.k, by rw [hb.cell (p := ⟨g, o + 1, none⟩) hg]; exact h.n, by rw [hb.cell (p := ⟨g, o + 2, none⟩) hg]; exact h.s,
    h.b.below hb, h.c, h.m, h.n1, h.n2⟩
theorem Acts4.below {w w' : World} {A0 : Option Addr} {L : List ActE} (h : Acts4 w A0 L) (hb : Below w.heap.size w w') : Acts4 w' A0 L := fun hl => by
  obtain ⟨g, o, e, ha⟩ := h hl
  exact ⟨g, o, e, fun i hi => (ha i hi).below hb⟩

def fewE (L : List ActE) : Bool := decide (L.length ≤ 30) && L.all fun a => decide (a.b.length ≤ 1100)

end Go.Proofs.Ytcpkmhhlcmnfdaa

