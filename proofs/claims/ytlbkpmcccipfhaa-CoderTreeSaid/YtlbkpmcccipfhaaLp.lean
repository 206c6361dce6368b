/- Rows that stand in a world, one of them written. -/
import Derived.Test.YtlbkpmcccipfhaaGheld
namespace Go.Proofs.Ytlbkpmcccipfhaa
open Go.RowKit
set_option linter.unusedVariables false
set_option maxRecDepth 100000

/-- rows that stand, and nothing else has turned -/
structure Lp (w wr : World) (g : Nat) (cs : Array Value) (t : TypeId) (L : List RowT) : Prop where
  rows : RowsW wr ((g, cs, t) :: L)
  new : w.heap.size ≤ g
  far : ∀ r ∈ L, r.1 ≠ g
  below : Below w.heap.size w wr
theorem Lp.drew {w wr g cs t L} (h : Lp w wr g cs t L) : Lp w wr.drew g cs t L := ⟨h.rows.drew, h.new, h.far, h.below.drew⟩
theorem Lp.set {w wr g cs t L} (h : Lp w wr g cs t L) (k : Nat) (v : Value) : Lp w (wr.setCell ⟨g, k, none⟩ v) g (cs.setIfInBounds k v) t L :=
  ⟨h.rows.set h.far k v, h.new, h.far, h.below.setCell (p := ⟨g, k, none⟩) h.new v⟩
theorem Lp.fz {w wr g cs t L} (h : Lp w wr g cs t L) (k : Nat) : wr.frozen? ⟨g, k, none⟩ = false := by have := h.rows.head; simp [World.frozen?, this]
theorem Lp.call {w wr W g cs t L} (h : Lp w wr g cs t L) (hb : Below wr.heap.size wr W) : Lp w W g cs t L := ⟨h.rows.below hb, h.new, h.far, below_then h.below hb⟩
end Go.Proofs.Ytlbkpmcccipfhaa

