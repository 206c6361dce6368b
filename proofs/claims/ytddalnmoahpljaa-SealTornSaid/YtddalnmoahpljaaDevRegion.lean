/- The contracts of the program's Region: within, Size, start, refusal, Read. -/
import Derived.Test.YtddalnmoahpljaaSim3
import Derived.Deep.RegionHeld3
namespace Go.Proofs.Ytddalnmoahpljaa
open Go.RowKit
set_option linter.unusedVariables false
set_option maxRecDepth 100000

def refuseOf (d : Dl) (b : Bool) : Int := if d.off then 5 else if b then 0 else 2
def CodePost (w : World) (k : Int) (e : Ending) (w' : World) : Prop := e = .returned (.int .i64 k) ∧ Below w.heap.size w w'

/-- a region's value, boxed: its three cells in whatever later world -/
theorem box_cells (w : World) (q x y : Value) (E : TypeId) : ∀ W, Below (w.alloc (.cells #[q, x, y] E)).heap.size (w.alloc (.cells #[q, x, y] E)) W →
    W.cell? ⟨w.heap.size, 0, none⟩ = some q ∧ W.cell? ⟨w.heap.size, 1, none⟩ = some x ∧ W.cell? ⟨w.heap.size, 2, none⟩ = some y := fun W hW => by
  have hg := (hW.block w.heap.size (by simp)).trans (heap_alloc_new w _)
  exact ⟨by rw [cell_of_row _ _ _ _ _ _ hg]; rfl, by rw [cell_of_row _ _ _ _ _ _ hg]; rfl, by rw [cell_of_row _ _ _ _ _ _ hg]; rfl⟩

end Go.Proofs.Ytddalnmoahpljaa

