/- The contract of the reference's root, at 2 and at 3. -/
import Derived.Test.YtbbdiphicckpiaaRefTimes
namespace Go.Proofs.Ytbbdiphicckpiaa
open Go.RowKit
set_option linter.unusedVariables false
set_option maxRecDepth 100000

theorem us_lit2 (w : World) (E : TypeId) (x y : Nat) : Us (w.alloc (.cells #[.int .u64 (x : Int), .int .u64 (y : Int)] E)) (some ⟨w.heap.size, 0, none⟩) [x, y] := fun _ =>
  ⟨_, _, rfl, fun j hj => by
    have hj2 : j < 2 := by simpa using hj
    have := heap_alloc_new w (.cells #[.int .u64 (x : Int), .int .u64 (y : Int)] E)
    rw [cell_of_row _ _ _ _ _ _ this]
    rcases j with _ | _ | j
    · rfl
    · rfl
    · omega⟩

end Go.Proofs.Ytbbdiphicckpiaa

