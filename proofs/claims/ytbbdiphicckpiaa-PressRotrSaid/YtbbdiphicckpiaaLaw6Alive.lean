/- Layer 6: the reference's Square and Cube; alive; RootsTell. -/
import Derived.Test.YtbbdiphicckpiaaRefRoot
namespace Go.Proofs.Ytbbdiphicckpiaa
open Go.RowKit
set_option linter.unusedVariables false
set_option maxRecDepth 100000

theorem sqv_2 : sqv false 2 = 7640891576956012808 := by
  unfold sqv
  rw [if_pos (by omega), rt_eq false (y := 26087635650665564424) (by omega) (by decide) (by decide)]
theorem cuv_2 : sqv true 2 = 4794697086780616226 := by
  unfold sqv
  rw [if_pos (by omega), rt_eq true (y := 23241441160490167842) (by omega) (by decide) (by decide)]

/-- the call returns a slice of the first K primes -/
def PrimesPost (w : World) (K : Nat) (e : Ending) (w' : World) : Prop :=
  ∃ A c, e = .returned (.slice A K c) ∧ Us w' A (P100.take K) ∧ Below w.heap.size w w'

theorem primes_post {w w' : World} {e : Ending} {n : Int} {K : Nat} (hK : clampN n = K) (h : ∃ v, e = .returned v ∧ Uo 22 w' w.heap.size v (P100.take (clampN n)) ∧ Below w.heap.size w w') : PrimesPost w K e w' := by
  obtain ⟨v, rfl, ho, hb⟩ := h
  have hl : (P100.take K).length = K := by
    rw [List.length_take, P100_len, ← hK]
    unfold clampN
    omega
  rw [hK] at ho
  obtain ⟨A, c, rfl, hu, -⟩ := ho.form
  exact ⟨A, c, by rw [hl], hu, hb⟩

end Go.Proofs.Ytbbdiphicckpiaa

