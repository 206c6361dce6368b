/- What the frame tells of a row of integers, of flags, that came in. -/
import Derived.Test.YtlbkpmcccipfhaaGbase
import Derived.Deep.Slices
import Derived.Deep.Grids
import Derived.ChangeSame
import Derived.ChangeSlices
namespace Go.Proofs.Ytlbkpmcccipfhaa
open Go.RowKit Go.ChangeShapes Go.WideShapes Go.Deep
set_option linter.unusedVariables false
set_option maxRecDepth 100000

def IntRow (w : World) (A : Option Addr) (L : List Int) : Prop :=
  0 < L.length → ∃ b o, A = some ⟨b, o, none⟩ ∧ ∀ j, j < L.length → w.cell? ⟨b, o + j, none⟩ = some (.int .i64 (L.getD j 0)) ∧ -9223372036854775808 ≤ L.getD j 0 ∧ L.getD j 0 ≤ 9223372036854775807
def BoolRow (w : World) (A : Option Addr) (L : List Bool) : Prop :=
  0 < L.length → ∃ b o, A = some ⟨b, o, none⟩ ∧ ∀ j, j < L.length → w.cell? ⟨b, o + j, none⟩ = some (.bool (L.getD j false))
theorem IntRow.below {w w' : World} {A : Option Addr} {L : List Int} (h : IntRow w A L) (hb : Below w.heap.size w w') : IntRow w' A L := fun hl => by
  obtain ⟨b, o, e, hc⟩ := h hl
  exact ⟨b, o, e, fun j hj => ⟨by rw [hb.cell (p := ⟨b, o + j, none⟩) (World.block_lt_of_cell? w _ (hc j hj).1)]; exact (hc j hj).1, (hc j hj).2⟩⟩
theorem BoolRow.below {w w' : World} {A : Option Addr} {L : List Bool} (h : BoolRow w A L) (hb : Below w.heap.size w w') : BoolRow w' A L := fun hl => by
  obtain ⟨b, o, e, hc⟩ := h hl
  exact ⟨b, o, e, fun j hj => by rw [hb.cell (p := ⟨b, o + j, none⟩) (World.block_lt_of_cell? w _ (hc j hj))]; exact hc j hj⟩

theorem ints_of {H : Type} {enc : TypeId × Value → H} {W : World} {base : Nat} {held : Bool} {fuel : Nat} {a : Option Addr} {len cap : Nat} {x : DataW H × List MemPlace}
    (h : DataW.trod enc Try.prog W base (fun _ => true) held fuel 46 [.slice a len cap] = some x) : ∃ L : List Int, L.length = len ∧ IntRow W a L ∧ len ≤ 9223372036854775807 := by
  rcases open_ints Try.underlying46 Try.underlying3 (by kernel_rfl) h with ⟨hcs, _⟩ | ⟨x, l, c, zs, hcs, _, hl, hm, hz, _, hcell, hwz⟩
  · injection hcs with hcs
    injection hcs with e1 e2 e3
    exact ⟨[], e2.symm, fun h => absurd h (by simp), by omega⟩
  · injection hcs with hcs
    injection hcs with e1 e2 e3
    subst e1
    subst e2
    subst e3
    have hzl : zs.length = cap := by simpa using hz
    refine ⟨zs.take len, by rw [List.length_take]; omega, fun hl0 => ?_, by unfold maxLen at hm; omega⟩
    have hl1 : 0 < len := by rw [List.length_take] at hl0; omega
    obtain ⟨b, off, spot⟩ := x
    have hspot : spot = none := by simpa [Addr.add] using World.cell?_spot (hcell 0 (by omega))
    subst hspot
    refine ⟨b, off, rfl, fun j hj => ?_⟩
    rw [List.length_take] at hj
    have hjz : j < zs.length := by omega
    have h1 := hcell j hjz
    have hadd : (⟨b, off, none⟩ : Addr).add j = ⟨b, off + j, none⟩ := addr_add _ _ _
    rw [hadd] at h1
    have e : (zs.take len).getD j 0 = zs.getD j 0 := by simp only [List.getD, List.getElem?_take, if_pos (show j < len by omega)]
    have e2 : zs.getD j 0 = zs[j] := by simp [List.getD, List.getElem?_eq_getElem hjz]
    rw [e]
    refine ⟨h1, ?_⟩
    rw [e2]
    exact wf_i64 (hwz zs[j] (List.getElem_mem hjz))

theorem bools_of {H : Type} {enc : TypeId × Value → H} {W : World} {base : Nat} {held : Bool} {fuel : Nat} {a : Option Addr} {len cap : Nat} {x : DataW H × List MemPlace}
    (h : DataW.trod enc Try.prog W base (fun _ => true) held fuel 45 [.slice a len cap] = some x) : ∃ L : List Bool, L.length = len ∧ BoolRow W a L ∧ len ≤ 9223372036854775807 := by
  rcases open_bools Try.underlying45 Try.underlying4 (by kernel_rfl) h with ⟨hcs, _⟩ | ⟨x, l, c, B, hcs, _, hl, hm, _, hcell⟩
  · injection hcs with hcs
    injection hcs with e1 e2 e3
    exact ⟨[], e2.symm, fun h => absurd h (by simp), by omega⟩
  · injection hcs with hcs
    injection hcs with e1 e2 e3
    subst e1
    subst e2
    subst e3
    refine ⟨(List.range len).map B, by simp, fun hl0 => ?_, by unfold maxLen at hm; omega⟩
    have hl1 : 0 < len := by simpa using hl0
    obtain ⟨b, off, spot⟩ := x
    have hspot : spot = none := by simpa [Addr.add] using World.cell?_spot (hcell 0 (by omega))
    subst hspot
    refine ⟨b, off, rfl, fun j hj => ?_⟩
    have hj' : j < len := by simpa using hj
    have h1 := hcell j (by omega)
    have hadd : (⟨b, off, none⟩ : Addr).add j = ⟨b, off + j, none⟩ := addr_add _ _ _
    rw [hadd] at h1
    rw [h1]
    simp [List.getD, hj']
end Go.Proofs.Ytlbkpmcccipfhaa

