/- The walk of FlashRefuses. -/
import Derived.Test.YtmhcogpjgllgjaaLaw2Alive
namespace Go.Proofs.Ytmhcogpjgllgjaa
open Go.RowKit
set_option linter.unusedVariables false

theorem dstepOf_calm (d : Dl) (h : d.armed = false) : dstepOf d = (none, ⟨d.b, d.worn, d.steps + 1, d.off, d.armed, d.after, d.pick⟩) := by
  unfold dstepOf
  rw [h]
  rfl
theorem dwordOf_calm (d : Dl) (h : d.armed = false) (a : Nat) (m : List UInt8) : (dwordOf d a m).1 = 0 ∧ (dwordOf d a m).2.armed = false ∧ (dwordOf d a m).2.off = d.off := by
  unfold dwordOf
  rw [dstepOf_calm d h]
  exact ⟨rfl, h, rfl⟩
theorem dprogTo_calm (d : Dl) (h : d.armed = false) (a : Nat) (m : List UInt8) : ∀ k, (dprogTo d a m k).1 = 0 ∧ (dprogTo d a m k).2.armed = false ∧ (dprogTo d a m k).2.off = d.off
  | 0 => ⟨rfl, h, rfl⟩
  | k + 1 => by
    obtain ⟨h1, h2, h3⟩ := dprogTo_calm d h a m k
    rw [dprogTo, if_pos h1]
    obtain ⟨q1, q2, q3⟩ := dwordOf_calm _ h2 (a + 8 * k) (cut m (8 * k) 8)
    exact ⟨q1, q2, q3.trans h3⟩
/-- programming with nothing armed -/
theorem dprogOf_calm (d : Dl) (ok : DlOk d) (h : d.armed = false) (s : Int) (m : List UInt8) (hst : d.steps + m.length ≤ 4611686018427387904) :
    (dprogOf d s m).2.armed = false ∧ (dprogOf d s m).2.off = d.off ∧ ((dprogOf d s m).1 ≠ 0 → (dprogOf d s m).2 = d) ∧ DlOk (dprogOf d s m).2 ∧ (dprogOf d s m).2.worn = d.worn ∧ (dprogOf d s m).2.steps ≤ d.steps + m.length := by
  unfold dprogOf
  split
  · exact ⟨h, rfl, fun _ => rfl, ok, rfl, by simp; omega⟩
  · split
    · exact ⟨h, rfl, fun _ => rfl, ok, rfl, by simp; omega⟩
    · split
      · exact ⟨h, rfl, fun _ => rfl, ok, rfl, by simp; omega⟩
      · split
        · exact ⟨h, rfl, fun _ => rfl, ok, rfl, by simp; omega⟩
        · obtain ⟨h1, h2, h3⟩ := dprogTo_calm d h s.toNat m (m.length / 8)
          have f := dprogTo_fact d ok s.toNat m (m.length / 8) (by omega) (by omega) (m.length / 8) (Nat.le_refl _)
          exact ⟨h2, h3, fun hne => absurd h1 hne, f.ok, f.worn, by have := f.steps; omega⟩


/-- a broken erase -/
theorem derase_broken (d : Dl) (ok : DlOk d) (hoff : d.off = false) (hw : 0 < d.worn.length) (hst : d.steps + 1 ≤ 4611686018427387904) (hwb : ∀ x ∈ d.worn, x + 1 ≤ 4611686018427387904) :
    ∃ d2, deraseOf ⟨d.b, d.worn, d.steps, d.off, true, 0, []⟩ 0 = (5, d2) ∧ d2.off = true ∧ d2.steps = d.steps + 1 ∧ DlOk d2 := by
  unfold deraseOf
  rw [if_neg (by simp [hoff]), if_pos (by simp; omega)]
  refine ⟨_, rfl, rfl, rfl, ?_⟩
  have hwl := ok.len
  have hs0 := ok.s0
  refine ⟨?_, ?_, ?_, ?_, ?_, ?_, ?_, ?_⟩
  · show (laid _ _ _).length = 1024 * (List.set _ _ _).length
    rw [laid_len, List.length_set]
    exact ok.len
  · show (List.set _ _ _).length ≤ _
    rw [List.length_set]
    exact ok.few
  · intro x hx
    rcases List.mem_or_eq_of_mem_set hx with hx | rfl
    · exact ok.worn x hx
    · have hm : d.worn.getD (Int.toNat 0) 0 ∈ d.worn := by
        have : d.worn.getD (Int.toNat 0) 0 = d.worn[0] := by simp [List.getD, hw]
        rw [this]
        exact List.getElem_mem hw
      have := ok.worn _ hm
      have := hwb _ hm
      show 0 ≤ d.worn.getD (Int.toNat 0) 0 + 1 ∧ d.worn.getD (Int.toNat 0) 0 + 1 ≤ _
      exact ⟨by omega, by omega⟩
  · show 0 ≤ d.steps + 1
    omega
  · exact hst
  · exact Int.le_refl _
  · show (0 : Int) ≤ _
    omega
  · show ([] : List UInt8).length ≤ _
    simp
theorem dread_dark (d : Dl) (h : d.off = true) (a n : Int) : dreadOf d a n = ([], 5) := by unfold dreadOf; rw [if_pos h]
theorem dprog_dark (d : Dl) (h : d.off = true) (s : Int) (m : List UInt8) : dprogOf d s m = (5, d) := by unfold dprogOf; rw [if_pos h]
theorem derase_dark (d : Dl) (h : d.off = true) (s : Int) : deraseOf d s = (5, d) := by unfold deraseOf; rw [if_pos h]

def dnew (n : Nat) : Dl := ⟨blanks n, List.replicate n 0, 0, false, false, 0, []⟩
theorem dnew_ok (n : Nat) (h : n ≤ 65536) : DlOk (dnew n) :=
  ⟨by show (blanks n).length = 1024 * (List.replicate n (0 : Int)).length; rw [blanks_len, List.length_replicate], by show (List.replicate n (0 : Int)).length ≤ _; rw [List.length_replicate]; exact h,
    fun x hx => by
      have hx' : x ∈ List.replicate n (0 : Int) := hx
      have := (List.mem_replicate.1 hx').2
      omega, by show (0 : Int) ≤ 0; omega, by show (0 : Int) ≤ _; omega, by show (0 : Int) ≤ 0; omega, by show (0 : Int) ≤ _; omega, by show ([] : List UInt8).length ≤ _; simp⟩

end Go.Proofs.Ytmhcogpjgllgjaa

