/- A region of the program's flash and one of the reference's, in plain states: alike. -/
import Derived.Test.YtddalnmoahpljaaRefRegion2
namespace Go.Proofs.Ytddalnmoahpljaa
open Go.RowKit
set_option linter.unusedVariables false
set_option maxRecDepth 100000

def dgRead (d : Dl) (a c : Nat) (t n : Int) : List UInt8 × Int :=
  if d.off then ([], 5) else if 0 ≤ t ∧ 0 ≤ n ∧ t + n ≤ (c : Int) * 1024 then dreadOf d ((a : Int) * 1024 + t) n else ([], 2)
def dgProg (d : Dl) (a c : Nat) (t : Int) (m : List UInt8) : Int × Dl :=
  if d.off then (5, d) else if 0 ≤ t ∧ t + m.length ≤ (c : Int) * 1024 then dprogOf d ((a : Int) * 1024 + t) m else (2, d)
def dgErase (d : Dl) (a c : Nat) (s : Int) : Int × Dl := if d.off then (5, d) else if 0 ≤ s ∧ s < (c : Int) then deraseOf d ((a : Int) + s) else (2, d)
def dgBlank (d : Dl) (a c : Nat) (s : Int) : Bool × Int := if d.off then (false, 5) else if 0 ≤ s ∧ s < (c : Int) then ((dgRead d a c (s * 1024) 1024).1.all (· == 255), 0) else (false, 2)

theorem sim3_read {d : Dl} {f : Fl} (s : Sim d f) (a c : Nat) (t n : Int) : dgRead d a c t n = rgRead f a c t n := by
  unfold dgRead rgRead
  rw [s.off, sim_read s]
theorem sim3_prog {d : Dl} {f : Fl} (s : Sim d f) (ok : DlOk d) (rok : FlOk f) (a c : Nat) (t : Int) (m : List UInt8) (hs : f.steps + m.length < 4611686018427387904) :
    (dgProg d a c t m).1 = (rgProg f a c t m).1 ∧ Sim (dgProg d a c t m).2 (rgProg f a c t m).2 := by
  unfold dgProg rgProg
  rw [s.off]
  split
  · exact ⟨rfl, s⟩
  · split
    · exact sim_prog s ok rok _ m hs
    · exact ⟨rfl, s⟩
theorem sim3_erase {d : Dl} {f : Fl} (s : Sim d f) (ok : DlOk d) (rok : FlOk f) (a c : Nat) (x : Int) (hs : f.steps + 1 < 4611686018427387904) :
    (dgErase d a c x).1 = (rgErase f a c x).1 ∧ Sim (dgErase d a c x).2 (rgErase f a c x).2 := by
  unfold dgErase rgErase
  rw [s.off]
  split
  · exact ⟨rfl, s⟩
  · split
    · exact sim_erase s ok rok _ hs
    · exact ⟨rfl, s⟩
theorem sim3_blank {d : Dl} {f : Fl} (s : Sim d f) (a c : Nat) (x : Int) : dgBlank d a c x = rgBlank f a c x := by
  unfold dgBlank rgBlank
  rw [s.off, sim3_read s]

theorem dgProg_num (d : Dl) (ok : DlOk d) (a c : Nat) (t : Int) (m : List UInt8) (hst : d.steps + m.length ≤ 4611686018427387904) : NumFact d (dgProg d a c t m).2 m.length := by
  unfold dgProg
  split
  · exact .same ok (by omega)
  · split
    · exact dprogOf_num d ok _ m hst
    · exact .same ok (by omega)
theorem rgProg_ok (f : Fl) (ok : FlOk f) (a c : Nat) (t : Int) (m : List UInt8) (hst : f.steps + m.length ≤ 4611686018427387904) : FlOk (rgProg f a c t m).2 := by
  unfold rgProg
  split
  · exact ok
  · split
    · exact rprogOf_ok f ok _ m hst
    · exact ok
theorem dgErase_num (d : Dl) (ok : DlOk d) (a c : Nat) (s : Int) (hst : d.steps + 1 ≤ 4611686018427387904) (hw : ∀ x ∈ d.worn, x + 1 ≤ 4611686018427387904) : NumFact d (dgErase d a c s).2 1 := by
  unfold dgErase
  split
  · exact .same ok (by omega)
  · split
    · exact deraseOf_num d ok _ hst hw
    · exact .same ok (by omega)
theorem rgErase_ok (f : Fl) (ok : FlOk f) (a c : Nat) (s : Int) (hst : f.steps + 1 ≤ 4611686018427387904) (hw : ∀ x ∈ f.worn, x + 1 ≤ 4611686018427387904) : FlOk (rgErase f a c s).2 := by
  unfold rgErase
  split
  · exact ok
  · split
    · exact eraseOf_ok f ok _ hst hw
    · exact ok
/-- what is kept off a region -/
theorem dgErase_rest (d : Dl) (ok : DlOk d) (ha : d.armed = false) (a c : Nat) (s : Int) (i : Nat) (hi : i < d.b.length) (ho : i < a * 1024 ∨ (a + c) * 1024 ≤ i) : (dgErase d a c s).2.b.getD i 0 = d.b.getD i 0 := by
  unfold dgErase
  split
  · rfl
  · split
    · rename_i hin
      unfold deraseOf
      split
      · rfl
      · split
        · unfold deraseIn
          rw [dstepOf_calm' (dwithW d (d.worn.set ((a : Int) + s).toNat (d.worn.getD ((a : Int) + s).toNat 0 + 1))) ha]
          show (laid d.b _ _).getD i 0 = _
          rw [laid_get hi, List.length_replicate, if_neg (by omega)]
        · rfl
    · rfl
end Go.Proofs.Ytddalnmoahpljaa

