/- The contracts of package nor, told in a world later than the one in which the arguments were known. -/
import Derived.Test.YtlbododoooibbaaAlive
namespace Go.Proofs.Ytlbododoooibbaa
open Go.RowKit
set_option linter.unusedVariables false

@[go_sem] theorem below_drewN_eq (B : Nat) (a w : World) (n : Nat) : Below B a (w.drewN n) = Below B a w := propext ⟨fun h => ⟨h.os, h.tape, h.output, h.size, h.block⟩, fun h => below_drewN' h n⟩
@[go_sem] theorem below_drew_eq (B : Nat) (a w : World) : Below B a w.drew = Below B a w := propext ⟨fun h => ⟨h.os, h.tape, h.output, h.size, h.block⟩, fun h => h.drew⟩

section
variable {w W : World} {A1 A2 A3 : Option Addr} {l m p : List UInt8} {n1 n2 n3 c1 c2 c3 : Nat}

/-- the call returns a new slice that reads as l, in a world later than w -/
def RetIn (E : TypeId) (w : World) (l : List UInt8) (e : Ending) (w' : World) : Prop :=
  ∃ A c n, e = .returned (.slice A n c) ∧ n = l.length ∧ Bs w' A l ∧ Below w.heap.size w w'
/-- the call returns b, in a world later than w -/
def BoolIn (w : World) (b : Bool) (e : Ending) (w' : World) : Prop := e = .returned (.bool b) ∧ Below w.heap.size w w'

theorem retIn_of {E : TypeId} (hb : Below w.heap.size w W) : ∀ e w', RetOb E W l e w' → RetIn E w l e w' := by
  rintro e w' ⟨v, rfl, ho, hw⟩
  obtain ⟨A, c, rfl, hbs, -⟩ := ho.form
  exact ⟨A, c, _, rfl, rfl, hbs, hb.trans (hw.mono hb.size)⟩
theorem boolIn_of {b : Bool} (hb : Below w.heap.size w W) : ∀ e w', RetB W b e w' → BoolIn w b e w' := by
  rintro e w' ⟨rfl, n, rfl⟩
  exact ⟨rfl, below_drewN' hb n⟩

theorem can_in {b : Bool} (hb : Below w.heap.size w W) (H : Hid (canB l m = b)) (h1 : Bs W A1 l) (h2 : Bs W A2 m) (e1 : n1 = l.length) (e2 : n2 = m.length) (hl : n1 ≤ 65536) :
    Calls Try.prog 14 #[.slice A1 n1 c1, .slice A2 n2 c2] W (BoolIn w b) := by
  subst e1
  subst e2
  exact (can_is H h1 h2 (by omega)).mono fun e w' ⟨he, n, hw⟩ => boolIn_of hb e w' ⟨he, n, hw⟩
theorem risen_in {b : Bool} (hb : Below w.heap.size w W) (H : Hid (canB m l = b)) (h1 : Bs W A1 l) (h2 : Bs W A2 m) (e1 : n1 = l.length) (e2 : n2 = m.length) (hl : n2 ≤ 65536) :
    Calls Try.prog 24 #[.slice A1 n1 c1, .slice A2 n2 c2] W (BoolIn w b) := by
  subst e1
  subst e2
  rw [← H.out]
  exact (risen_any A1 A2 l m c1 c2 W h1 h2 (by omega)).mono (boolIn_of hb)
theorem between_in {b : Bool} (hb : Below w.heap.size w W) (H : Hid ((canB l p && canB p m) = b)) (h1 : Bs W A1 l) (h2 : Bs W A2 m) (h3 : Bs W A3 p) (e1 : n1 = l.length) (e2 : n2 = m.length) (e3 : n3 = p.length) (hl : n1 ≤ 65536) (hp : n3 ≤ 65536) :
    Calls Try.prog 20 #[.slice A1 n1 c1, .slice A2 n2 c2, .slice A3 n3 c3] W (BoolIn w b) := by
  subst e1
  subst e2
  subst e3
  rw [← H.out]
  exact (between_any A1 A2 A3 l m p c1 c2 c3 W h1 h2 h3 (by omega) (by omega)).mono (boolIn_of hb)
theorem isBlank_in {b : Bool} (hb : Below w.heap.size w W) (H : Hid (l.all (· == 255) = b)) (h1 : Bs W A1 l) (e1 : n1 = l.length) (hl : n1 ≤ 65536) :
    Calls Try.prog 12 #[.slice A1 n1 c1] W (BoolIn w b) := by
  subst e1
  rw [← H.out]
  exact (isBlank_any A1 l c1 W h1 (by omega)).mono fun e w' ⟨he, hw⟩ => ⟨he, hw ▸ hb⟩
theorem blank_in (hb : Below w.heap.size w W) {n : Int} {k : Nat} (hn : n = (k : Int)) (hk : k ≤ 65536) :
    Calls Try.prog 10 #[.int .i64 n] W (RetIn 5 w (List.replicate k 255)) := by
  subst hn
  refine (blank_any (k : Int) W (by omega) (by omega)).mono fun e w' ⟨v, he, ho, hw⟩ => ?_
  have : (max 0 (min (k : Int) 65536)).toNat = k := by omega
  rw [this] at ho
  exact retIn_of hb e w' ⟨v, he, ho, hw⟩
theorem half_in (hb : Below w.heap.size w W) (h1 : Bs W A1 l) (h2 : Bs W A2 m) (e1 : n1 = l.length) (e2 : n2 = m.length) (hl : n1 ≤ 65536) (hm : n2 ≤ 65536) :
    Calls Try.prog 22 #[.slice A1 n1 c1, .slice A2 n2 c2] W (RetIn 5 w (halfB l m)) := by
  subst e1
  subst e2
  exact (half_any A1 A2 l m c1 c2 W h1 h2 (by omega) (by omega)).mono (retIn_of hb)
theorem torn_in (hb : Below w.heap.size w W) (h1 : Bs W A1 l) (h2 : Bs W A2 m) (h3 : Bs W A3 p) (e1 : n1 = l.length) (e2 : n2 = m.length) (e3 : n3 = p.length) (hl : n1 ≤ 65536) (hm : n2 ≤ 65536) (hp : n3 ≤ 65536) :
    Calls Try.prog 18 #[.slice A1 n1 c1, .slice A2 n2 c2, .slice A3 n3 c3] W (RetIn 5 w (if canB l m then tornB l m p else [])) := by
  subst e1
  subst e2
  subst e3
  exact (torn_any A1 A2 A3 l m p c1 c2 c3 W h1 h2 h3 (by omega) (by omega) (by omega)).mono (retIn_of hb)
theorem program_in (hb : Below w.heap.size w W) (h1 : Bs W A1 l) (h2 : Bs W A2 m) (e1 : n1 = l.length) (e2 : n2 = m.length) (hl : n1 ≤ 65536) (hm : n2 ≤ 65536) :
    Calls Try.prog 16 #[.slice A1 n1 c1, .slice A2 n2 c2] W (RetIn 5 w (if canB l m then m else [])) := by
  subst e1
  subst e2
  exact (program_any A1 A2 l m c1 c2 W h1 h2 (by omega) (by omega)).mono (retIn_of hb)

/-- string(s) in whatever later world -/
theorem conv_in (h1 : Bs w A1 l) (e1 : n1 = l.length) : ∀ W, Below w.heap.size w W → (convert 22 9 (.slice A1 n1 c1)).run Try.prog W = .ok (.string (strB l)) W :=
  fun W hb => run_conv_bs W _ 5 _ Try.underlying22 Try.underlying5 Try.underlying9 A1 l c1 _ (h1.below hb) e1
end
end Go.Proofs.Ytlbododoooibbaa
