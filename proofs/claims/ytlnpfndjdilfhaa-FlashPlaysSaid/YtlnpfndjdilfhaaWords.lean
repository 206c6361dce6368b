/- More words: what a call returns, told in a later world; the bytes table row. -/
import Derived.Test.YtlnpfndjdilfhaaRows
import Derived.Test.YtlnpfndjdilfhaaBs
import Derived.BigQuiet
import Derived.BigRegion
import Derived.RegionTactic
import Derived.WalkLawsBesides
import Derived.Deep.DeepCutAuto
import Derived.Deep.CutBlock
import Derived.Deep.RegionWith
namespace Go.Proofs.Ytlnpfndjdilfhaa
open Go.RowKit
set_option linter.unusedVariables false

theorem info5 : (Try.prog.info? 5).map (fun i => (i.zero, i.size, i.bytes)) = some (some (.int .u8 0), 1, 1) := by kernel_rfl

/-- the call returns a new slice that reads as l -/
def RetOb (E : TypeId) (w : World) (l : List UInt8) (e : Ending) (w' : World) : Prop := ∃ v, e = .returned v ∧ Ob E w' w.heap.size v l ∧ Below w.heap.size w w'
/-- the call returns b and only reads -/
def RetB (w : World) (b : Bool) (e : Ending) (w' : World) : Prop := e = .returned (.bool b) ∧ ∃ n, w' = w.drewN n

def MinCut (x y : Nat) (w1 : World) (s13 s14 : Value) (wx : World) : Prop := ∃ K : Nat, K ≤ x ∧ K ≤ y ∧ (x ≤ K ∨ y ≤ K) ∧ s13 = .int .i64 (K : Int) ∧ s14 = .int .i64 0 ∧ wx = w1

theorem Ob.one {E : TypeId} {w : World} {base : Nat} {v : Value} {x : UInt8} (h : Ob E w base v [x]) :
    ∃ g c, v = .slice (some ⟨g, 0, none⟩) 1 c ∧ w.cell? ⟨g, 0, none⟩ = some (.int .u8 (x.toNat : Int)) ∧ g < w.heap.size := by
  obtain ⟨A, c, rfl, hb, hf⟩ := h.form
  obtain ⟨b, o, rfl, hc⟩ := hb.at_ (k := 0) (by simp)
  rcases hf with e | ⟨g, e, -, hg⟩
  · cases e
  · injection e with e
    injection e with e1 e2
    subst e1
    subst e2
    exact ⟨b, c, rfl, by simpa using hc, hg⟩

theorem bs_lit1 (w : World) (E : TypeId) (x : UInt8) : Bs (w.alloc (.cells #[.int .u8 (x.toNat : Int)] E)) (some ⟨w.heap.size, 0, none⟩) [x] := fun _ =>
  ⟨_, _, rfl, fun j hj => by
    have : j = 0 := by simpa using hj
    subst this
    have := heap_alloc_new w (.cells #[.int .u8 (x.toNat : Int)] E)
    rw [cell_of_row _ _ _ _ _ _ this]
    simp⟩

@[go_sem] theorem below_drewN_eq (B : Nat) (a w : World) (n : Nat) : Below B a (w.drewN n) = Below B a w := propext ⟨fun h => ⟨h.os, h.tape, h.output, h.size, h.block⟩, fun h => below_drewN' h n⟩
@[go_sem] theorem below_drew_eq (B : Nat) (a w : World) : Below B a w.drew = Below B a w := propext ⟨fun h => ⟨h.os, h.tape, h.output, h.size, h.block⟩, fun h => h.drew⟩

section
variable {w W : World} {A1 A2 A3 : Option Addr} {l m p : List UInt8} {n1 n2 n3 c1 c2 c3 : Nat}

/-- the call returns a new slice that reads as l, in a world later than w -/
def RetIn (E : TypeId) (w : World) (l : List UInt8) (e : Ending) (w' : World) : Prop :=
  ∃ A c n, e = .returned (.slice A n c) ∧ n = l.length ∧ Bs w' A l ∧ Below w.heap.size w w'
/-- the call returns b, in a world later than w -/
def BoolIn (w : World) (b : Bool) (e : Ending) (w' : World) : Prop := e = .returned (.bool b) ∧ Below w.heap.size w w'

theorem retIn_of {E : TypeId} (hb : Below w.heap.size w W) : ∀ e w', RetOb E W l e w' → RetIn E w l e w' := by
  rintro e w' ⟨v, rfl, ho, hw⟩
  obtain ⟨A, c, rfl, hbs, -⟩ := ho.form
  exact ⟨A, c, _, rfl, rfl, hbs, hb.trans (hw.mono hb.size)⟩
theorem boolIn_of {b : Bool} (hb : Below w.heap.size w W) : ∀ e w', RetB W b e w' → BoolIn w b e w' := by
  rintro e w' ⟨rfl, n, rfl⟩
  exact ⟨rfl, below_drewN' hb n⟩

/-- string(s) in whatever later world -/
theorem conv_in (h1 : Bs w A1 l) (e1 : n1 = l.length) : ∀ W, Below w.heap.size w W → (convert 30 9 (.slice A1 n1 c1)).run Try.prog W = .ok (.string (strB l)) W :=
  fun W hb => run_conv_bs W _ 5 _ Try.underlying30 Try.underlying5 Try.underlying9 A1 l c1 _ (h1.below hb) e1
end

theorem quiet_at {P : Program} {f : FuncId} {args : Array Value} {w : World} {a n : Nat} {v : Value}
    (h : ∀ W : World, Calls P f args W fun e w' => e = .returned v ∧ w' = W) :
    Calls P f args (w.drewN (a + n)) fun e w'' => e = .returned v ∧ ∃ m, w'' = w.drewN (a + m) :=
  (h _).mono fun _ _ ⟨he, hm⟩ => ⟨he, n, hm⟩
end Go.Proofs.Ytlnpfndjdilfhaa
