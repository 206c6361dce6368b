/- What the frame tells of a record that came in by value. -/
import Derived.Test.YtddalnmoahpljaaGbase
import Derived.Lib.SmallJoins
import Derived.Deep.Slices
import Derived.Deep.Fields
import Derived.ChangeSame
import Derived.ChangeSlices
namespace Go.Proofs.Ytddalnmoahpljaa
open Go.Joins Go.RowKit Go.ChangeShapes Go.WideShapes Go.Deep
set_option linter.unusedVariables false
set_option maxRecDepth 100000

theorem isRow_max {k : IntKind} {w : World} {a : Option Addr} {len cap : Nat} {zs : List Int} (h : IsRow k w a len cap zs) : len ≤ 9223372036854775807 := by
  rcases h with ⟨_, h, _⟩ | ⟨_, _, h1, h2, _⟩
  · omega
  · unfold maxLen at h2; omega

theorem rec_of {H : Type} {enc : TypeId × Value → H} {W : World} {base : Nat} {held : Bool} {r : Reach} {b0 : Nat} {v : Value} {d : DataW H} {p : List MemPlace}
    (hv : Value.okWide Try.prog W r b0 24 v) (h : DataW.Trod enc Try.prog W base (fun _ => true) held 24 v d p) :
    ∃ (k q : Int) (A : Option Addr) (n c : Nat) (zs : List Int), v = .agg #[.int .i64 k, .int .i64 q, .slice A n c] ∧ (Lit.int .i64 k).wf = true ∧ (Lit.int .i64 q).wf = true ∧ IsRow .u8 W A n c zs ∧ c ≤ 9223372036854775807 := by
  obtain ⟨f0, f1, f2, hu, y0, y1, y2, hone⟩ : ∃ f0 f1 f2 : Field, Try.prog.underlying 24 = some (.struct #[f0, f1, f2]) ∧ f0.type = 3 ∧ f1.type = 3 ∧ f2.type = 22 ∧ oneCellFields Try.prog #[f0, f1, f2] = true :=
    ⟨_, _, _, Try.underlying24, rfl, rfl, rfl, by kernel_rfl⟩
  obtain ⟨v0, v1, v2, x0, x1, x2, n, rfl, -, -, h0, h1, h2⟩ := open_agg3 hu hone (by kernel_rfl) hv h
  rw [y0] at h0
  rw [y1] at h1
  rw [y2] at h2
  obtain ⟨p0, q0, -, w0⟩ := DataW.trod_int Try.underlying3 h0
  obtain ⟨p1, q1, -, w1⟩ := DataW.trod_int Try.underlying3 h1
  injection q0 with q0
  injection q1 with q1
  subst q0
  subst q1
  rcases open_ints Try.underlying22 Try.underlying5 (by kernel_rfl) h2 with ⟨hcs, _⟩ | ⟨x, l, c, zs, hcs, _, hl, hm, hz, _, hcell, hwz⟩
  · injection hcs with hcs
    subst hcs
    exact ⟨_, _, none, 0, 0, [], rfl, w0, w1, .inl ⟨rfl, rfl, rfl, rfl⟩, by omega⟩
  · injection hcs with hcs
    subst hcs
    exact ⟨_, _, some x, l, c, zs, rfl, w0, w1, .inr ⟨_, rfl, hl, hm, by simpa using hz, hcell, hwz⟩, by unfold maxLen at hm; omega⟩
end Go.Proofs.Ytddalnmoahpljaa

