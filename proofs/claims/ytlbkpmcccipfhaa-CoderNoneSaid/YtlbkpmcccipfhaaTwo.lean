/- The program's tree and the reference's in one memory. -/
import Derived.Test.YtlbkpmcccipfhaaLaw15Spec
namespace Go.Proofs.Ytlbkpmcccipfhaa
open Go.RowKit
set_option linter.unusedVariables false
set_option maxRecDepth 100000

theorem Only.low {F : Nat → Prop} {w W w' : World} (hb : Below w.heap.size w W) (ho : Only F W w') (hF : ∀ j, F j → w.heap.size ≤ j) : Below w.heap.size w w' :=
  hb.trans (ho.below hb.size (fun k hk hf => by have := hF k hf; omega))
structure Two (T : TrP) (w W : World) (g gr rr : Nat) (t u : Tm) (F : Nat → Prop) : Prop where
  tr : T W g t F
  rt : RTr W gr rr u
  fn : ∀ j, F j → w.heap.size ≤ j
  ng : ¬ F gr
  nr : ¬ F rr
  gl : w.heap.size ≤ gr
  rl : w.heap.size ≤ rr
  below : Below w.heap.size w W
theorem Two.start {T : TrP} (B : TrB T) {w v1 v2 v3 : World} {g : Nat} {t : Tm} {F : Nat → Prop} (hT : T v2 g t F) (hF : ∀ j, F j → v1.heap.size ≤ j) (hb1 : Below w.heap.size w v1) (hb2 : Below w.heap.size w v2) (hv : v1.heap.size ≤ v2.heap.size) {u : Tm}
    (hr : RTr v3 v2.heap.size (v2.heap.size + 1) u) (hb3 : Below v2.heap.size v2 v3) : Two T w v3 g v2.heap.size (v2.heap.size + 1) t u F := by
  have h1 := hb1.size
  exact ⟨B.below hT hb3, hr, fun j hj => by have := hF j hj; omega, fun h => by have := B.lt hT _ h; omega, fun h => by have := B.lt hT _ h; omega, by omega, by omega, below_then hb2 hb3⟩
theorem Two.low {T : TrP} {w W W' : World} {g gr rr : Nat} {t u : Tm} {F : Nat → Prop} (h : Two T w W g gr rr t u F) (hb : Below W.heap.size W W') (B : TrB T) : Two T w W' g gr rr t u F :=
  ⟨B.below h.tr hb, h.rt.below hb, h.fn, h.ng, h.nr, h.gl, h.rl, below_then h.below hb⟩
theorem Two.one {T : TrP} {w W W' : World} {g gr rr : Nat} {t t' u : Tm} {F F' : Nat → Prop} (h : Two T w W g gr rr t u F) (B : TrB T) (ht : T W' g t' F') (hF : ∀ j, F' j → F j ∨ W.heap.size ≤ j) (ho : Only F W W') : Two T w W' g gr rr t' u F' := by
  have h1 := h.below.size
  have h2 := h.rt.lt
  exact ⟨ht, h.rt.only ho h.ng h.nr, fun j hj => by rcases hF j hj with a | a; exact h.fn j a; omega, fun hf => by rcases hF _ hf with a | a; exact h.ng a; omega, fun hf => by rcases hF _ hf with a | a; exact h.nr a; omega, h.gl, h.rl, Only.low h.below ho h.fn⟩
theorem Two.two {T : TrP} {w W W' : World} {g gr rr : Nat} {t u u' : Tm} {F : Nat → Prop} (h : Two T w W g gr rr t u F) (B : TrB T) (hr : RTr W' gr rr u') (ho : Only (fun j => j = rr) W W') : Two T w W' g gr rr t u' F :=
  ⟨B.keep _ h.tr ho (fun j hj e => h.nr (by rw [← e]; exact hj)), hr, h.fn, h.ng, h.nr, h.gl, h.rl, Only.low h.below ho (fun j e => by rw [e]; exact h.rl)⟩
end Go.Proofs.Ytlbkpmcccipfhaa

