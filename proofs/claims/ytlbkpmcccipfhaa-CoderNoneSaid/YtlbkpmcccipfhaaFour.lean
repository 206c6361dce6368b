/- Two coders and two trees in one memory. -/
import Derived.Test.YtlbkpmcccipfhaaLaw16Spec
import Derived.Test.YtlbkpmcccipfhaaTwo
namespace Go.Proofs.Ytlbkpmcccipfhaa
open Go.RowKit
set_option linter.unusedVariables false
set_option maxRecDepth 100000

/-- four objects' blocks lie apart, from b on -/
structure Ap4 (b n : Nat) (F R G S : Nat → Prop) : Prop where
  f : ∀ j, F j → b ≤ j ∧ j < n
  r : ∀ j, R j → b ≤ j ∧ j < n
  g : ∀ j, G j → b ≤ j ∧ j < n
  s : ∀ j, S j → b ≤ j ∧ j < n
  fr : ∀ j, F j → ¬ R j
  fg : ∀ j, F j → ¬ G j
  fs : ∀ j, F j → ¬ S j
  rg : ∀ j, R j → ¬ G j
  rs : ∀ j, R j → ¬ S j
  gs : ∀ j, G j → ¬ S j
theorem Ap4.grow {b n n' : Nat} {F R G S : Nat → Prop} (h : Ap4 b n F R G S) (hn : n ≤ n') : Ap4 b n' F R G S :=
  ⟨fun j hj => ⟨(h.f j hj).1, by have := (h.f j hj).2; omega⟩, fun j hj => ⟨(h.r j hj).1, by have := (h.r j hj).2; omega⟩, fun j hj => ⟨(h.g j hj).1, by have := (h.g j hj).2; omega⟩, fun j hj => ⟨(h.s j hj).1, by have := (h.s j hj).2; omega⟩, h.fr, h.fg, h.fs, h.rg, h.rs, h.gs⟩
theorem Ap4.swap {b n : Nat} {F R G S : Nat → Prop} (h : Ap4 b n F R G S) : Ap4 b n R F G S :=
  ⟨h.r, h.f, h.g, h.s, fun j a c => h.fr j c a, h.rg, h.rs, h.fg, h.fs, h.gs⟩
theorem Ap4.turn {b n : Nat} {F R G S : Nat → Prop} (h : Ap4 b n F R G S) : Ap4 b n R G S F :=
  ⟨h.r, h.g, h.s, h.f, h.rg, h.rs, fun j a c => h.fr j c a, h.gs, fun j a c => h.fg j c a, fun j a c => h.fs j c a⟩
/-- the first one's blocks have turned -/
theorem Ap4.one {b n n' : Nat} {F F' R G S : Nat → Prop} (h : Ap4 b n F R G S) (hb : b ≤ n) (hn : n ≤ n') (hF : ∀ j, F' j → F j ∨ n ≤ j) (hl : ∀ j, F' j → j < n') : Ap4 b n' F' R G S := by
  have h2 := h.grow hn
  refine ⟨fun j hj => ⟨?_, hl j hj⟩, h2.r, h2.g, h2.s, fun j hj hr => ?_, fun j hj hr => ?_, fun j hj hr => ?_, h2.rg, h2.rs, h2.gs⟩
  · rcases hF j hj with a | a
    · exact (h.f j a).1
    · omega
  · rcases hF j hj with a | a
    · exact h.fr j a hr
    · have := (h.r j hr).2; omega
  · rcases hF j hj with a | a
    · exact h.fg j a hr
    · have := (h.g j hr).2; omega
  · rcases hF j hj with a | a
    · exact h.fs j a hr
    · have := (h.s j hr).2; omega
theorem Ap4.two {b n n' : Nat} {F R R' G S : Nat → Prop} (h : Ap4 b n F R G S) (hb : b ≤ n) (hn : n ≤ n') (hF : ∀ j, R' j → R j ∨ n ≤ j) (hl : ∀ j, R' j → j < n') : Ap4 b n' F R' G S := (h.swap.one hb hn hF hl).swap
theorem Ap4.three {b n n' : Nat} {F R G G' S : Nat → Prop} (h : Ap4 b n F R G S) (hb : b ≤ n) (hn : n ≤ n') (hF : ∀ j, G' j → G j ∨ n ≤ j) (hl : ∀ j, G' j → j < n') : Ap4 b n' F R G' S := (h.turn.two hb hn hF hl).turn.turn.turn
/-- two of them have turned -/
theorem Ap4.both {b n n' : Nat} {F F' R G G' S : Nat → Prop} (h : Ap4 b n F R G S) (hb : b ≤ n) (hn : n ≤ n') (hF : ∀ j, F' j → F j ∨ n ≤ j) (hG : ∀ j, G' j → G j ∨ n ≤ j) (hfg : ∀ j, F' j → ¬ G' j) (hl : ∀ j, F' j → j < n') (hm : ∀ j, G' j → j < n') : Ap4 b n' F' R G' S := by
  have h1 := h.one (F' := F') hb hn hF hl
  have h3 := h.three (G' := G') hb hn hG hm
  exact ⟨h1.f, h1.r, h3.g, h1.s, h1.fr, hfg, h1.fs, h3.rg, h1.rs, h3.gs⟩
structure Q4 (C : CoP) (T : TrP) (w W : World) (g rg gl tg ru rr : Nat) (c d : Cd) (t u : Tm) (F G : Nat → Prop) : Prop where
  co : C W g c F
  rc : RCo W rg gl w.heap.size d
  tr : T W tg t G
  rt : RTr W ru rr u
  ap : Ap4 w.heap.size W.heap.size F (fun j => j = rg ∨ j = gl) G (fun j => j = ru ∨ j = rr)
  below : Below w.heap.size w W
section
variable {C : CoP} {T : TrP} {w W W' : World} {g rg gl tg ru rr : Nat} {c d : Cd} {t u : Tm} {F G : Nat → Prop}
theorem RCo.lt {base : Nat} (h : RCo W rg gl base d) : rg < W.heap.size ∧ gl < W.heap.size ∧ base ≤ gl := h.2.lt (by rw [Cd.out_len]; omega)
theorem Q4.low (h : Q4 C T w W g rg gl tg ru rr c d t u F G) (B : CoB C) (E : TrB T) (hb : Below W.heap.size W W') : Q4 C T w W' g rg gl tg ru rr c d t u F G :=
  ⟨B.below h.co hb, h.rc.below hb, E.below h.tr hb, h.rt.below hb, h.ap.grow hb.size, below_then h.below hb⟩
theorem Q4.prog (h : Q4 C T w W g rg gl tg ru rr c d t u F G) (B : CoB C) (E : TrB T) {c' : Cd} (hp : CoPost C W g c' F W') : ∃ F', Q4 C T w W' g rg gl tg ru rr c' d t u F' G := by
  obtain ⟨F', h1, h2, h3⟩ := hp
  have ap := h.ap
  exact ⟨F', h1, h.rc.only h3 (fun e => ap.fr _ e (.inl rfl)) (fun e => ap.fr _ e (.inr rfl)), E.keep F h.tr h3 (fun j a b => ap.fg j b a), h.rt.only h3 (fun e => ap.fs _ e (.inl rfl)) (fun e => ap.fs _ e (.inr rfl)),
    ap.one h.below.size h3.size h2 (B.lt h1), Only.low h.below h3 (fun j a => (ap.f j a).1)⟩
theorem Q4.ref (h : Q4 C T w W g rg gl tg ru rr c d t u F G) (B : CoB C) (E : TrB T) {d' : Cd} (hp : RCp W rg gl w.heap.size d' W') : ∃ gl', Q4 C T w W' g rg gl' tg ru rr c d' t u F G := by
  obtain ⟨gl', h1, h2, h3⟩ := hp
  have ap := h.ap
  have hl := h1.lt
  exact ⟨gl', B.keep _ h.co h3 (fun j a b => ap.fr j a b), h1, E.keep _ h.tr h3 (fun j a b => ap.rg j b a), h.rt.only h3 (fun e => ap.rs _ e (.inl rfl)) (fun e => ap.rs _ e (.inr rfl)),
    ap.two h.below.size h3.size (fun j e => by
      rcases e with e | e
      · exact .inl (.inl e)
      · rcases h2 with a | a
        · exact .inl (.inr (e.trans a))
        · exact .inr (by omega)) (fun j e => by rcases e with rfl | rfl; exact hl.1; exact hl.2.1), Only.low h.below h3 (fun j a => (ap.r j a).1)⟩
theorem Q4.ptree (h : Q4 C T w W g rg gl tg ru rr c d t u F G) (B : CoB C) (E : TrB T) {c' : Cd} {t' : Tm} {F' G' : Nat → Prop} (h1 : C W' g c' F') (h2 : T W' tg t' G') (h3 : ∀ j, F' j → F j ∨ W.heap.size ≤ j) (h4 : ∀ j, G' j → G j ∨ W.heap.size ≤ j) (h5 : ∀ j, F' j → ¬ G' j) (h6 : Only (fun j => F j ∨ G j) W W') :
    Q4 C T w W' g rg gl tg ru rr c' d t' u F' G' := by
  have ap := h.ap
  exact ⟨h1, h.rc.only h6 (fun e => by rcases e with e | e; exact ap.fr _ e (.inl rfl); exact ap.rg _ (.inl rfl) e) (fun e => by rcases e with e | e; exact ap.fr _ e (.inr rfl); exact ap.rg _ (.inr rfl) e), h2,
    h.rt.only h6 (fun e => by rcases e with e | e; exact ap.fs _ e (.inl rfl); exact ap.gs _ e (.inl rfl)) (fun e => by rcases e with e | e; exact ap.fs _ e (.inr rfl); exact ap.gs _ e (.inr rfl)),
    ap.both h.below.size h6.size h3 h4 h5 (B.lt h1) (E.lt h2), Only.low h.below h6 (fun j a => by rcases a with a | a; exact (ap.f j a).1; exact (ap.g j a).1)⟩
theorem Q4.rtree (h : Q4 C T w W g rg gl tg ru rr c d t u F G) (B : CoB C) (E : TrB T) {d' : Cd} {u' : Tm} {gl' : Nat} (h1 : RCo W' rg gl' w.heap.size d') (h2 : RTr W' ru rr u') (h3 : gl' = gl ∨ W.heap.size ≤ gl') (h4 : Only (fun j => j = rg ∨ j = gl ∨ j = rr) W W') :
    Q4 C T w W' g rg gl' tg ru rr c d' t u' F G := by
  have ap := h.ap
  have hl := h1.lt
  exact ⟨B.keep _ h.co h4 (fun j a b => by rcases b with b | b | b; exact ap.fr j a (.inl b); exact ap.fr j a (.inr b); exact ap.fs j a (.inr b)), h1, E.keep _ h.tr h4 (fun j a b => by rcases b with b | b | b; exact ap.rg j (.inl b) a; exact ap.rg j (.inr b) a; exact ap.gs j a (.inr b)), h2,
    ap.two h.below.size h4.size (fun j e => by
      rcases e with e | e
      · exact .inl (.inl e)
      · rcases h3 with a | a
        · exact .inl (.inr (e.trans a))
        · exact .inr (by omega)) (fun j e => by rcases e with rfl | rfl; exact hl.1; exact hl.2.1), Only.low h.below h4 (fun j a => by rcases a with a | a | a; exact (ap.r j (.inl a)).1; exact (ap.r j (.inr a)).1; exact (ap.s j (.inr a)).1)⟩
end
end Go.Proofs.Ytlbkpmcccipfhaa

