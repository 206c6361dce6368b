/- A cursor in plain states: its numbers; the same over the program's flash and the reference's. -/
import Derived.Test.YtcpkmhhlcmnfdaaCu5
namespace Go.Proofs.Ytcpkmhhlcmnfdaa
open Go.RowKit
set_option linter.unusedVariables false
set_option maxRecDepth 100000

/-- what a call does to the numbers -/
structure CN (d d' : Dl) (k : Int) : Prop where
  ok : DlOk d'
  steps : d'.steps ≤ d.steps + k
  len : d'.worn.length = d.worn.length
  worn : ∀ M : Int, (∀ x ∈ d.worn, x ≤ M) → ∀ x ∈ d'.worn, x ≤ M + k
/-- there is room for k more -/
structure Room (d : Dl) (k : Int) : Prop where
  ok : DlOk d
  steps : d.steps + k ≤ 1152921504606846976
  worn : ∀ x ∈ d.worn, x + k ≤ 1152921504606846976
theorem CN.refl {d : Dl} (ok : DlOk d) : CN d d 0 := ⟨ok, by omega, rfl, fun M hM x hx => by have := hM x hx; omega⟩
theorem CN.more {d d' : Dl} {k n : Int} (h : CN d d' k) (hn : k ≤ n) : CN d d' n := ⟨h.ok, by have := h.steps; omega, h.len, fun M hM x hx => by have := h.worn M hM x hx; omega⟩
theorem CN.trans {d d1 d2 : Dl} {k n : Int} (h : CN d d1 k) (g : CN d1 d2 n) : CN d d2 (k + n) :=
  ⟨g.ok, by have := h.steps; have := g.steps; omega, g.len.trans h.len, fun M hM x hx => by have := g.worn (M + k) (h.worn M hM) x hx; omega⟩
theorem Room.after {d d' : Dl} {k n : Int} (h : Room d (k + n)) (g : CN d d' k) : Room d' n :=
  ⟨g.ok, by have := h.steps; have := g.steps; omega, fun x hx => by
    have := g.worn (1152921504606846976 - (k + n)) (fun y hy => by have := h.worn y hy; omega) x hx
    omega⟩
theorem Room.less {d : Dl} {k n : Int} (h : Room d k) (hn : n ≤ k) : Room d n := ⟨h.ok, by have := h.steps; omega, fun x hx => by have := h.worn x hx; omega⟩
theorem NumFact.cn {d d' : Dl} {s : Int} (h : NumFact d d' s) {k : Int} (h1 : s ≤ k) (h2 : 1 ≤ k) : CN d d' k := ⟨h.ok, by have := h.steps; omega, h.len, fun M hM x hx => by have := h.worn M hM x hx; omega⟩

section
variable {a c : Nat}
theorem prep_cn {x : Cp Dl} (r : Room x.d 1) (s : Nat) : CN x.d (cprep (devOps a c) x s).2.d 1 := by
  have he : CN x.d (dgErase x.d a c (s : Int)).2 1 := (dgErase_num x.d r.ok a c _ (by have := r.steps; omega) (fun y hy => by have := r.worn y hy; omega)).cn (by omega) (by omega)
  have h0 : CN x.d x.d 1 := (CN.refl r.ok).more (by omega)
  unfold cprep
  split
  · exact h0
  · split
    · exact h0
    · split
      · exact h0
      · split
        · exact he
        · exact he
theorem enter_cn {x : Cp Dl} (r : Room x.d 2) (s : Nat) : CN x.d (center (devOps a c) x s).2.d 2 := by
  have h1 := prep_cn (a := a) (c := c) (r.less (by omega)) s
  have h2 := prep_cn (a := a) (c := c) (x := (cprep (devOps a c) x s).2) (Room.after (k := 1) (n := 1) r h1) (s + 1)
  unfold center
  split
  · exact (CN.refl r.ok).more (by omega)
  · split
    · exact h1.more (by omega)
    · unfold centers
      split
      · exact h1.trans h2
      · exact h1.trans h2
theorem word_cn {x : Cp Dl} (r : Room x.d 10) (ws : Nat) {m : List UInt8} (hm : m.length = 8) : CN x.d (cword (devOps a c) x ws m).2.d 10 := by
  have h1 := enter_cn (a := a) (c := c) (r.less (by omega)) (ws / 1024)
  have r1 := Room.after (k := 2) (n := 8) r h1
  have h2 : CN (center (devOps a c) x (ws / 1024)).2.d (dgProg (center (devOps a c) x (ws / 1024)).2.d a c (ws : Int) m).2 8 := (dgProg_num _ r1.ok a c _ m (by have := r1.steps; omega)).cn (by omega) (by omega)
  unfold cword cprog
  split
  · exact h1.more (by omega)
  · exact h1.trans h2
theorem push_cn {u : Cu Dl} (r : Room u.x.d 10) (b : UInt8) : CN u.x.d (cpush (devOps a c) u b).x.d 10 := by
  unfold cpush
  split
  · exact (CN.refl r.ok).more (by omega)
  · split
    · exact word_cn r _ (by assumption)
    · exact (CN.refl r.ok).more (by omega)
theorem pushes_cn : ∀ (l : List UInt8) {u : Cu Dl}, Room u.x.d (10 * (l.length : Int)) → CN u.x.d (cpushes (devOps a c) u l).x.d (10 * (l.length : Int))
  | [], u, r => CN.refl r.ok
  | b :: l, u, r => by
    rw [List.length_cons] at r ⊢
    have h1 := push_cn (a := a) (c := c) (u := u) (r.less (by omega)) b
    have h2 := pushes_cn l (u := cpush (devOps a c) u b) (Room.after (k := 10) (by have e : (10 : Int) * ((l.length + 1 : Nat) : Int) = 10 + 10 * (l.length : Int) := by omega
                                                                                   rw [e] at r; exact r) h1)
    rw [cpushes_cons]
    exact (h1.trans h2).more (by omega)
theorem write_cn {u : Cu Dl} (l : List UInt8) (r : Room u.x.d (10 * (l.length : Int))) : CN u.x.d (cwrite (devOps a c) u l).2.x.d (10 * (l.length : Int)) := by
  unfold cwrite
  split
  · exact (CN.refl r.ok).more (by omega)
  · split
    · exact (CN.refl r.ok).more (by omega)
    · exact pushes_cn l r
theorem flush_cn {u : Cu Dl} (r : Room u.x.d 10) (hh : u.held.length ≤ 8) : CN u.x.d (cflush (devOps a c) u).2.x.d 10 := by
  unfold cflush
  split
  · exact word_cn r _ (cpad_len hh)
  · exact (CN.refl r.ok).more (by omega)
theorem push_held {D : Type} (O : COps D) {u : Cu D} (h : u.held.length ≤ 8) (h2 : u.dead = 0 → u.held.length < 8) (b : UInt8) : (cpush O u b).held.length ≤ 8 ∧ ((cpush O u b).dead = 0 → (cpush O u b).held.length < 8) := by
  unfold cpush
  split
  · exact ⟨h, h2⟩
  · rename_i hd
    have hd0 : u.dead = 0 := by omega
    have := h2 hd0
    split
    · rename_i h8
      unfold cput
      dsimp only
      refine ⟨?_, fun q => ?_⟩
      · split
        · simp
        · omega
      · rw [if_pos q]; simp
    · rename_i h8
      have e : (u.held ++ [b]).length = u.held.length + 1 := by simp
      dsimp only
      omega
theorem pushes_held {D : Type} (O : COps D) : ∀ (l : List UInt8) {u : Cu D}, u.held.length ≤ 8 → (u.dead = 0 → u.held.length < 8) → (cpushes O u l).held.length ≤ 8 ∧ ((cpushes O u l).dead = 0 → (cpushes O u l).held.length < 8)
  | [], u, h, h2 => ⟨h, h2⟩
  | b :: l, u, h, h2 => by
    obtain ⟨q1, q2⟩ := push_held O h h2 b
    rw [cpushes_cons]
    exact pushes_held O l q1 q2
end

/-- the two alike -/
structure SC (x : Cp Dl) (y : Cp Fl) : Prop where
  sim : Sim x.d y.d
  rok : FlOk y.d
  hi : x.hi = y.hi
  ent : x.ent = y.ent
section
variable {a c : Nat}
theorem prep_sc {x : Cp Dl} {y : Cp Fl} (h : SC x y) (r : Room x.d 1) (s : Nat) : (cprep (devOps a c) x s).1 = (cprep (refOps a c) y s).1 ∧ SC (cprep (devOps a c) x s).2 (cprep (refOps a c) y s).2 := by
  have hst := r.steps
  have hfs : y.d.steps = x.d.steps := h.sim.steps.symm
  have hb : (refOps a c).blank y.d (s : Int) = (devOps a c).blank x.d (s : Int) := (sim3_blank h.sim a c _).symm
  obtain ⟨e1, e2⟩ := sim3_erase h.sim r.ok h.rok a c (s : Int) (by omega)
  have e3 := rgErase_ok y.d h.rok a c (s : Int) (by omega) (fun z hz => by rw [← h.sim.worn] at hz; have := r.worn z hz; omega)
  have he1 : (refOps a c).erase y.d (s : Int) = rgErase y.d a c (s : Int) := rfl
  have he2 : (devOps a c).erase x.d (s : Int) = dgErase x.d a c (s : Int) := rfl
  have hc : (refOps a c).c = (devOps a c).c := rfl
  unfold cprep
  rw [hb, hc, ← h.hi, ← h.ent, he1, he2, ← e1]
  split
  · exact ⟨rfl, h⟩
  · split
    · exact ⟨rfl, h⟩
    · split
      · exact ⟨rfl, h.sim, h.rok, rfl, rfl⟩
      · split
        · exact ⟨rfl, e2, e3, rfl, rfl⟩
        · exact ⟨rfl, e2, e3, rfl, rfl⟩
theorem enter_sc {x : Cp Dl} {y : Cp Fl} (h : SC x y) (r : Room x.d 2) (s : Nat) : (center (devOps a c) x s).1 = (center (refOps a c) y s).1 ∧ SC (center (devOps a c) x s).2 (center (refOps a c) y s).2 := by
  obtain ⟨p1, p2⟩ := prep_sc (a := a) (c := c) h (r.less (by omega)) s
  have n1 := prep_cn (a := a) (c := c) (r.less (by omega)) s
  obtain ⟨q1, q2⟩ := prep_sc (a := a) (c := c) p2 (Room.after (k := 1) (n := 1) r n1) (s + 1)
  unfold center
  rw [← h.ent, ← p1]
  split
  · exact ⟨rfl, h⟩
  · split
    · exact ⟨p1, p2⟩
    · unfold centers
      rw [← q1]
      split
      · exact ⟨q1, q2⟩
      · exact ⟨rfl, q2.sim, q2.rok, q2.hi, rfl⟩
theorem word_sc {x : Cp Dl} {y : Cp Fl} (h : SC x y) (r : Room x.d 10) (ws : Nat) {m : List UInt8} (hm : m.length = 8) : (cword (devOps a c) x ws m).1 = (cword (refOps a c) y ws m).1 ∧ SC (cword (devOps a c) x ws m).2 (cword (refOps a c) y ws m).2 := by
  obtain ⟨p1, p2⟩ := enter_sc (a := a) (c := c) h (r.less (by omega)) (ws / 1024)
  have n1 := enter_cn (a := a) (c := c) (r.less (by omega)) (ws / 1024)
  have r1 := Room.after (k := 2) (n := 8) r n1
  have hst := r1.steps
  have hfs : (center (refOps a c) y (ws / 1024)).2.d.steps = (center (devOps a c) x (ws / 1024)).2.d.steps := p2.sim.steps.symm
  obtain ⟨q1, q2⟩ := sim3_prog p2.sim r1.ok p2.rok a c (ws : Int) m (by omega)
  have q3 := rgProg_ok _ p2.rok a c (ws : Int) m (by omega)
  unfold cword cprog
  rw [← p1]
  split
  · exact ⟨p1, p2⟩
  · exact ⟨q1, q2, q3, p2.hi, p2.ent⟩

structure SU (u : Cu Dl) (v : Cu Fl) : Prop where
  sc : SC u.x v.x
  at_ : u.at_ = v.at_
  held : u.held = v.held
  dead : u.dead = v.dead
theorem push_su {u : Cu Dl} {v : Cu Fl} (h : SU u v) (r : Room u.x.d 10) (b : UInt8) : SU (cpush (devOps a c) u b) (cpush (refOps a c) v b) := by
  unfold cpush
  rw [← h.at_, ← h.held, ← h.dead]
  split
  · exact h
  · split
    · rename_i h8
      obtain ⟨q1, q2⟩ := word_sc (a := a) (c := c) h.sc r (u.at_ + 1 - 8) h8
      unfold cput
      exact ⟨q2, rfl, by dsimp only; rw [q1], q1⟩
    · exact ⟨h.sc, rfl, rfl, rfl⟩
theorem pushes_su : ∀ (l : List UInt8) {u : Cu Dl} {v : Cu Fl}, SU u v → Room u.x.d (10 * (l.length : Int)) → SU (cpushes (devOps a c) u l) (cpushes (refOps a c) v l)
  | [], u, v, h, _ => h
  | b :: l, u, v, h, r => by
    rw [List.length_cons] at r
    have h1 := push_cn (a := a) (c := c) (u := u) (r.less (by omega)) b
    have e : (10 : Int) * ((l.length + 1 : Nat) : Int) = 10 + 10 * (l.length : Int) := by omega
    rw [e] at r
    rw [cpushes_cons, cpushes_cons]
    exact pushes_su l (push_su h (r.less (by omega)) b) (Room.after (k := 10) r h1)
theorem write_su {u : Cu Dl} {v : Cu Fl} (h : SU u v) (l : List UInt8) (r : Room u.x.d (10 * (l.length : Int))) : (cwrite (devOps a c) u l).1 = (cwrite (refOps a c) v l).1 ∧ SU (cwrite (devOps a c) u l).2 (cwrite (refOps a c) v l).2 := by
  have hp := pushes_su (a := a) (c := c) l h r
  have hc : (refOps a c).c = (devOps a c).c := rfl
  unfold cwrite
  rw [← h.dead, ← h.at_, hc]
  split
  · exact ⟨rfl, h⟩
  · split
    · exact ⟨rfl, h⟩
    · exact ⟨hp.dead, hp⟩
theorem flush_su {u : Cu Dl} {v : Cu Fl} (h : SU u v) (r : Room u.x.d 10) (hh : u.held.length ≤ 8) : (cflush (devOps a c) u).1 = (cflush (refOps a c) v).1 ∧ SU (cflush (devOps a c) u).2 (cflush (refOps a c) v).2 := by
  unfold cflush
  rw [← h.dead, ← h.at_, ← h.held]
  split
  · obtain ⟨q1, q2⟩ := word_sc (a := a) (c := c) h.sc r (u.at_ - u.held.length) (cpad_len hh)
    unfold cflushed
    exact ⟨q1, q2, rfl, rfl, q1⟩
  · exact ⟨rfl, h⟩
end
end Go.Proofs.Ytcpkmhhlcmnfdaa

