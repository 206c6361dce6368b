/- The contract of the reference's Program. The contract of the reference's Program, whatever is asked. The contract of the reference's Copy. The program's flash and the reference's, in plain states: alike, step by step. -/
import Derived.Test.YtbkcglfdliicpaaGrfl
import Derived.Test.YtbkcglfdliicpaaGref
import Derived.Test.YtbkcglfdliicpaaGdfl
namespace Go.Proofs.Ytbkcglfdliicpaa
open Go.RowKit
set_option linter.unusedVariables false
set_option maxRecDepth 100000

/-- one word -/
def rwordOf (d : Fl) (a : Nat) (m : List UInt8) : Int × Fl :=
  match stepOf d with
  | (true, f) => (5, ⟨laid f.b a (tornB (cut f.b a 8) m f.pick), f.worn, f.steps, f.left, [], f.dark⟩)
  | (false, f) => (0, withB f (laid f.b a m))
def rprogTo (d : Fl) (a : Nat) (m : List UInt8) : Nat → Int × Fl
  | 0 => (0, d)
  | k + 1 => if (rprogTo d a m k).1 = 0 then rwordOf (rprogTo d a m k).2 (a + 8 * k) (cut m (8 * k) 8) else rprogTo d a m k
def rprogOf (d : Fl) (s : Int) (m : List UInt8) : Int × Fl :=
  if d.dark then (5, d) else if ¬ (0 ≤ s ∧ s + m.length ≤ d.b.length) then (2, d) else if s.toNat % 8 ≠ 0 ∨ m.length % 8 ≠ 0 then (3, d)
  else if canB (cut d.b s.toNat m.length) m = false then (4, d) else rprogTo d s.toNat m (m.length / 8)

theorem stepOf_num (d : Fl) (ok : FlOk d) (h : d.steps + 1 ≤ 4611686018427387904) : FlOk (stepOf d).2 ∧ (stepOf d).2.steps = d.steps + 1 := by
  unfold stepOf
  have := ok.s0
  have := ok.l0
  have := ok.l1
  split
  · exact ⟨⟨ok.len, ok.few, ok.worn, by simp; omega, h, ok.l0, ok.l1, ok.p⟩, rfl⟩
  · split
    · exact ⟨⟨ok.len, ok.few, ok.worn, by simp; omega, h, by simp; omega, by simp; omega, ok.p⟩, rfl⟩
    · exact ⟨⟨ok.len, ok.few, ok.worn, by simp; omega, h, by simp; omega, by simp; omega, ok.p⟩, rfl⟩
theorem FlOk.withB {d : Fl} (ok : FlOk d) {b : List UInt8} (h : b.length = d.b.length) : FlOk (Ytbkcglfdliicpaa.withB d b) := ⟨h.trans ok.len, ok.few, ok.worn, ok.s0, ok.s1, ok.l0, ok.l1, ok.p⟩

structure RWordFact (d : Fl) (a : Nat) (r : Int × Fl) : Prop where
  ok : FlOk r.2
  steps : r.2.steps = d.steps + 1
  worn : r.2.worn = d.worn
  len : r.2.b.length = d.b.length
  rest : ∀ i, i < d.b.length → (i < a ∨ a + 8 ≤ i) → r.2.b.getD i 0 = d.b.getD i 0
  code : r.1 = 0 ∨ r.1 = 5
theorem rwordOf_fact (d : Fl) (ok : FlOk d) (h : d.steps + 1 ≤ 4611686018427387904) (a : Nat) (m : List UInt8) (hm : m.length = 8) : RWordFact d a (rwordOf d a m) := by
  obtain ⟨h1, h2⟩ := stepOf_num d ok h
  obtain ⟨e1, e2, e3⟩ := stepOf_b d
  unfold rwordOf
  obtain ⟨t, f, hf⟩ : ∃ t f, stepOf d = (t, f) := ⟨_, _, rfl⟩
  rw [hf] at h1 h2 e1 e2 ⊢
  simp only at h1 h2 e1 e2
  cases t with
  | false => exact ⟨h1.withB (laid_len _ _ _), h2, e2, by show (laid _ _ _).length = _; rw [laid_len, e1], fun i hi ho => by
      show (laid f.b a m).getD i 0 = _
      rw [laid_get (by rw [e1]; exact hi), if_neg (by rw [hm]; omega), e1], .inl rfl⟩
  | true => exact ⟨⟨(laid_len _ _ _).trans h1.len, h1.few, h1.worn, h1.s0, h1.s1, h1.l0, h1.l1, by simp⟩, h2, e2, by show (laid _ _ _).length = _; rw [laid_len, e1], fun i hi ho => by
      show (laid f.b a _).getD i 0 = _
      rw [laid_get (by rw [e1]; exact hi), if_neg (by rw [tornB_len, hm]; omega), e1], .inr rfl⟩

structure RProgFact (d : Fl) (a k : Nat) (r : Int × Fl) : Prop where
  ok : FlOk r.2
  steps : r.2.steps ≤ d.steps + k
  worn : r.2.worn = d.worn
  len : r.2.b.length = d.b.length
  rest : ∀ i, i < d.b.length → (i < a ∨ a + 8 * k ≤ i) → r.2.b.getD i 0 = d.b.getD i 0
  code : r.1 = 0 ∨ r.1 = 5
theorem rprogTo_fact (d : Fl) (ok : FlOk d) (a : Nat) (m : List UInt8) (n : Nat) (hm : 8 * n ≤ m.length) (h : d.steps + n ≤ 4611686018427387904) : ∀ k, k ≤ n → RProgFact d a k (rprogTo d a m k)
  | 0, _ => ⟨ok, by simp [rprogTo], rfl, rfl, fun _ _ _ => rfl, .inl rfl⟩
  | k + 1, hk => by
    have ih := rprogTo_fact d ok a m n hm h k (by omega)
    unfold rprogTo
    by_cases h0 : (rprogTo d a m k).1 = 0
    · rw [if_pos h0]
      have hs := ih.steps
      have w := rwordOf_fact (rprogTo d a m k).2 ih.ok (by omega) (a + 8 * k) (cut m (8 * k) 8) (cut_len (by omega))
      exact ⟨w.ok, by rw [w.steps]; omega, by rw [w.worn, ih.worn], by rw [w.len, ih.len], fun i hi ho => by rw [w.rest i (by rw [ih.len]; exact hi) (by omega), ih.rest i hi (by omega)], w.code⟩
    · rw [if_neg h0]
      exact ⟨ih.ok, by have := ih.steps; omega, ih.worn, ih.len, fun i hi ho => ih.rest i hi (by omega), ih.code⟩
theorem rprogTo_stop {d : Fl} {a : Nat} {m : List UInt8} {k : Nat} (h : (rprogTo d a m k).1 ≠ 0) : ∀ n, k ≤ n → rprogTo d a m n = rprogTo d a m k := by
  intro n hn
  induction n with
  | zero => obtain rfl : k = 0 := by omega
            rfl
  | succ n ih =>
    by_cases e : k = n + 1
    · rw [e]
    · have := ih (by omega)
      rw [rprogTo, if_neg (by rw [this]; exact h), this]

end Go.Proofs.Ytbkcglfdliicpaa

namespace Go.Proofs.Ytbkcglfdliicpaa
open Go.RowKit
set_option linter.unusedVariables false
set_option maxRecDepth 100000

end Go.Proofs.Ytbkcglfdliicpaa

namespace Go.Proofs.Ytbkcglfdliicpaa
open Go.RowKit
set_option linter.unusedVariables false
set_option maxRecDepth 100000

theorem Ob.lt {E : TypeId} {w : World} {base : Nat} {A : Option Addr} {n c : Nat} {l : List UInt8} (h : Ob E w base (.slice A n c) l) : ∀ k, At A k → k < w.heap.size := by
  obtain ⟨A', c', e, -, hf⟩ := h.form
  injection e with e1
  subst e1
  rintro k ⟨a, rfl, rfl⟩
  rcases hf with hf | ⟨g', hf, -, hlt⟩
  · cases hf
  · injection hf with hf; subst hf; exact hlt

/-- a slice value that owns integers -/
def Wv (w : World) (base : Nat) (v : Value) (l : List Int) : Prop := w.ownsRow base 3 1 v l.length (l.map (Value.int .i64))

theorem Wv.below {w w' : World} {base : Nat} {v : Value} {l : List Int} (h : Wv w base v l) (hb : Below w.heap.size w w') : Wv w' base v l := by
  refine ⟨h.1, ?_⟩
  rcases h.2 with hn | ⟨g, cap, cur, rfl, hb', hg, rest⟩
  · exact .inl hn
  · refine .inr ⟨g, cap, cur, rfl, hb', ?_, rest⟩
    rw [hb.block g (Array.getElem?_eq_some_iff.1 hg).1]
    exact hg
theorem Wv.form {w : World} {base : Nat} {v : Value} {l : List Int} (h : Wv w base v l) (hpos : 0 < l.length) : ∃ g c, v = .slice (some ⟨g, 0, none⟩) l.length c ∧ base ≤ g ∧ Wb w g c l := by
  rcases h.2 with ⟨_, h0⟩ | ⟨g, cap, cur, rfl, hb', hg, rest⟩
  · omega
  · exact ⟨g, cap, rfl, hb', h.1, .inr ⟨g, cap, cur, rfl, Nat.zero_le _, hg, rest⟩⟩

/-- append of integers that lie in a row to no integers -/
theorem step_append_ws {P : Program} {ops : Array Oper} {o : Oper} {a : Act} {w : World} {K : Act → World → Prop} {Q : Exit → Act → World → Prop} {F : Prop} (hgd : o.guard = none) (s x : Operand) (t : TypeId)
    (ho : o.op = .call { callee := .builtin .append, args := #[s, x], argTypes := #[t, t] }) (base : Nat) (ht : P.underlying t = some (.slice 3))
    (he : (P.info? 3).map (fun i => (i.zero, i.size, i.bytes)) = some (some (.int .i64 0), 1, 8))
    (hs : a.eval s = .slice none 0 0) (g c : Nat) (l : List Int) (hx : a.eval x = .slice (some ⟨g, 0, none⟩) l.length c) (hm : Wb w g c l)
    (hlen : l.length ≤ 2147483648) (hbase : base ≤ w.heap.size)
    (h : ∀ v' w', Wv w' base v' l → w.grownBy w' none → K (a.put o.dst v') w') : if Region.wanted o (yielded ops a.tmps) = true then Oper.wp P o a w K Q else F := by
  have hw : Region.wanted o (yielded ops a.tmps) = true := by simp [Region.wanted, hgd]
  rw [if_pos hw]
  obtain ⟨i0, hi, hz0, hz1, hz2⟩ := info_parts he
  obtain ⟨v', w', hrun, h2, h3, _⟩ := run_append_own (P := P) w base t o.type 3 i0 (.int .i64 0) 1 8 ht hi hz0 hz1 hz2 rfl (by decide) (.slice none 0 0) 0 [] (World.ownsRow_nil w base 3 1) ⟨g, 0, none⟩ l.length c (l.map (Value.int .i64)) (by simp)
      (fun j u hj => by
        have hjl : j < l.length := by
          rcases Nat.lt_or_ge j l.length with h | h
          · exact h
          · rw [List.getElem?_eq_none (by simpa using h)] at hj; cases hj
        have hadd : (⟨g, 0, none⟩ : Addr).add j = ⟨g, j, none⟩ := by unfold Addr.add; split <;> simp_all
        rw [hadd, hm.at_ hjl]
        rw [List.getElem?_map, List.getElem?_eq_getElem hjl] at hj
        simp at hj
        subst hj
        simp [List.getD, List.getElem?_eq_getElem hjl]) (fun u hu => by obtain ⟨x, _, rfl⟩ := List.mem_map.1 hu; rfl) (by unfold maxLen; omega) (by omega) hbase
  unfold Oper.wp execOp
  simp only [ho, resolve, invoke, builtin, Sem.run_bind, Sem.run_pure, Result.andThen_ok, List.map_toArray, List.map_cons, List.map_nil, hs, hx, hrun]
  refine h v' w' ?_ h3
  have e : 0 + l.length = l.length := Nat.zero_add _
  rw [e, List.nil_append] at h2
  exact h2

end Go.Proofs.Ytbkcglfdliicpaa

namespace Go.Proofs.Ytbkcglfdliicpaa
open Go.RowKit
set_option linter.unusedVariables false
set_option maxRecDepth 100000

structure Sim (d : Dl) (f : Fl) : Prop where
  b : d.b = f.b
  worn : d.worn = f.worn
  steps : d.steps = f.steps
  off : d.off = f.dark
  arm : (d.armed = false ∧ f.left < 0) ∨ (d.armed = true ∧ 0 ≤ f.left ∧ d.pick = f.pick.take 1024 ∧ (d.after = f.left ∨ (4611686018427387904 - f.steps ≤ d.after ∧ 4611686018427387904 - f.steps ≤ f.left)))

theorem take_get {l : List UInt8} {k i : Nat} (h : i < k) : (l.take k).getD i 0 = l.getD i 0 := by
  simp only [List.getD, List.getElem?_take, if_pos h]
theorem tornB_take {l m p : List UInt8} (h : m.length ≤ 1024) : tornB l m (p.take 1024) = tornB l m p := by
  unfold tornB
  apply List.map_congr_left
  intro i hi
  rw [take_get (by have := List.mem_range.1 hi; omega)]
theorem halfB_take {l p : List UInt8} (h : l.length ≤ 1024) : halfB l (p.take 1024) = halfB l p := by
  unfold halfB
  apply List.map_congr_left
  intro i hi
  rw [take_get (by have := List.mem_range.1 hi; omega)]

theorem dstepOf_calm' (d : Dl) (h : d.armed = false) : dstepOf d = (none, ⟨d.b, d.worn, d.steps + 1, d.off, d.armed, d.after, d.pick⟩) := by
  unfold dstepOf
  rw [h]
  rfl
/-- a step of both -/
structure StepSim (d : Dl) (f : Fl) : Prop where
  broke : (dstepOf d).1.isSome = (stepOf f).1
  sim : Sim (dstepOf d).2 (stepOf f).2
  pick : ∀ p, (dstepOf d).1 = some p → p = (stepOf f).2.pick.take 1024
  light : (stepOf f).1 = false → (stepOf f).2.dark = false
theorem sim_step {d : Dl} {f : Fl} (s : Sim d f) (hd : f.dark = false) (ha : 0 ≤ d.after) (hs : f.steps < 4611686018427387904) : StepSim d f := by
  rcases s.arm with ⟨h1, h2⟩ | ⟨h1, h2, h3, h4⟩
  · have e1 : dstepOf d = (none, ⟨d.b, d.worn, d.steps + 1, d.off, d.armed, d.after, d.pick⟩) := dstepOf_calm' d h1
    have e2 : stepOf f = (false, ⟨f.b, f.worn, f.steps + 1, f.left, f.pick, f.dark⟩) := by unfold stepOf; rw [if_pos h2]
    refine ⟨by rw [e1, e2]; rfl, ?_, fun p hp => (by rw [e1] at hp; cases hp), fun _ => by rw [e2]; exact hd⟩
    rw [e1, e2]
    exact ⟨s.b, s.worn, by show d.steps + 1 = f.steps + 1; rw [s.steps], s.off, .inl ⟨h1, h2⟩⟩
  · by_cases h0 : 0 < d.after
    · have e1 : dstepOf d = (none, ⟨d.b, d.worn, d.steps + 1, d.off, d.armed, d.after - 1, d.pick⟩) := by unfold dstepOf; rw [h1]; simp only [if_true]; rw [if_pos h0]
      have e2 : stepOf f = (f.dark, ⟨f.b, f.worn, f.steps + 1, f.left - 1, f.pick, f.dark⟩) := by unfold stepOf; rw [if_neg (by omega), if_neg (by omega)]
      refine ⟨by rw [e1, e2, hd]; rfl, ?_, fun p hp => (by rw [e1] at hp; cases hp), fun _ => by rw [e2]; exact hd⟩
      rw [e1, e2]
      refine ⟨s.b, s.worn, by show d.steps + 1 = f.steps + 1; rw [s.steps], s.off, .inr ⟨h1, by show 0 ≤ f.left - 1; omega, h3, ?_⟩⟩
      show d.after - 1 = f.left - 1 ∨ (4611686018427387904 - (f.steps + 1) ≤ d.after - 1 ∧ 4611686018427387904 - (f.steps + 1) ≤ f.left - 1)
      omega
    · have e1 : dstepOf d = (some d.pick, ⟨d.b, d.worn, d.steps + 1, true, false, 0, []⟩) := by unfold dstepOf; rw [h1]; simp only [if_true]; rw [if_neg h0]
      have e2 : stepOf f = (true, ⟨f.b, f.worn, f.steps + 1, f.left - 1, f.pick, true⟩) := by unfold stepOf; rw [if_neg (by omega), if_pos (by omega)]
      refine ⟨by rw [e1, e2]; rfl, ?_, fun p hp => ?_, fun h => by rw [e2] at h; cases h⟩
      · rw [e1, e2]
        exact ⟨s.b, s.worn, by show d.steps + 1 = f.steps + 1; rw [s.steps], rfl, .inl ⟨rfl, by show f.left - 1 < 0; omega⟩⟩
      · rw [e1] at hp
        injection hp with hp
        rw [e2, ← hp, h3]

theorem Sim.withB {d : Dl} {f : Fl} (s : Sim d f) {b b' : List UInt8} (h : b = b') : Sim (dwithB d b) (Ytbkcglfdliicpaa.withB f b') := ⟨h, s.worn, s.steps, s.off, s.arm⟩
/-- .. with the pick thrown away -/
theorem Sim.spent {d : Dl} {f : Fl} (s : Sim d f) (ha : d.armed = false) {b b' : List UInt8} (h : b = b') : Sim (dwithB d b) ⟨b', f.worn, f.steps, f.left, [], f.dark⟩ :=
  ⟨h, s.worn, s.steps, s.off, by
    rcases s.arm with h | ⟨h, -⟩
    · exact .inl h
    · rw [ha] at h; cases h⟩

theorem broke_calm {d : Dl} {p : List UInt8} {f : Dl} (h : dstepOf d = (some p, f)) : f.armed = false := by
  unfold dstepOf at h
  split at h
  · split at h
    · simp at h
    · simp at h
      rw [← h.2]
  · simp at h

theorem sim_word {d : Dl} {f : Fl} (s : Sim d f) (hd : f.dark = false) (ha : 0 ≤ d.after) (hs : f.steps < 4611686018427387904) (a : Nat) (m : List UInt8) (hm : m.length = 8) :
    (dwordOf d a m).1 = (rwordOf f a m).1 ∧ Sim (dwordOf d a m).2 (rwordOf f a m).2 ∧ ((rwordOf f a m).1 = 0 → (rwordOf f a m).2.dark = false) := by
  have st := sim_step s hd ha hs
  unfold dwordOf rwordOf
  obtain ⟨t, d2, h1⟩ : ∃ t d2, dstepOf d = (t, d2) := ⟨_, _, rfl⟩
  obtain ⟨t', f2, h2⟩ : ∃ t f2, stepOf f = (t, f2) := ⟨_, _, rfl⟩
  obtain ⟨b1, b2, b3, b4⟩ := st
  rw [h1] at b1 b2 b3
  rw [h2] at b1 b2 b3 b4
  simp only at b1 b2 b3 b4
  rw [h1, h2]
  cases t with
  | none =>
    have : t' = false := by simpa using b1.symm
    subst this
    exact ⟨rfl, b2.withB (by rw [b2.b]), fun _ => b4 rfl⟩
  | some p =>
    have : t' = true := by simpa using b1.symm
    subst this
    have hp := b3 p rfl
    refine ⟨rfl, b2.spent (broke_calm h1) ?_, fun h => by cases h⟩
    rw [hp, tornB_take (by omega), b2.b]

theorem sim_progTo {d : Dl} {f : Fl} (s : Sim d f) (ok : DlOk d) (rok : FlOk f) (hd : f.dark = false) (a : Nat) (m : List UInt8) (n : Nat) (hm : 8 * n ≤ m.length) (hs : f.steps + n < 4611686018427387904) : ∀ k, k ≤ n →
    (dprogTo d a m k).1 = (rprogTo f a m k).1 ∧ Sim (dprogTo d a m k).2 (rprogTo f a m k).2 ∧ ((rprogTo f a m k).1 = 0 → (rprogTo f a m k).2.dark = false)
  | 0, _ => ⟨rfl, s, fun _ => hd⟩
  | k + 1, hk => by
    obtain ⟨h1, h2, h3⟩ := sim_progTo s ok rok hd a m n hm hs k (by omega)
    have f1 := dprogTo_fact d ok a m n hm (by rw [s.steps]; omega) k (by omega)
    have f2 := rprogTo_fact f rok a m n hm (by omega) k (by omega)
    unfold dprogTo rprogTo
    by_cases h0 : (rprogTo f a m k).1 = 0
    · rw [if_pos (by rw [h1]; exact h0), if_pos h0]
      exact sim_word h2 (h3 h0) f1.ok.l0 (by have := f2.steps; omega) _ _ (cut_len (by omega))
    · rw [if_neg (by rw [h1]; exact h0), if_neg h0]
      exact ⟨h1, h2, h3⟩

theorem sim_prog {d : Dl} {f : Fl} (s : Sim d f) (ok : DlOk d) (rok : FlOk f) (a : Int) (m : List UInt8) (hs : f.steps + m.length < 4611686018427387904) :
    (dprogOf d a m).1 = (rprogOf f a m).1 ∧ Sim (dprogOf d a m).2 (rprogOf f a m).2 := by
  unfold dprogOf rprogOf
  rw [s.off, s.b]
  split
  · exact ⟨rfl, s⟩
  · split
    · exact ⟨rfl, s⟩
    · split
      · exact ⟨rfl, s⟩
      · split
        · exact ⟨rfl, s⟩
        · rename_i hdk _ _ _
          have := sim_progTo s ok rok (by simpa using hdk) a.toNat m (m.length / 8) (by omega) (by omega) (m.length / 8) (Nat.le_refl _)
          exact ⟨this.1, this.2.1⟩

theorem sim_erase {d : Dl} {f : Fl} (s : Sim d f) (ok : DlOk d) (rok : FlOk f) (x : Int) (hs : f.steps + 1 < 4611686018427387904) : (deraseOf d x).1 = (eraseOf f x).1 ∧ Sim (deraseOf d x).2 (eraseOf f x).2 := by
  unfold deraseOf eraseOf
  rw [s.off, s.worn]
  split
  · exact ⟨rfl, s⟩
  · rename_i hdk
    split
    · rename_i hin
      unfold deraseIn eraseIn
      have s1 : Sim (dwithW d (d.worn.set x.toNat (d.worn.getD x.toNat 0 + 1))) (withW f (f.worn.set x.toNat (f.worn.getD x.toNat 0 + 1))) := ⟨s.b, by show List.set _ _ _ = List.set _ _ _; rw [s.worn], s.steps, s.off, s.arm⟩
      have st := sim_step s1 (by show f.dark = false; simpa using hdk) ok.l0 (by show f.steps < _; omega)
      have hfb := stepOf_b (withW f (f.worn.set x.toNat (f.worn.getD x.toNat 0 + 1)))
      obtain ⟨t, d2, h1⟩ : ∃ t d2, dstepOf (dwithW d (d.worn.set x.toNat (d.worn.getD x.toNat 0 + 1))) = (t, d2) := ⟨_, _, rfl⟩
      obtain ⟨t', f2, h2⟩ : ∃ t f2, stepOf (withW f (f.worn.set x.toNat (f.worn.getD x.toNat 0 + 1))) = (t, f2) := ⟨_, _, rfl⟩
      obtain ⟨b1, b2, b3, b4⟩ := st
      rw [h1] at b1 b2 b3
      rw [h2] at b1 b2 b3 b4 hfb
      simp only at b1 b2 b3 b4 hfb
      rw [h1, h2]
      cases t with
      | none =>
        have : t' = false := by simpa using b1.symm
        subst this
        exact ⟨rfl, b2.withB (by rw [b2.b])⟩
      | some p =>
        have : t' = true := by simpa using b1.symm
        subst this
        have hp := b3 p rfl
        refine ⟨rfl, b2.spent (broke_calm h1) ?_⟩
        have hl : (cut f2.b (1024 * x.toNat) 1024).length = 1024 := by
          have hb : f2.b = f.b := hfb.1
          have := rok.len
          rw [cut_len (by rw [hb]; omega)]
        rw [hp, b2.b, halfB_take (by omega)]
    · exact ⟨rfl, s⟩

theorem sim_arm {d : Dl} {f : Fl} (s : Sim d f) (hs : 0 ≤ f.steps) (n : Int) (p : List UInt8) : Sim (darmOf d n p) ⟨f.b, f.worn, f.steps, (if n < -1 then -1 else if 4611686018427387904 < n then 4611686018427387904 else n), p, f.dark⟩ := by
  unfold darmOf
  by_cases h : n < 0
  · rw [if_pos h]
    refine ⟨s.b, s.worn, s.steps, s.off, .inl ⟨rfl, ?_⟩⟩
    show (if n < -1 then -1 else if 4611686018427387904 < n then 4611686018427387904 else n) < 0
    split
    · omega
    · split <;> omega
  · rw [if_neg h]
    refine ⟨s.b, s.worn, s.steps, s.off, .inr ⟨rfl, ?_, rfl, ?_⟩⟩
    · show 0 ≤ (if n < -1 then -1 else if 4611686018427387904 < n then 4611686018427387904 else n)
      rw [if_neg (by omega)]
      split <;> omega
    · show n = (if n < -1 then -1 else if 4611686018427387904 < n then 4611686018427387904 else n) ∨ (4611686018427387904 - f.steps ≤ n ∧ 4611686018427387904 - f.steps ≤ (if n < -1 then -1 else if 4611686018427387904 < n then 4611686018427387904 else n))
      rw [if_neg (by omega)]
      split
      · exact .inr ⟨by omega, by omega⟩
      · exact .inl rfl
theorem sim_boot {d : Dl} {f : Fl} (s : Sim d f) : Sim ⟨d.b, d.worn, d.steps, false, false, 0, []⟩ ⟨f.b, f.worn, f.steps, -1, [], false⟩ := ⟨s.b, s.worn, s.steps, rfl, .inl ⟨rfl, by show (-1 : Int) < 0; omega⟩⟩
theorem sim_read {d : Dl} {f : Fl} (s : Sim d f) (a n : Int) : dreadOf d a n = readOf f a n := by
  unfold dreadOf readOf
  rw [s.off, s.b]
theorem sim_peek {d : Dl} {f : Fl} (s : Sim d f) (a n : Int) : peekOf d a n = (readOf ⟨f.b, f.worn, f.steps, f.left, f.pick, false⟩ a n).1 := by
  unfold peekOf readOf
  rw [s.b]
  simp only [Bool.false_eq_true, if_false]
  split <;> rfl

/-- what a call does to a flash's numbers -/
structure NumFact (d d' : Dl) (s : Int) : Prop where
  ok : DlOk d'
  steps : d'.steps ≤ d.steps + s
  len : d'.worn.length = d.worn.length
  worn : ∀ M : Int, (∀ x ∈ d.worn, x ≤ M) → ∀ x ∈ d'.worn, x ≤ M + 1
theorem NumFact.same {d : Dl} (ok : DlOk d) {s : Int} (h : 0 ≤ s) : NumFact d d s := ⟨ok, by omega, rfl, fun M hM x hx => by have := hM x hx; omega⟩
theorem dprogOf_num (d : Dl) (ok : DlOk d) (s : Int) (m : List UInt8) (hst : d.steps + m.length ≤ 4611686018427387904) : NumFact d (dprogOf d s m).2 m.length := by
  unfold dprogOf
  split
  · exact .same ok (by omega)
  · split
    · exact .same ok (by omega)
    · split
      · exact .same ok (by omega)
      · split
        · exact .same ok (by omega)
        · have f := dprogTo_fact d ok s.toNat m (m.length / 8) (by omega) (by omega) (m.length / 8) (Nat.le_refl _)
          exact ⟨f.ok, by have := f.steps; omega, by rw [f.worn], fun M hM x hx => by rw [f.worn] at hx; have := hM x hx; omega⟩
theorem rprogOf_ok (d : Fl) (ok : FlOk d) (s : Int) (m : List UInt8) (hst : d.steps + m.length ≤ 4611686018427387904) : FlOk (rprogOf d s m).2 := by
  unfold rprogOf
  split
  · exact ok
  · split
    · exact ok
    · split
      · exact ok
      · split
        · exact ok
        · exact (rprogTo_fact d ok s.toNat m (m.length / 8) (by omega) (by omega) (m.length / 8) (Nat.le_refl _)).ok
theorem set_worn {l : List Int} {x : Nat} {M : Int} (hM : ∀ y ∈ l, y ≤ M) (hx : x < l.length) : ∀ y ∈ l.set x (l.getD x 0 + 1), y ≤ M + 1 := by
  intro y hy
  rcases List.mem_or_eq_of_mem_set hy with hy | rfl
  · have := hM y hy; omega
  · have hm : l.getD x 0 ∈ l := by
      have e : l.getD x 0 = l[x] := by simp [List.getD, hx]
      rw [e]
      exact List.getElem_mem hx
    have := hM _ hm
    omega
theorem set_worn0 {l : List Int} {x : Nat} (hM : ∀ y ∈ l, 0 ≤ y ∧ y + 1 ≤ 4611686018427387904) (hx : x < l.length) : ∀ y ∈ l.set x (l.getD x 0 + 1), 0 ≤ y ∧ y ≤ 4611686018427387904 := by
  intro y hy
  rcases List.mem_or_eq_of_mem_set hy with hy | rfl
  · have := hM y hy; exact ⟨this.1, by omega⟩
  · have hm : l.getD x 0 ∈ l := by
      have e : l.getD x 0 = l[x] := by simp [List.getD, hx]
      rw [e]
      exact List.getElem_mem hx
    have := hM _ hm
    exact ⟨by omega, this.2⟩
theorem deraseOf_num (d : Dl) (ok : DlOk d) (s : Int) (hst : d.steps + 1 ≤ 4611686018427387904) (hw : ∀ x ∈ d.worn, x + 1 ≤ 4611686018427387904) : NumFact d (deraseOf d s).2 1 := by
  unfold deraseOf
  split
  · exact .same ok (by omega)
  · split
    · rename_i hin
      have hx : s.toNat < d.worn.length := by omega
      have ok1 : DlOk (dwithW d (d.worn.set s.toNat (d.worn.getD s.toNat 0 + 1))) :=
        ⟨by show _ = 1024 * (List.set _ _ _).length; rw [List.length_set]; exact ok.len, by show (List.set _ _ _).length ≤ _; rw [List.length_set]; exact ok.few, set_worn0 (fun y hy => ⟨(ok.worn y hy).1, hw y hy⟩) hx, ok.s0, ok.s1, ok.l0, ok.l1, ok.p⟩
      obtain ⟨h1, h2⟩ := dstepOf_num _ ok1 hst
      obtain ⟨e1, e2, -⟩ := dstepOf_b (dwithW d (d.worn.set s.toNat (d.worn.getD s.toNat 0 + 1)))
      unfold deraseIn
      obtain ⟨t, f, hf⟩ : ∃ t f, dstepOf (dwithW d (d.worn.set s.toNat (d.worn.getD s.toNat 0 + 1))) = (t, f) := ⟨_, _, rfl⟩
      rw [hf] at h1 h2 e1 e2 ⊢
      simp only at h1 h2 e1 e2
      have hl : f.worn.length = d.worn.length := by rw [e2]; show (List.set _ _ _).length = _; rw [List.length_set]
      have hwm : ∀ M : Int, (∀ x ∈ d.worn, x ≤ M) → ∀ x ∈ f.worn, x ≤ M + 1 := fun M hM x hxm => by rw [e2] at hxm; exact set_worn hM hx x hxm
      have hsx : f.steps ≤ d.steps + 1 := by rw [h2]; exact Int.le_refl _
      cases t with
      | none => exact ⟨h1.withB (laid_len _ _ _), hsx, hl, hwm⟩
      | some p => exact ⟨h1.withB (laid_len _ _ _), hsx, hl, hwm⟩
    · exact .same ok (by omega)
theorem eraseOf_ok (d : Fl) (ok : FlOk d) (s : Int) (hst : d.steps + 1 ≤ 4611686018427387904) (hw : ∀ x ∈ d.worn, x + 1 ≤ 4611686018427387904) : FlOk (eraseOf d s).2 := by
  unfold eraseOf
  split
  · exact ok
  · split
    · rename_i hin
      have hx : s.toNat < d.worn.length := by omega
      have ok1 : FlOk (withW d (d.worn.set s.toNat (d.worn.getD s.toNat 0 + 1))) :=
        ⟨by show _ = 1024 * (List.set _ _ _).length; rw [List.length_set]; exact ok.len, by show (List.set _ _ _).length ≤ _; rw [List.length_set]; exact ok.few, set_worn0 (fun y hy => ⟨(ok.worn y hy).1, hw y hy⟩) hx, ok.s0, ok.s1, ok.l0, ok.l1, ok.p⟩
      obtain ⟨h1, -⟩ := stepOf_num _ ok1 hst
      unfold eraseIn
      obtain ⟨t, f, hf⟩ : ∃ t f, stepOf (withW d (d.worn.set s.toNat (d.worn.getD s.toNat 0 + 1))) = (t, f) := ⟨_, _, rfl⟩
      rw [hf] at h1 ⊢
      simp only at h1
      cases t with
      | false => exact h1.withB (laid_len _ _ _)
      | true => exact ⟨(laid_len _ _ _).trans h1.len, h1.few, h1.worn, h1.s0, h1.s1, h1.l0, h1.l1, by simp⟩
    · exact ok
theorem darmOf_num (d : Dl) (ok : DlOk d) (n : Int) (hn : n ≤ 9223372036854775807) (p : List UInt8) : NumFact d (darmOf d n p) 0 := by
  unfold darmOf
  split
  · exact ⟨⟨ok.len, ok.few, ok.worn, ok.s0, ok.s1, by show (0 : Int) ≤ 0; omega, by show (0 : Int) ≤ _; omega, by show ([] : List UInt8).length ≤ _; simp⟩, by show d.steps ≤ _; omega, rfl, fun M hM x hx => by have := hM x hx; omega⟩
  · exact ⟨⟨ok.len, ok.few, ok.worn, ok.s0, ok.s1, by show 0 ≤ n; omega, hn, by show (p.take 1024).length ≤ _; rw [List.length_take]; omega⟩, by show d.steps ≤ _; omega, rfl, fun M hM x hx => by have := hM x hx; omega⟩
end Go.Proofs.Ytbkcglfdliicpaa

