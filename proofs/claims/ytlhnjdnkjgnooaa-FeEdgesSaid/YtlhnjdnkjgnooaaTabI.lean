/- Rows of integers in memory; two of them compared. -/
import Derived.Test.YtlhnjdnkjgnooaaFe9
import Derived.Test.YtlhnjdnkjgnooaaGbase
import Derived.Laws.StructEq
namespace Go.Proofs.Ytlhnjdnkjgnooaa
open Go.RowKit
set_option linter.unusedVariables false
set_option maxRecDepth 100000

def tabI (l : List Int) : Array Value := (l.map fun x => Value.int .i64 x).toArray
theorem tabI_size (l : List Int) : (tabI l).size = l.length := by simp [tabI]
theorem tabI_get (l : List Int) (i : Nat) (h : i < l.length) : (tabI l)[i]? = some (.int .i64 (gI l i)) := by
  simp [tabI, gI, List.getD, List.getElem?_eq_getElem h]
theorem tabI_set (l : List Int) (i : Nat) (x : Int) : (tabI l).setIfInBounds i (.int .i64 x) = tabI (l.set i x) := by
  unfold tabI
  rw [List.map_set]
  simp
theorem tabI_one (l : List Int) : (tabI l).all (·.oneCell') = true := by
  simp [tabI, Value.oneCell']

theorem zero_row (T : TypeId) (z : Array Value) (n : Nat) (h : (Try.prog.info? T).map (fun i => (i.zero, i.size)) = some (some (.agg z), n)) (u : World) : (zeroValue T).run Try.prog u = .ok (.agg z) u := by
  cases hi : Try.prog.info? T with
  | none => rw [hi] at h; cases h
  | some i =>
    rw [hi] at h
    simp at h
    simp [zeroValue, typeInfo, hi, h.1]
theorem below_row {B g : Nat} {a w : World} {cs : Array Value} (h : Below B a w) (hg : B ≤ g) : Below B a (w.setRow g cs) :=
  ⟨h.os, h.tape, h.output, by have := h.size; simpa using this, fun j hj => by rw [setRow_other _ _ _ _ (by omega)]; exact h.block j hj⟩
theorem below_then {w w1 w2 : World} (h : Below w.heap.size w w1) (h2 : Below w1.heap.size w1 w2) : Below w.heap.size w w2 := h.trans (h2.mono h.size)

theorem run_loadR {P : Program} {ρ : Operand → Value} {o : Oper} {w : World} {ty : TypeId} {x : Operand} (ho : o.op = .load ty x) {g : Nat} (hx : ρ x = .pointer (some ⟨g, 0, none⟩)) {t : TypeId} {cs : Array Value} {fr : Nat × Nat} {d : TypeDesc} (hg : w.heap[g]? = some (.cells cs t fr))
    (hu : P.underlying ty = some d) (hd : (match d with | .struct _ | .array _ _ => true | _ => false) = true) (hi : (P.info? ty).map (·.size) = some cs.size) :
    (execOp ρ o).run P w = .ok (.value (.agg cs)) w := by
  unfold execOp
  simp only [ho, hx, Instr.loadAt, Instr.sureAddr, Sem.run_bind, Sem.run_pure, Result.andThen_ok, run_loadVar_row w g t ty cs fr d hg hu hd hi]

theorem part_i {P : Program} (e : TypeId) (l : List Int) (i : Nat) (h : i < l.length) (ha : ∀ w, (isAgg e).run P w = .ok false w) (u : World) : (Go.part e (tabI l) i).run P u = .ok (.int .i64 (gI l i)) u := by
  have hg := tabI_get l i h
  simp only [Go.part, Sem.run_bind, ha, Result.andThen_ok, Bool.false_eq_true, if_false]
  rw [hg]
  simp
theorem eqI_loop {P : Program} (e : TypeId) (l m : List Int) (hlm : l.length = m.length) (hu : P.underlying e = some (.int .i64)) (ha : ∀ w, (isAgg e).run P w = .ok false w) (u : World) : ∀ (r : List Nat), (∀ i ∈ r, i < l.length) →
    (forIn r ((none : Option Bool), ()) fun i __s => do
      let a ← Go.part e (tabI l) (i * 1)
      let b ← Go.part e (tabI m) (i * 1)
      let c ← Op.equalIn 9999 e a b
      if (!c) = true then pure (ForInStep.done (some false, ())) else pure (ForInStep.yield ((none : Option Bool), ())) : Sem (Option Bool × Unit)).run P u = .ok (if (r.all fun i => decide (gI l i = gI m i)) = true then none else some false, ()) u
  | [], _ => by simp
  | i :: r, h => by
    have h1 := part_i (P := P) e l i (h i (by simp)) ha u
    have h1' := part_i (P := P) e m i (by have := h i (by simp); omega) ha u
    have h2 : (Op.equalIn 9999 e (.int .i64 (gI l i)) (.int .i64 (gI m i))).run P u = .ok (decide (gI l i = gI m i)) u := by
      rw [show (9999 : Nat) = 9998 + 1 from rfl, run_equalIn_int _ _ _ _ .i64 _ _ hu]
      simp
      rfl
    have ih := eqI_loop e l m hlm hu ha u r (fun j hj => h j (by simp [hj]))
    by_cases hd : gI l i = gI m i
    · have hdt : decide (gI l i = gI m i) = true := decide_eq_true hd
      simp only [List.forIn_cons, Sem.run_bind, Nat.mul_one, h1, h1', h2, Result.andThen_ok, hdt, Bool.not_true, Bool.false_eq_true, if_false, Sem.run_pure, List.all_cons, Bool.true_and] at ih ⊢
      exact ih
    · have hdf : decide (gI l i = gI m i) = false := decide_eq_false hd
      simp only [List.forIn_cons, Sem.run_bind, Nat.mul_one, h1, h1', h2, Result.andThen_ok, hdf, Bool.not_false, if_true, Sem.run_pure, List.all_cons, Bool.false_and, Bool.false_eq_true, if_false]
theorem all_same {l m : List Int} (h : l.length = m.length) : ((List.range' 0 l.length).all fun i => decide (gI l i = gI m i)) = decide (l = m) := by
  by_cases e : l = m
  · subst e; simp
  · rw [decide_eq_false e]
    cases hb : ((List.range' 0 l.length).all fun i => decide (gI l i = gI m i))
    · rfl
    · exfalso
      apply e
      apply List.ext_getElem h
      intro i h1 h2
      have := List.all_eq_true.1 hb i (by rw [List.mem_range'_1]; omega)
      simpa [gI, List.getD, List.getElem?_eq_getElem h1, List.getElem?_eq_getElem h2] using this
theorem eqI_run {P : Program} (T e : TypeId) (n : Nat) (l m : List Int) (hl : l.length = n) (hm : m.length = n) (ht : P.underlying T = some (.array n e)) (hu : P.underlying e = some (.int .i64))
    (ha : ∀ w, (isAgg e).run P w = .ok false w) (hs : ∀ w, (sizeOf e).run P w = .ok 1 w) (u : World) : (binOp .eql T (.agg (tabI l)) (.agg (tabI m))).run P u = .ok (.bool (decide (l = m))) u := by
  have h : (Op.equalIn 10000 T (.agg (tabI l)) (.agg (tabI m))).run P u = .ok (decide (l = m)) u := by
    rw [show (10000 : Nat) = 9999 + 1 from rfl, Op.equalIn]
    simp only [Sem.run_bind, run_underlying ht, Result.andThen_ok, hs]
    simp only [Std.Legacy.Range.forIn_eq_forIn_range', Std.Legacy.Range.size, Nat.sub_zero, Nat.add_sub_cancel, Nat.div_one]
    have hr : ∀ i ∈ List.range' 0 n, i < l.length := fun i hi => by
      rw [List.mem_range'_1] at hi; omega
    rw [eqI_loop e l m (by omega) hu ha u _ hr]
    have hq := all_same (l := l) (m := m) (by omega)
    rw [hl] at hq
    rw [hq]
    by_cases e : l = m
    · rw [decide_eq_true e]; simp
    · rw [decide_eq_false e]; simp
  rw [run_eql_struct, h]
  simp
end Go.Proofs.Ytlhnjdnkjgnooaa

