/- Rows of bytes in memory; two of them compared. -/
import Derived.Test.YtlhnjdnkjgnooaaGbase
import Derived.Laws.StructEq
namespace Go.Proofs.Ytlhnjdnkjgnooaa
open Go.RowKit
set_option linter.unusedVariables false
set_option maxRecDepth 100000

/-- bytes in a row -/
def arrB (l : List UInt8) : Array Value := (l.map bval).toArray
theorem arrB_size (l : List UInt8) : (arrB l).size = l.length := by simp [arrB]
theorem arrB_get (l : List UInt8) (i : Nat) (h : i < l.length) : (arrB l)[i]? = some (.int .u8 ((l.getD i 0).toNat : Int)) := by
  simp [arrB, List.getD, List.getElem?_eq_getElem h, bval]
theorem arrB_set (l : List UInt8) (i : Nat) (x : UInt8) : (arrB l).setIfInBounds i (.int .u8 (x.toNat : Int)) = arrB (l.set i x) := by
  unfold arrB
  rw [List.map_set]
  simp [bval]
theorem arrB_one (l : List UInt8) : (arrB l).all (·.oneCell') = true := by
  simp [arrB, Value.oneCell', bval]
theorem zero_arr (T : TypeId) (z : Array Value) (n : Nat) (h : (Try.prog.info? T).map (fun i => (i.zero, i.size)) = some (some (.agg z), n)) (u : World) : (zeroValue T).run Try.prog u = .ok (.agg z) u := by
  cases hi : Try.prog.info? T with
  | none => rw [hi] at h; cases h
  | some i =>
    rw [hi] at h
    simp at h
    simp [zeroValue, typeInfo, hi, h.1]

theorem part_b {P : Program} (e : TypeId) (l : List UInt8) (i : Nat) (h : i < l.length) (ha : ∀ w, (isAgg e).run P w = .ok false w) (u : World) : (Go.part e (arrB l) i).run P u = .ok (.int .u8 ((l.getD i 0).toNat : Int)) u := by
  have hg := arrB_get l i h
  simp only [Go.part, Sem.run_bind, ha, Result.andThen_ok, Bool.false_eq_true, if_false]
  rw [hg]
  simp

theorem eqB_loop {P : Program} (e : TypeId) (l : List UInt8) (hu : P.underlying e = some (.int .u8)) (ha : ∀ w, (isAgg e).run P w = .ok false w) (u : World) : ∀ (r : List Nat), (∀ i ∈ r, i < l.length) →
    (forIn r ((none : Option Bool), ()) fun i __s => do
      let a ← Go.part e (arrB l) (i * 1)
      let b ← Go.part e (arrB l) (i * 1)
      let c ← Op.equalIn 9999 e a b
      if (!c) = true then pure (ForInStep.done (some false, ())) else pure (ForInStep.yield ((none : Option Bool), ())) : Sem (Option Bool × Unit)).run P u = .ok (none, ()) u
  | [], _ => by simp
  | i :: r, h => by
    have h1 := part_b (P := P) e l i (h i (by simp)) ha u
    have h2 : (Op.equalIn 9999 e (.int .u8 ((l.getD i 0).toNat : Int)) (.int .u8 ((l.getD i 0).toNat : Int))).run P u = .ok true u := by
      rw [show (9999 : Nat) = 9998 + 1 from rfl, run_equalIn_int _ _ _ _ .u8 _ _ hu]; simp
    have ih := eqB_loop e l hu ha u r (fun j hj => h j (by simp [hj]))
    simp only [List.forIn_cons, Sem.run_bind, Nat.mul_one, h1, h2, Result.andThen_ok, Bool.not_true, Bool.false_eq_true, if_false, Sem.run_pure] at ih ⊢
    exact ih

theorem eqB_in {P : Program} (T e : TypeId) (n : Nat) (l : List UInt8) (hl : l.length = n) (ht : P.underlying T = some (.array n e)) (hu : P.underlying e = some (.int .u8))
    (ha : ∀ w, (isAgg e).run P w = .ok false w) (hs : ∀ w, (sizeOf e).run P w = .ok 1 w) (u : World) : (Op.equalIn 10000 T (.agg (arrB l)) (.agg (arrB l))).run P u = .ok true u := by
  rw [show (10000 : Nat) = 9999 + 1 from rfl, Op.equalIn]
  simp only [Sem.run_bind, run_underlying ht, Result.andThen_ok, hs]
  simp only [Std.Legacy.Range.forIn_eq_forIn_range', Std.Legacy.Range.size, Nat.sub_zero, Nat.add_sub_cancel, Nat.div_one]
  have hr : ∀ i ∈ List.range' 0 n, i < l.length := fun i hi => by
    rw [List.mem_range'_1] at hi; omega
  generalize List.range' 0 n = r at *
  rw [eqB_loop e l hu ha u r hr]
  simp
theorem eqB_refl {P : Program} (T e : TypeId) (n : Nat) (l : List UInt8) (hl : l.length = n) (ht : P.underlying T = some (.array n e)) (hu : P.underlying e = some (.int .u8))
    (ha : ∀ w, (isAgg e).run P w = .ok false w) (hs : ∀ w, (sizeOf e).run P w = .ok 1 w) (u : World) : (binOp .eql T (.agg (arrB l)) (.agg (arrB l))).run P u = .ok (.bool true) u := by
  rw [run_eql_struct, eqB_in T e n l hl ht hu ha hs u]
  simp
theorem bs_lt {W : World} {A : Option Addr} {l : List UInt8} (h : Bs W A l) (hl : 0 < l.length) {k : Nat} (hk : At A k) : k < W.heap.size := by
  obtain ⟨b, o, rfl, hc⟩ := h hl
  obtain ⟨a, e, rfl⟩ := hk
  injection e with e
  subst e
  exact World.block_lt_of_cell? W _ (hc 0 hl)

theorem run_eql2 {P : Program} {ρ : Operand → Value} {o : Oper} {w : World} {op : BinOp} {T T' : TypeId} {x y : Operand} {cs ds : Array Value} {r : Value} (ho : o.op = .binOp op T x y T') (hx : ρ x = .agg cs) (hy : ρ y = .agg ds) (hm : P.eqGuardType P.depth T = false)
    (he : (binOp op T (.agg cs) (.agg ds)).run P w = .ok r w) : (execOp ρ o).run P w = .ok (.value r) w := by
  unfold execOp
  simp only [ho, hx, hy, Sem.run_bind, run_eqGuard_agg w op T x y cs ds hm, Result.andThen_ok, he, Sem.run_pure]
theorem frozen_row {W : World} {g : Nat} {cs : Array Value} {t : TypeId} (h : W.heap[g]? = some (.cells cs t (0, 0))) (k : Nat) : W.frozen? ⟨g, k, none⟩ = false := by simp [World.frozen?, h]
theorem neqB_run {P : Program} (T : TypeId) (xs ys : Array Value) (b : Bool) (u : World) (h : (binOp .eql T (.agg xs) (.agg ys)).run P u = .ok (.bool b) u) : (binOp .neq T (.agg xs) (.agg ys)).run P u = .ok (.bool (!b)) u := by
  rw [run_eql_struct] at h
  rw [run_neq_struct]
  cases hq : (Op.equalIn 10000 T (.agg xs) (.agg ys)).run P u with
  | ok c w' =>
    rw [hq] at h
    simp [Result.andThen] at h
    obtain ⟨h1, h2⟩ := h
    subst h1
    subst h2
    simp [Result.andThen]
  | halt x w' => rw [hq] at h; cases h

theorem eqB2_loop {P : Program} (e : TypeId) (l m : List UInt8) (hlm : l.length = m.length) (hu : P.underlying e = some (.int .u8)) (ha : ∀ w, (isAgg e).run P w = .ok false w) (u : World) : ∀ (r : List Nat), (∀ i ∈ r, i < l.length) →
    (forIn r ((none : Option Bool), ()) fun i __s => do
      let a ← Go.part e (arrB l) (i * 1)
      let b ← Go.part e (arrB m) (i * 1)
      let c ← Op.equalIn 9999 e a b
      if (!c) = true then pure (ForInStep.done (some false, ())) else pure (ForInStep.yield ((none : Option Bool), ())) : Sem (Option Bool × Unit)).run P u = .ok (if (r.all fun i => decide (l.getD i 0 = m.getD i 0)) = true then none else some false, ()) u
  | [], _ => by simp
  | i :: r, h => by
    have h1 := part_b (P := P) e l i (h i (by simp)) ha u
    have h1' := part_b (P := P) e m i (by have := h i (by simp); omega) ha u
    have h2 : (Op.equalIn 9999 e (.int .u8 ((l.getD i 0).toNat : Int)) (.int .u8 ((m.getD i 0).toNat : Int))).run P u = .ok (decide (l.getD i 0 = m.getD i 0)) u := by
      rw [show (9999 : Nat) = 9998 + 1 from rfl, run_equalIn_int _ _ _ _ .u8 _ _ hu]
      generalize l.getD i 0 = a
      generalize m.getD i 0 = b
      by_cases hq : a = b
      · rw [hq]; simp
      · rw [decide_eq_false hq]
        have : ¬ a.toNat = b.toNat := fun e => hq (UInt8.toNat_inj.1 e)
        congr 1
        simp; omega
    have ih := eqB2_loop e l m hlm hu ha u r (fun j hj => h j (by simp [hj]))
    by_cases hd : l.getD i 0 = m.getD i 0
    · have hdt : decide (l.getD i 0 = m.getD i 0) = true := decide_eq_true hd
      simp only [List.forIn_cons, Sem.run_bind, Nat.mul_one, h1, h1', h2, Result.andThen_ok, hdt, Bool.not_true, Bool.false_eq_true, if_false, Sem.run_pure, List.all_cons, Bool.true_and] at ih ⊢
      exact ih
    · have hdf : decide (l.getD i 0 = m.getD i 0) = false := decide_eq_false hd
      simp only [List.forIn_cons, Sem.run_bind, Nat.mul_one, h1, h1', h2, Result.andThen_ok, hdf, Bool.not_false, if_true, Sem.run_pure, List.all_cons, Bool.false_and, Bool.false_eq_true, if_false]
theorem allB_same {l m : List UInt8} (h : l.length = m.length) : ((List.range' 0 l.length).all fun i => decide (l.getD i 0 = m.getD i 0)) = decide (l = m) := by
  by_cases e : l = m
  · subst e; simp
  · rw [decide_eq_false e]
    cases hb : ((List.range' 0 l.length).all fun i => decide (l.getD i 0 = m.getD i 0))
    · rfl
    · exfalso
      apply e
      apply List.ext_getElem h
      intro i h1 h2
      have := List.all_eq_true.1 hb i (by rw [List.mem_range'_1]; omega)
      simpa [List.getD, List.getElem?_eq_getElem h1, List.getElem?_eq_getElem h2] using this
theorem eqB_any {P : Program} (T e : TypeId) (n : Nat) (l m : List UInt8) (hl : l.length = n) (hm : m.length = n) (ht : P.underlying T = some (.array n e)) (hu : P.underlying e = some (.int .u8))
    (ha : ∀ w, (isAgg e).run P w = .ok false w) (hs : ∀ w, (sizeOf e).run P w = .ok 1 w) (u : World) : (Op.equalIn 10000 T (.agg (arrB l)) (.agg (arrB m))).run P u = .ok (decide (l = m)) u := by
  rw [show (10000 : Nat) = 9999 + 1 from rfl, Op.equalIn]
  simp only [Sem.run_bind, run_underlying ht, Result.andThen_ok, hs]
  simp only [Std.Legacy.Range.forIn_eq_forIn_range', Std.Legacy.Range.size, Nat.sub_zero, Nat.add_sub_cancel, Nat.div_one]
  have hr : ∀ i ∈ List.range' 0 n, i < l.length := fun i hi => by
    rw [List.mem_range'_1] at hi; omega
  rw [eqB2_loop e l m (by omega) hu ha u _ hr]
  have hq := allB_same (l := l) (m := m) (by omega)
  rw [hl] at hq
  rw [hq]
  by_cases e : l = m
  · rw [decide_eq_true e]; simp
  · rw [decide_eq_false e]; simp
theorem eqB_run {P : Program} (T e : TypeId) (n : Nat) (l m : List UInt8) (hl : l.length = n) (hm : m.length = n) (ht : P.underlying T = some (.array n e)) (hu : P.underlying e = some (.int .u8))
    (ha : ∀ w, (isAgg e).run P w = .ok false w) (hs : ∀ w, (sizeOf e).run P w = .ok 1 w) (u : World) : (binOp .eql T (.agg (arrB l)) (.agg (arrB m))).run P u = .ok (.bool (decide (l = m))) u := by
  rw [run_eql_struct, eqB_any T e n l m hl hm ht hu ha hs u]
  simp
end Go.Proofs.Ytlhnjdnkjgnooaa

