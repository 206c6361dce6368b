/- Rows of words that are alike are equal. -/
import Derived.Test.YtbbdiphicckpiaaRefSched6
import Derived.Laws.StructEq
namespace Go.Proofs.Ytbbdiphicckpiaa
open Go.RowKit
set_option linter.unusedVariables false
set_option maxRecDepth 100000

theorem part_w {P : Program} (e : TypeId) (l : List W64) (i : Nat) (h : i < l.length) (ha : ∀ w, (isAgg e).run P w = .ok false w) (u : World) : (Go.part e (tabW l) i).run P u = .ok (.int .u64 ((wG l i).toNat : Int)) u := by
  have hg := tabW_get l i h
  simp [Go.part, ha, hg]

theorem eqW_loop {P : Program} (e : TypeId) (l : List W64) (hu : P.underlying e = some (.int .u64)) (ha : ∀ w, (isAgg e).run P w = .ok false w) (u : World) : ∀ (r : List Nat), (∀ i ∈ r, i < l.length) →
    (forIn r ((none : Option Bool), ()) fun i __s => do
      let a ← Go.part e (tabW l) (i * 1)
      let b ← Go.part e (tabW l) (i * 1)
      let c ← Op.equalIn 9999 e a b
      if (!c) = true then pure (ForInStep.done (some false, ())) else pure (ForInStep.yield ((none : Option Bool), ())) : Sem (Option Bool × Unit)).run P u = .ok (none, ()) u
  | [], _ => by simp
  | i :: r, h => by
    have h1 := part_w (P := P) e l i (h i (by simp)) ha u
    have h2 : (Op.equalIn 9999 e (.int .u64 ((wG l i).toNat : Int)) (.int .u64 ((wG l i).toNat : Int))).run P u = .ok true u := by
      rw [show (9999 : Nat) = 9998 + 1 from rfl, run_equalIn_int _ _ _ _ .u64 _ _ hu]; simp
    have ih := eqW_loop e l hu ha u r (fun j hj => h j (by simp [hj]))
    simp only [List.forIn_cons, Sem.run_bind, Nat.mul_one, h1, h2, Result.andThen_ok, Bool.not_true, Bool.false_eq_true, if_false, Sem.run_pure] at ih ⊢
    exact ih

theorem eqW_in {P : Program} (T e : TypeId) (n : Nat) (l : List W64) (hl : l.length = n) (ht : P.underlying T = some (.array n e)) (hu : P.underlying e = some (.int .u64))
    (ha : ∀ w, (isAgg e).run P w = .ok false w) (hs : ∀ w, (sizeOf e).run P w = .ok 1 w) (u : World) : (Op.equalIn 10000 T (.agg (tabW l)) (.agg (tabW l))).run P u = .ok true u := by
  rw [show (10000 : Nat) = 9999 + 1 from rfl, Op.equalIn]
  simp only [Sem.run_bind, run_underlying ht, Result.andThen_ok, hs]
  simp only [Std.Legacy.Range.forIn_eq_forIn_range', Std.Legacy.Range.size, Nat.sub_zero, Nat.add_sub_cancel, Nat.div_one]
  have hr : ∀ i ∈ List.range' 0 n, i < l.length := fun i hi => by
    rw [List.mem_range'_1] at hi; omega
  generalize List.range' 0 n = r at *
  rw [eqW_loop e l hu ha u r hr]
  simp
theorem eqW_refl {P : Program} (T e : TypeId) (n : Nat) (l : List W64) (hl : l.length = n) (ht : P.underlying T = some (.array n e)) (hu : P.underlying e = some (.int .u64))
    (ha : ∀ w, (isAgg e).run P w = .ok false w) (hs : ∀ w, (sizeOf e).run P w = .ok 1 w) (u : World) : (binOp .eql T (.agg (tabW l)) (.agg (tabW l))).run P u = .ok (.bool true) u := by
  rw [run_eql_struct, eqW_in T e n l hl ht hu ha hs u]
  simp
end Go.Proofs.Ytbbdiphicckpiaa

