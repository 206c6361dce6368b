/- copy(dst[:], src[:]) between two rows. No program is named here. -/
import Derived.Test.YtmmfbbbljhifjaaGbase
import Derived.Laws.CopyOwn
namespace Go.Proofs.Ytmmfbbbljhifjaa
open Go.RowKit
set_option linter.unusedVariables false
set_option maxRecDepth 100000

/-- a row's values copied into the front of another -/
theorem wpList_copy_row {P : Program} {w : World} {ops : Array Oper} {rest : List Oper} {o : Oper} {a : Act} {Q : Exit → Act → World → Prop} (hgd : o.guard = none) (d s : Operand) (dT sT : TypeId)
    (ho : o.op = .call { callee := .builtin .copy, args := #[d, s], argTypes := #[dT, sT] }) (E : TypeId) (hu : P.underlying dT = some (.slice E)) (hs : (P.info? E).map (·.size) = some 1)
    (g dLen dCap b : Nat) (sLen sCap : Nat) (hd : a.eval d = .slice (some ⟨g, 0, none⟩) dLen dCap) (hx : a.eval s = .slice (some ⟨b, 0, none⟩) sLen sCap) (cur cs : Array Value) (t t' : TypeId)
    (hg : w.heap[g]? = some (.cells cur t (0, 0))) (hb : w.heap[b]? = some (.cells cs t' (0, 0))) (hl : sLen = cs.size) (hn : cs.size ≤ dLen) (hfit : cs.size ≤ cur.size) (h1 : cs.all (·.oneCell') = true)
    (h : wpList P ops Q rest (a.put o.dst (goInt cs.size)) (w.setRow g (cs.toList ++ cur.toList.drop cs.size).toArray)) : wpList P ops Q (o :: rest) a w := by
  refine wpList_plain hgd fun K hK => ?_
  subst hl
  have hrun := run_copy_row (P := P) w dT sT o.type E g 0 dLen dCap ⟨b, 0, none⟩ cs.size sCap cur t cs.toList hu hs hg (by rw [show Nat.min cs.size dLen = min cs.size dLen from rfl, Nat.min_eq_left hn]; simp)
    (fun j v hj => by
      have := cell_of_row w b j cs t' (0, 0) hb
      have e : (⟨b, 0, none⟩ : Addr).add j = ⟨b, j, none⟩ := by
        unfold Addr.add
        split
        · rename_i h; subst h; rfl
        · simp
      rw [e, this]
      simpa using hj) (by simpa using hfit) (fun v hv => by
      rw [Array.all_eq_true'] at h1
      exact h1 v (by simpa using hv))
  unfold Oper.wp execOp
  simp only [ho, resolve, invoke, builtin, Sem.run_bind, Sem.run_pure, Result.andThen_ok, List.map_toArray, List.map_cons, List.map_nil, hd, hx, hrun]
  refine hK _ _ ?_
  simpa using h
end Go.Proofs.Ytmmfbbbljhifjaa

