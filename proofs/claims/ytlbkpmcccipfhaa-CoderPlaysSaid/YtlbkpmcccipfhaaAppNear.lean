/- append to an owned row: it stays where it is, or lies in the next block. No program is named here. -/
import Derived.Test.YtlbkpmcccipfhaaGbase
import Derived.Laws.OwnMore
namespace Go.Proofs.Ytlbkpmcccipfhaa
open Go.RowKit
set_option linter.unusedVariables false
set_option maxRecDepth 100000

theorem Ob.formR {E : TypeId} {w : World} {base n : Nat} {v : Value} {l : List UInt8} (h : Ob E w base v l) (hn : l.length = n) (hpos : 0 < n) :
    ∃ g c, v = .slice (some ⟨g, 0, none⟩) n c := by
  subst hn
  obtain ⟨A, c, rfl, hb, hf⟩ := h.form
  rcases hf with rfl | ⟨g, rfl, hle, -⟩
  · obtain ⟨b, o, e, -⟩ := hb hpos
    cases e
  · exact ⟨g, c, rfl⟩
theorem run_append_near {P : Program} (w : World) (base : Nat) (t ty e : TypeId) (ht : P.underlying t = some (.slice e))
    (he : (P.info? e).map (fun i => (i.zero, i.size, i.bytes)) = some (some (.int .u8 0), 1, 1))
    (g n cap : Nat) (l : List UInt8) (hown : Ob e w base (.slice (some ⟨g, 0, none⟩) n cap) l) (a : Addr) (m : List UInt8) (c : Nat) (hm : Bs w (some a) m) (hm0 : 0 < m.length)
    (hlen : l.length + m.length ≤ 140737488355328) (hbase : base ≤ w.heap.size) :
    ∃ g' cap' w', (Builtin.append_ #[t, t] ty #[.slice (some ⟨g, 0, none⟩) n cap, .slice (some a) m.length c]).run P w = .ok (.slice (some ⟨g', 0, none⟩) (n + m.length) cap') w' ∧
      Ob e w' base (.slice (some ⟨g', 0, none⟩) (n + m.length) cap') (l ++ m) ∧ w.grownBy w' (some g) ∧ (g' = g ∨ w.heap.size ≤ g') := by
  have hnl := hown.len
  subst hnl
  obtain ⟨v', w', hr, hob, hgr⟩ := run_append_bs (P := P) w base t ty e ht he _ l hown (some a) m c hm hlen hbase
  obtain ⟨g', cap', rfl⟩ := hob.formR (List.length_append) (by omega)
  refine ⟨g', cap', w', hr, hob, hgr, ?_⟩
  obtain ⟨i0, hi, hz0, hz1, hz2⟩ := info_parts he
  have hone : ∀ u ∈ m.map bval, u.oneCell' = true := fun u hu => by obtain ⟨x, _, rfl⟩ := List.mem_map.1 hu; rfl
  by_cases hroom : l.length + m.length ≤ cap
  · obtain ⟨w'', hr2, -, -⟩ := run_append_fits (P := P) w base t ty e i0 1 ht hi hz1 g l.length cap (l.map bval) hown a m.length c (m.map bval) (by simp) hm.news hone hroom
    rw [hr] at hr2
    injection hr2 with h1 h2
    injection h1 with h1
    injection h1 with h1
    injection h1 with h1
    exact .inl h1
  · have hr2 := run_append_grow (P := P) w t ty e i0 (.int .u8 0) ht hi hz0 ⟨g, 0, none⟩ l.length cap (l.map bval) (by rw [hz1]; simp) (World.ownsRow.cells hown (g := g) rfl) a m.length c (m.map bval) (by rw [hz1]; simp) hm.news (by omega) (by omega) (growslice_fits (by omega) (by rw [hz2]; omega))
    rw [hr] at hr2
    injection hr2 with h1 h2
    injection h1 with h1
    injection h1 with h1
    injection h1 with h1
    exact .inr (by omega)
theorem wpList_append_near {P : Program} {w : World} {ops : Array Oper} {rest : List Oper} {o : Oper} {a : Act} {Q : Exit → Act → World → Prop} (hgd : o.guard = none) (s x : Operand) (t : TypeId)
    (ho : o.op = .call { callee := .builtin .append, args := #[s, x], argTypes := #[t, t] }) (base : Nat) (e : TypeId) (ht : P.underlying t = some (.slice e))
    (he : (P.info? e).map (fun i => (i.zero, i.size, i.bytes)) = some (some (.int .u8 0), 1, 1))
    (g N cap : Nat) (l : List UInt8) (hs : a.eval s = .slice (some ⟨g, 0, none⟩) N cap) (hown : Ob e w base (.slice (some ⟨g, 0, none⟩) N cap) l) (A : Addr) (m : List UInt8) (n c : Nat) (hx : a.eval x = .slice (some A) n c) (hn : n = m.length) (hm : Bs w (some A) m) (hm0 : 0 < m.length)
    (hlen : l.length + m.length ≤ 140737488355328) (hbase : base ≤ w.heap.size)
    (h : ∀ g' cap' w', Ob e w' base (.slice (some ⟨g', 0, none⟩) (N + m.length) cap') (l ++ m) → w.grownBy w' (some g) → (g' = g ∨ w.heap.size ≤ g') → wpList P ops Q rest (a.put o.dst (.slice (some ⟨g', 0, none⟩) (N + m.length) cap')) w') : wpList P ops Q (o :: rest) a w := by
  subst hn
  refine wpList_plain hgd fun K hK => ?_
  obtain ⟨g', cap', w', hrun, h2, h3, h4⟩ := run_append_near (P := P) w base t o.type e ht he g N cap l hown A m c hm hm0 hlen hbase
  unfold Oper.wp execOp
  simp only [ho, resolve, invoke, builtin, Sem.run_bind, Sem.run_pure, Result.andThen_ok, List.map_toArray, List.map_cons, List.map_nil, hs, hx, hrun]
  exact hK _ _ (h g' cap' w' h2 h3 h4)
end Go.Proofs.Ytlbkpmcccipfhaa

