/- Plain words for slices of bool: 'Osb w A l': a slice value with address A and length l.length reads, in world w, as l. 'Oob E w base v l': the slice value v owns l in a block from base on. No program is named here. -/
import Derived.Test.YtlbkpmcccipfhaaGbase
namespace Go.Proofs.Ytlbkpmcccipfhaa
open Go.RowKit
set_option linter.unusedVariables false
set_option maxRecDepth 100000

def Osb (w : World) (A : Option Addr) (l : List Bool) : Prop :=
  0 < l.length → ∃ b o, A = some ⟨b, o, none⟩ ∧ ∀ j, j < l.length → w.cell? ⟨b, o + j, none⟩ = some (.bool (l.getD j false))


theorem Osb.nil_ (w : World) (A : Option Addr) : Osb w A [] := fun h => absurd h (by simp)

theorem Osb.at_ {w : World} {A : Option Addr} {l : List Bool} (h : Osb w A l) {k : Nat} (hk : k < l.length) :
    ∃ b o, A = some ⟨b, o, none⟩ ∧ w.cell? ⟨b, o + k, none⟩ = some (.bool (l.getD k false)) := by
  obtain ⟨b, o, e, hc⟩ := h (by omega)
  exact ⟨b, o, e, hc k hk⟩

theorem Osb.drewN {w : World} {A : Option Addr} {l : List Bool} (h : Osb w A l) (n : Nat) : Osb (w.drewN n) A l := h

theorem Osb.below {w w' : World} {A : Option Addr} {l : List Bool} (h : Osb w A l) (hb : Below w.heap.size w w') : Osb w' A l := fun hl => by
  obtain ⟨b, o, e, hc⟩ := h hl
  refine ⟨b, o, e, fun j hj => ?_⟩
  have hcj := hc j hj
  have hlt := World.block_lt_of_cell? w _ hcj
  rw [hb.cell hlt]
  exact hcj



/-- the value of a byte -/
def oval (x : Bool) : Value := .bool x

theorem oval_one (x : Bool) : (oval x).oneCell' = true := rfl

/-- the cells that Osb names, in the spelling of the append laws -/
theorem Osb.news {w : World} {a : Addr} {l : List Bool} (h : Osb w (some a) l) : ∀ j u, (l.map oval)[j]? = some u → w.cell? (a.add j) = some u := by
  intro j u hu
  have hj : j < l.length := by
    rcases Nat.lt_or_ge j l.length with h | h
    · exact h
    · rw [List.getElem?_eq_none (by simpa using h)] at hu; cases hu
  obtain ⟨b, o, e, hc⟩ := h (by omega)
  injection e with e
  subst e
  have hadd : (⟨b, o, none⟩ : Addr).add j = ⟨b, o + j, none⟩ := by unfold Addr.add; split <;> simp_all
  rw [hadd, hc j hj]
  rw [List.getElem?_map, List.getElem?_eq_getElem hj] at hu
  simp at hu
  subst hu
  simp [oval, List.getD, List.getElem?_eq_getElem hj]

/-- the slice value v owns the bytes l, in a block from base on -/
def Oob (E : TypeId) (w : World) (base : Nat) (v : Value) (l : List Bool) : Prop := w.ownsRow base E 1 v l.length (l.map oval)

theorem Oob.nil_ (E : TypeId) (w : World) (base : Nat) : Oob E w base (.slice none 0 0) [] := World.ownsRow_nil w base E 1

theorem Oob.form {E : TypeId} {w : World} {base : Nat} {v : Value} {l : List Bool} (h : Oob E w base v l) :
    ∃ A c, v = .slice A l.length c ∧ Osb w A l ∧ (A = none ∨ ∃ g, A = some ⟨g, 0, none⟩ ∧ base ≤ g ∧ g < w.heap.size) := by
  rcases h.2 with ⟨rfl, hn⟩ | ⟨g, cap, cur, rfl, hb, hg, hnc, hcm, hcs, htake⟩
  · have : l = [] := List.eq_nil_of_length_eq_zero hn
    subst this
    exact ⟨none, 0, rfl, Osb.nil_ _ _, .inl rfl⟩
  · refine ⟨_, cap, rfl, fun hl => ⟨g, 0, rfl, fun j hj => ?_⟩, .inr ⟨g, rfl, hb, (Array.getElem?_eq_some_iff.1 hg).1⟩⟩
    have := World.ownsRow.cellAt h j (by omega)
    rw [Nat.zero_add, this, List.getElem?_map, List.getElem?_eq_getElem hj]
    simp [oval, List.getD, List.getElem?_eq_getElem hj]

theorem Oob.bs {E : TypeId} {w : World} {base : Nat} {A : Option Addr} {n c : Nat} {l : List Bool} (h : Oob E w base (.slice A n c) l) : Osb w A l := by
  obtain ⟨A', c', e, hb, _⟩ := h.form
  injection e with e1 e2 e3
  subst e1
  exact hb

theorem Oob.below {E : TypeId} {w w' : World} {base : Nat} {v : Value} {l : List Bool} (h : Oob E w base v l) (hb : Below w.heap.size w w') : Oob E w' base v l := by
  refine ⟨h.1, ?_⟩
  rcases h.2 with hn | ⟨g, cap, cur, rfl, hb', hg, rest⟩
  · exact .inl hn
  · refine .inr ⟨g, cap, cur, rfl, hb', ?_, rest⟩
    rw [hb.block g (Array.getElem?_eq_some_iff.1 hg).1]
    exact hg

theorem Oob.drewN {E : TypeId} {w : World} {base : Nat} {v : Value} {l : List Bool} (h : Oob E w base v l) (n : Nat) : Oob E (w.drewN n) base v l := h

theorem Oob.low {E : TypeId} {w : World} {base base' : Nat} {v : Value} {l : List Bool} (h : Oob E w base v l) (hb : base' ≤ base) : Oob E w base' v l := by
  refine ⟨h.1, ?_⟩
  rcases h.2 with hn | ⟨g, cap, cur, rfl, hb', rest⟩
  · exact .inl hn
  · exact .inr ⟨g, cap, cur, rfl, by omega, rest⟩

theorem Oob.len {E : TypeId} {w : World} {base : Nat} {A : Option Addr} {n c : Nat} {l : List Bool} (h : Oob E w base (.slice A n c) l) : n = l.length := by
  obtain ⟨A', c', e, _, _⟩ := h.form
  injection e with e1 e2 e3

theorem Oob.frozen {E : TypeId} {w : World} {base g n c : Nat} {l : List Bool} (h : Oob E w base (.slice (some ⟨g, 0, none⟩) n c) l) (k : Nat) : w.frozen? ⟨g, k, none⟩ = false := by
  have := h.len
  subst this
  exact World.ownsRow.frozenAt h k

/-- a store into an owned row -/
theorem Oob.set_ {E : TypeId} {w : World} {base g n c : Nat} {l : List Bool} (h : Oob E w base (.slice (some ⟨g, 0, none⟩) n c) l) (k : Nat) (x : Bool) :
    Oob E (w.setCell ⟨g, k, none⟩ (oval x)) base (.slice (some ⟨g, 0, none⟩) n c) (l.set k x) := by
  obtain ⟨A', c', e, _, _⟩ := h.form
  injection e with e1 e2 e3
  subst e2
  have := (World.ownsRow.stored h k (oval x)).1
  unfold Oob
  rw [List.map_set, List.length_set]
  exact this

section
variable {P : Program}

theorem run_append_nil_os (w : World) (base : Nat) (t ty e : TypeId) (i : TypeInfo) (ht : P.underlying t = some (.slice e)) (hi : P.info? e = some i)
    (v : Value) (l : List Bool) (hown : Oob e w base v l) (c : Nat) : (Builtin.append_ #[t, t] ty #[v, .slice none 0 c]).run P w = .ok v w := by
  rcases hown.2 with ⟨rfl, _⟩ | ⟨g, cap, cur, rfl, _, _, hnc, _⟩
  · simp [Builtin.append_, run_underlying ht, sizeOf, typeInfo, hi, Builtin.lenOf, Builtin.firstCells]
  · simp [Builtin.append_, run_underlying ht, sizeOf, typeInfo, hi, Builtin.lenOf, Builtin.firstCells, hnc, storeCells]

/-- append of what reads as m to what owns l -/
theorem run_append_os (w : World) (base : Nat) (t ty e : TypeId) (ht : P.underlying t = some (.slice e))
    (he : (P.info? e).map (fun i => (i.zero, i.size, i.bytes)) = some (some (.bool false), 1, 1))
    (v : Value) (l : List Bool) (hown : Oob e w base v l) (A : Option Addr) (m : List Bool) (c : Nat) (hm : Osb w A m)
    (hlen : l.length + m.length ≤ 2147483648) (hbase : base ≤ w.heap.size) :
    ∃ v' w', (Builtin.append_ #[t, t] ty #[v, .slice A m.length c]).run P w = .ok v' w' ∧ Oob e w' base v' (l ++ m) ∧ w.grownBy w' v.ownBlock := by
  obtain ⟨i0, hi, hz0, hz1, hz2⟩ := info_parts he
  rcases A with _ | a
  · have h0 : m.length = 0 := by
      rcases Nat.eq_zero_or_pos m.length with h | h
      · exact h
      · obtain ⟨b, o, e', _⟩ := hm h; cases e'
    have : m = [] := List.eq_nil_of_length_eq_zero h0
    subst this
    exact ⟨v, w, run_append_nil_os w base t ty e i0 ht hi v l hown c, by simpa using hown, World.grownBy.refl w _⟩
  · obtain ⟨v', w', hr, h2, h3, _⟩ := run_append_own (P := P) w base t ty e i0 (.bool false) 1 1 ht hi hz0 hz1 hz2 rfl (by decide) v l.length (l.map oval) hown a m.length c (m.map oval) (by simp)
      hm.news (fun u hu => by obtain ⟨x, _, rfl⟩ := List.mem_map.1 hu; rfl) (by unfold maxLen; omega) (by omega) hbase
    refine ⟨v', w', hr, ?_, h3⟩
    unfold Oob
    rw [List.map_append, List.length_append]
    exact h2

theorem wpList_append_os {w : World} {ops : Array Oper} {rest : List Oper} {o : Oper} {a : Act} {Q : Exit → Act → World → Prop} (hgd : o.guard = none) (s x : Operand) (t : TypeId)
    (ho : o.op = .call { callee := .builtin .append, args := #[s, x], argTypes := #[t, t] }) (base : Nat) (e : TypeId) (ht : P.underlying t = some (.slice e))
    (he : (P.info? e).map (fun i => (i.zero, i.size, i.bytes)) = some (some (.bool false), 1, 1))
    (v : Value) (l : List Bool) (hs : a.eval s = v) (hown : Oob e w base v l) (A : Option Addr) (m : List Bool) (n c : Nat) (hx : a.eval x = .slice A n c) (hn : n = m.length) (hm : Osb w A m)
    (hlen : l.length + m.length ≤ 2147483648) (hbase : base ≤ w.heap.size)
    (h : ∀ v' w', Oob e w' base v' (l ++ m) → w.grownBy w' v.ownBlock → wpList P ops Q rest (a.put o.dst v') w') : wpList P ops Q (o :: rest) a w := by
  subst hn
  refine wpList_plain hgd fun K hK => ?_
  obtain ⟨v', w', hrun, h2, h3⟩ := run_append_os (P := P) w base t o.type e ht he v l hown A m c hm hlen hbase
  unfold Oper.wp execOp
  simp only [ho, resolve, invoke, builtin, Sem.run_bind, Sem.run_pure, Result.andThen_ok, List.map_toArray, List.map_cons, List.map_nil, hs, hx, hrun]
  exact hK _ _ (h v' w' h2 h3)
end

/-- append, as one step of a region that draws -/
theorem step_append_os {P : Program} {ops : Array Oper} {o : Oper} {a : Act} {w : World} {K : Act → World → Prop} {Q : Exit → Act → World → Prop} {E : Prop} (hgd : o.guard = none) (s x : Operand) (t : TypeId)
    (ho : o.op = .call { callee := .builtin .append, args := #[s, x], argTypes := #[t, t] }) (base : Nat) (e : TypeId) (ht : P.underlying t = some (.slice e))
    (he : (P.info? e).map (fun i => (i.zero, i.size, i.bytes)) = some (some (.bool false), 1, 1))
    (v : Value) (l : List Bool) (hs : a.eval s = v) (hown : Oob e w base v l) (A : Option Addr) (m : List Bool) (n c : Nat) (hx : a.eval x = .slice A n c) (hn : n = m.length) (hm : Osb w A m)
    (hlen : l.length + m.length ≤ 2147483648) (hbase : base ≤ w.heap.size)
    (h : ∀ v' w', Oob e w' base v' (l ++ m) → w.grownBy w' v.ownBlock → K (a.put o.dst v') w') : if Region.wanted o (yielded ops a.tmps) = true then Oper.wp P o a w K Q else E := by
  have hw : Region.wanted o (yielded ops a.tmps) = true := by simp [Region.wanted, hgd]
  rw [if_pos hw]
  subst hn
  obtain ⟨v', w', hrun, h2, h3⟩ := run_append_os (P := P) w base t o.type e ht he v l hown A m c hm hlen hbase
  unfold Oper.wp execOp
  simp only [ho, resolve, invoke, builtin, Sem.run_bind, Sem.run_pure, Result.andThen_ok, List.map_toArray, List.map_cons, List.map_nil, hs, hx, hrun]
  exact h v' w' h2 h3

end Go.Proofs.Ytlbkpmcccipfhaa

