/- A region that draws its order, with one alloc that stands free among calls that wait for one another, and a store into the new block at its end: walked once, wherever the alloc comes up. No program is named here. -/
import Derived.Test.YtlhnjdnkjgnooaaGbase
import Derived.Test.YtlhnjdnkjgnooaaRowsW
import Derived.OrdersHeld
namespace Go.Proofs.Ytlhnjdnkjgnooaa
open Go.RowKit
set_option linter.unusedVariables false
set_option maxRecDepth 100000
section
variable {P : Program} {ops : Array Oper} {Q : Exit → Act → World → Prop} {md : Region.Mode} {w0 : World} {A p : Nat} {T : TypeId} {Z : Array Value}

/-- the block: there already, or not yet -/
def HB (w0 : World) (T : TypeId) (Z : Array Value) (o : Option Nat) (W : World) : Prop :=
  Below w0.heap.size w0 W ∧ ∀ g, o = some g → w0.heap.size ≤ g ∧ W.heap[g]? = some (.cells Z T (0, 0))
/-- the rest of the region, the alloc behind us or not -/
def XB (P : Program) (md : Region.Mode) (ops : Array Oper) (Q : Exit → Act → World → Prop) (w0 : World) (A p : Nat) : Option Nat → Nat → Array Bool → Act → World → Prop
  | none, f, listed, a, W => wpAnyH P md ops Q (fun W => Below w0.heap.size w0 W) (f + 1) listed a W
  | some g, f, listed, a, W => wpAnyH P md ops Q (fun W => Below w0.heap.size w0 W) f (listed.setIfInBounds A true) (a.put (some p) (.pointer (some ⟨g, 0, none⟩))) W

/-- operation A is the alloc -/
structure AllocAt (P : Program) (ops : Array Oper) (Q : Exit → Act → World → Prop) (A p : Nat) (T : TypeId) (Z : Array Value) : Prop where
  at_ : (ops[A]?.map fun o => (o.op, o.dst, o.guard)) = some (.alloc T, some p, none)
  sel : Region.noSelect ops = true
  run : ∀ u, (zeroValue T).run P u = .ok (.agg Z) u
  q : ∀ c a w, Q (.panic c) a w → False

theorem run_alloc_op {ρ : Operand → Value} {o : Oper} {w : World} (ho : o.op = .alloc T) (hz : ∀ u, (zeroValue T).run P u = .ok (.agg Z) u) :
    (execOp ρ o).run P w = .ok (.value (.pointer (some ⟨w.heap.size, 0, none⟩))) (w.alloc (.cells Z T)) := by
  unfold execOp
  simp [ho, Instr.alloc, hz, newVar, go_sem]

theorem Oper.wp_put' {x o : Oper} {v : Value} {a : Act} {w : World} {K : Act → World → Prop} (hap : x.apart ops o = true) (hso : ∀ cs b, o.op ≠ .select cs b)
    (hq : ∀ c a w, Q (.panic c) a w → False) (h : o.wp P a w (fun a' w' => K (a'.put x.dst v) w') Q) : o.wp P (a.put x.dst v) w K Q := by
  obtain ⟨h1, h2, h3⟩ := Oper.apart_spec hap
  unfold Oper.wp at *
  rw [execOp_put o hso a x.dst v h1]
  generalize (execOp a.eval o).run P w = r at *
  cases r with
  | ok n w' =>
    cases n <;> simp only [Oper.upon] at h ⊢
    case value u => rw [Act.put_comm a v u h2]; exact h
    case skip => rw [Act.put_comm a v undef h2]; exact h
    case defer d =>
      rw [Act.put_defers, Act.put_comm _ v undef h2]
      exact h
    case enter f args =>
      refine Calls.mono h fun e w'' he => ?_
      cases e with
      | returned u =>
        show K ((a.put x.dst v).put o.dst u) w''
        rw [Act.put_comm a v u h2]; exact he
      | panicked c => exact (hq _ _ _ he).elim
      | outgrown => exact he
    case row row args => exact Rows.mono h fun u w'' he => by rw [Act.put_comm a v u h2]; exact he
  | halt x w' =>
    cases x <;> simp only [Oper.upon] at h ⊢
    case panic u => exact (hq _ _ _ h).elim
    all_goals exact h

theorem HB.al {o : Option Nat} {W : World} (h : HB w0 T Z o W) : HB w0 T Z (some W.heap.size) (W.alloc (.cells Z T)) :=
  ⟨h.1.alloc h.1.size _, fun g e => by injection e with e; subst e; exact ⟨h.1.size, heap_alloc_new _ _⟩⟩
theorem HB.next {o : Option Nat} {W W' : World} (h : HB w0 T Z o W) (hb : Below W.heap.size W W') : HB w0 T Z o W' :=
  ⟨h.1.trans (hb.mono h.1.size), fun g e => ⟨(h.2 g e).1, by rw [hb.block _ (Array.getElem?_eq_some_iff.1 (h.2 g e).2).1]; exact (h.2 g e).2⟩⟩

theorem wp_region_heldB {id : Nat} {a : Act} {w : World} (A p : Nat) (T : TypeId) (Z : Array Value) (hm : P.follows .mixedOrders = true) (h0 : decide (0 < ops.size) = true) (hA : AllocAt P ops Q A p T Z)
    (h : AllocAt P ops Q A p T Z → HB w T Z none w.drew → XB P .any ops Q w A p none (ops.size - 1) (Array.replicate ops.size false) a w.drew) : (Code.region id ops true).wp P Q a w := by
  have hb : Below w.heap.size w w.drew := (Below.refl _ _).drew
  have hn := of_decide_eq_true h0
  refine wp_region_held (S := fun W => Below w.heap.size w W) hm ?_
  have := h hA ⟨hb, fun g e => by cases e⟩
  have hk : (ops.size - 1) + 1 = ops.size := by omega
  simp only [XB] at this
  rw [hk] at this
  exact this

/-- an operation that is stable -/
theorem take_atB (i : Nat) {d : Nat} {op : Op} {ty : TypeId} {pos : String} {after : Array Edge} {guard : Option (Nat × Bool)} {v : Value} {f : Nat} {listed : Array Bool} {l l' : List Value} {df : List Deferred} {o : Option Nat} {W : World}
    (hA : AllocAt P ops Q A p T Z)
    (hi : ops[i]? = some ⟨some d, op, ty, pos, after, guard⟩)
    (hf : Region.free md ops listed i = true) (hf1 : Region.free md ops (listed.setIfInBounds A true) i = true)
    (hr : (Region.ready md ops listed).contains i = true) (hr1 : (Region.ready md ops (listed.setIfInBounds A true)).contains i = true)
    (hap : (ops[A]?.map fun oA => oA.apart ops ⟨some d, op, ty, pos, after, guard⟩) = some true) (hAi : (A != i) = true)
    (hw : Region.wanted ⟨some d, op, ty, pos, after, guard⟩ (yielded ops l.toArray) = true) (hS : HB w0 T Z o W)
    (hy : ∀ W, Below w0.heap.size w0 W → (execOp (Act.eval ⟨l.toArray, df⟩) ⟨some d, op, ty, pos, after, guard⟩).run P W = .ok (.value v) W)
    (hl : l.set d v = l')
    (h : XB P md ops Q w0 A p o f (listed.setIfInBounds i true) ⟨l'.toArray, df⟩ W) : XB P md ops Q w0 A p o (f + 1) listed ⟨l.toArray, df⟩ W := by
  have hp : ∀ (c : List PanicEntry) (a : Act) (w : World), Q (.panic c) (a.put (some d) v) w → Q (.panic c) a w := fun c a w h => (hA.q _ _ _ h).elim
  obtain ⟨oA, hoA⟩ : ∃ oA, ops[A]? = some oA := by
    cases hq : ops[A]? with
    | none => have := hA.at_; rw [hq] at this; cases this
    | some oA => exact ⟨oA, rfl⟩
  have e1 := hA.at_
  rw [hoA] at e1 hap
  simp only [Option.map_some, Option.some.injEq, Prod.mk.injEq] at e1 hap
  obtain ⟨h1, h2, h3⟩ := Oper.apart_spec hap
  subst hl
  cases o with
  | none =>
    unfold XB at *
    refine wpAnyH_take hi hA.sel hf hr hp (.inl ⟨hw, hy⟩) hS.1 ?_
    simpa [Act.put] using h
  | some g =>
    unfold XB at *
    have hsel := Region.noSelect_spec hA.sel
    refine wpAnyH_take (v := v) hi hA.sel hf1 hr1 hp ?_ hS.1 ?_
    · have hy0 : YieldsIf P ops (fun W => Below w0.heap.size w0 W) ⟨some d, op, ty, pos, after, guard⟩ v ⟨l.toArray, df⟩ := .inl ⟨hw, hy⟩
      rw [e1.2.1] at h1
      exact hy0.of_same (execOp_put _ (fun cs b => hsel i _ cs b hi) _ _ _ h1) (wanted_put _ _ _ _ h1)
    · rw [e1.2.1] at h2
      rw [Act.put_comm _ _ _ h2, Array.setIfInBounds_comm _ _ (by simpa using hAi)]
      simpa [Act.put] using h

/-- a call: whatever world it meets -/
theorem call_atB (i : Nat) {d : Option Tmp} {op : Op} {ty : TypeId} {pos : String} {after : Array Edge} {guard : Option (Nat × Bool)} {f : Nat} {listed : Array Bool} {a : Act} {o : Option Nat} {W : World}
    (hA : AllocAt P ops Q A p T Z)
    (hi : ops[i]? = some ⟨d, op, ty, pos, after, guard⟩)
    (hr : ((Region.ready md ops listed).all fun j => j == i || j == A) = true) (hr0 : (Region.ready md ops listed).isEmpty = false) (hr1 : Region.ready md ops (listed.setIfInBounds A true) = [i])
    (hap : (ops[A]?.map fun oA => oA.apart ops ⟨d, op, ty, pos, after, guard⟩) = some true) (hAi : (A != i) = true)
    (hw : Region.wanted ⟨d, op, ty, pos, after, guard⟩ (yielded ops a.tmps) = true) (hS : HB w0 T Z o W)
    (h : ∀ (o : Option Nat) (W : World), HB w0 T Z o W → ∀ K' : Act → World → Prop,
      Shut (∀ a' W', Below W.heap.size W W' → (HB w0 T Z o W' → XB P md ops Q w0 A p o f (listed.setIfInBounds i true) a' W') → K' a' W') → Oper.wp P ⟨d, op, ty, pos, after, guard⟩ a W K' Q) :
    XB P md ops Q w0 A p o (f + 1) listed a W := by
  obtain ⟨oA, hoA⟩ : ∃ oA, ops[A]? = some oA := by
    cases hq : ops[A]? with
    | none => have := hA.at_; rw [hq] at this; cases this
    | some oA => exact ⟨oA, rfl⟩
  have e1 := hA.at_
  rw [hoA] at e1 hap
  simp only [Option.map_some, Option.some.injEq, Prod.mk.injEq] at e1 hap
  have hne : A ≠ i := by simpa using hAi
  have hsel := Region.noSelect_spec hA.sel
  have hwA : ∀ a : Act, Region.wanted oA (yielded ops a.tmps) = true := fun a => by unfold Region.wanted; rw [e1.2.2]
  have some_ : ∀ g W, HB w0 T Z (some g) W → XB P md ops Q w0 A p (some g) (f + 1) listed a W := fun g W hS => by
    unfold XB
    refine wpAnyH_all hr1 (by simp) fun j hj => ?_
    have hji : j = i := by simpa using hj
    subst hji
    refine wpOp_step hi fun K' hK => ?_
    have hd := hap
    obtain ⟨h1, h2, h3⟩ := Oper.apart_spec hd
    rw [e1.2.1] at h1
    rw [wanted_put _ a _ _ h1, if_pos hw]
    have hx := h (some g) W hS (fun a' W' => K' (a'.put oA.dst (.pointer (some ⟨g, 0, none⟩))) W') (fun a' W' hb hX => hK _ _ ?_)
    · have := Oper.wp_put' (x := oA) (o := ⟨d, op, ty, pos, after, guard⟩) (v := .pointer (some ⟨g, 0, none⟩)) hap (fun cs b => hsel j _ cs b hi) hA.q hx
      rwa [e1.2.1] at this
    · have hn := hS.next hb
      refine ⟨hn.1, ?_⟩
      have hX' := hX hn
      unfold XB at hX'
      rw [e1.2.1, Array.setIfInBounds_comm _ _ hne]
      exact hX'
  cases o with
  | some g => exact some_ g W hS
  | none =>
    unfold XB
    refine wpAnyH_all rfl (by intro e; rw [e] at hr0; cases hr0) fun j hj => ?_
    have hj2 := List.all_eq_true.1 hr j hj
    simp only [Bool.or_eq_true, beq_iff_eq] at hj2
    rcases hj2 with rfl | rfl
    · refine wpOp_step hi fun K' hK => ?_
      rw [if_pos hw]
      exact h none W hS K' (fun a' W' hb hX => hK _ _ ⟨(hS.next hb).1, by have := hX (hS.next hb); unfold XB at this; exact this⟩)
    · refine wpOp_step hoA fun K' hK => ?_
      rw [if_pos (hwA a)]
      unfold Oper.wp
      rw [run_alloc_op e1.1 hA.run]
      refine hK _ _ ⟨hS.al.1, ?_⟩
      have := some_ W.heap.size _ hS.al
      unfold XB at this
      rw [e1.2.1]
      exact this

/-- the store into the new block, the last of all -/
theorem store_atB (s : Nat) {ty : TypeId} {pos : String} {after : Array Edge} {y : Operand} {listed : Array Bool} {l : List Value} {l' : Nat → List Value} {df : List Deferred} {o : Option Nat} {W : World} {cs : Array Value}
    (hA : AllocAt P ops Q A p T Z)
    (hi : ops[s]? = some ⟨none, .store T (.tmp p) y, ty, pos, after, none⟩)
    (hr : ((Region.ready md ops listed).all fun j => j == A) = true) (hr0 : (Region.ready md ops listed).isEmpty = false) (hr1 : Region.ready md ops (listed.setIfInBounds A true) = [s])
    (hr2 : Region.ready md ops ((listed.setIfInBounds A true).setIfInBounds s true) = [])
    (hS : HB w0 T Z o W) (hp : decide (p < l.length) = true) (hy : Act.eval ⟨l.toArray, df⟩ y = .agg cs) (hyp : y ≠ .tmp p) (hinf : (P.info? T).map (·.size) = some cs.size) (hsz : Z.size = cs.size) (h1 : cs.all (·.oneCell') = true)
    (hl : ∀ g, l.set p (.pointer (some ⟨g, 0, none⟩)) = l' g)
    (h : ∀ g W', w0.heap.size ≤ g → Below w0.heap.size w0 W' → W'.heap[g]? = some (.cells cs T (0, 0)) → Q .normal ⟨(l' g).toArray, df⟩ W') :
    XB P md ops Q w0 A p o 1 listed ⟨l.toArray, df⟩ W := by
  have hp := of_decide_eq_true hp
  obtain ⟨oA, hoA⟩ : ∃ oA, ops[A]? = some oA := by
    cases hq : ops[A]? with
    | none => have := hA.at_; rw [hq] at this; cases this
    | some oA => exact ⟨oA, rfl⟩
  have e1 := hA.at_
  rw [hoA] at e1
  simp only [Option.map_some, Option.some.injEq, Prod.mk.injEq] at e1
  have some_ : ∀ g W, HB w0 T Z (some g) W → XB P md ops Q w0 A p (some g) 1 listed ⟨l.toArray, df⟩ W := fun g W hS => by
    unfold XB
    refine wpAnyH_all hr1 (by simp) fun j hj => ?_
    have hji : j = s := by simpa using hj
    subst hji
    refine wpOp_step hi fun K' hK => ?_
    have hg := hS.2 g rfl
    rw [if_pos (by rfl)]
    refine wp_store_row T (.tmp p) y rfl g cs ?_ ?_ T Z hg.2 hinf hsz h1 (hK _ _ ?_)
    · simp [Act.eval, Act.put, hp]
    · rw [Act.eval_put (fun d hd => by injection hd with hd; subst hd; exact hyp)]
      exact hy
    · refine ⟨below_row hS.1 hg.1, hr2, ?_⟩
      have := h g _ hg.1 (below_row hS.1 hg.1) (setRow_heap _ _ _ _ _ _ hg.2)
      rw [← hl g] at this
      simpa [Act.put] using this
  cases o with
  | some g => exact some_ g W hS
  | none =>
    unfold XB
    refine wpAnyH_all rfl (by intro e; rw [e] at hr0; cases hr0) fun j hj => ?_
    have hj2 := List.all_eq_true.1 hr j hj
    simp only [beq_iff_eq] at hj2
    subst hj2
    refine wpOp_step hoA fun K' hK => ?_
    rw [if_pos (by unfold Region.wanted; rw [e1.2.2])]
    unfold Oper.wp
    rw [run_alloc_op e1.1 hA.run]
    refine hK _ _ ⟨hS.al.1, ?_⟩
    have := some_ W.heap.size _ hS.al
    unfold XB at this
    rw [e1.2.1]
    exact this
end
end Go.Proofs.Ytlhnjdnkjgnooaa

