/- Rows that stand in a world, told as a list: what laws over plain values keep in their variables. A region that draws its order and ends in operations that wait for all the others (a store, mostly): the first ones in whatever order under a condition on the world, the last ones one behind the other, with no condition. No program is named here. A region that draws its order, with one alloc that stands free among calls that wait for one another, and a store into the new block at its end: walked once, wherever the alloc comes up. No program is named here. -/
import Derived.Test.YtlbkpmcccipfhaaGfb
import Derived.BigFrame
import Derived.Test.YtlbkpmcccipfhaaGbase
import Derived.StillTail
import Derived.OrdersHeld
namespace Go.Proofs.Ytlbkpmcccipfhaa
open Go.RowKit
set_option linter.unusedVariables false
set_option maxRecDepth 100000

abbrev RowT := Nat × Array Value × TypeId
def RowsW (W : World) : List RowT → Prop
  | [] => True
  | r :: L => W.heap[r.1]? = some (.cells r.2.1 r.2.2 (0, 0)) ∧ RowsW W L
section
variable {W W' : World} {L : List RowT} {g : Nat} {cs : Array Value} {t : TypeId}
theorem RowsW.nil (W : World) : RowsW W [] := trivial
theorem RowsW.head (h : RowsW W ((g, cs, t) :: L)) : W.heap[g]? = some (.cells cs t (0, 0)) := h.1
theorem RowsW.tail {r : RowT} (h : RowsW W (r :: L)) : RowsW W L := h.2
theorem RowsW.below (h : RowsW W L) (hb : Below W.heap.size W W') : RowsW W' L := by
  induction L with
  | nil => trivial
  | cons r L ih =>
    exact ⟨by rw [hb.block _ (Array.getElem?_eq_some_iff.1 h.1).1]; exact h.1, ih h.2⟩
theorem RowsW.ne (h : RowsW W L) : ∀ r ∈ L, r.1 ≠ W.heap.size := by
  induction L with
  | nil => intro r hr; cases hr
  | cons a L ih =>
    intro r hr
    rcases List.mem_cons.1 hr with rfl | hr
    · have := (Array.getElem?_eq_some_iff.1 h.1).1; omega
    · exact ih h.2 r hr
theorem RowsW.drew (h : RowsW W L) : RowsW W.drew L := h.below (Below.refl _ _).drew
theorem RowsW.box (h : RowsW W L) (cs : Array Value) (t : TypeId) : RowsW (W.alloc (.cells cs t)) ((W.heap.size, cs, t) :: L) :=
  ⟨heap_alloc_new _ _, h.below ((Below.refl _ W).alloc (Nat.le_refl _) _)⟩
theorem RowsW.new (h : RowsW W L) (z cs : Array Value) (t : TypeId) : RowsW ((W.alloc (.cells z t)).setRow W.heap.size cs) ((W.heap.size, cs, t) :: L) :=
  ⟨setRow_heap _ _ _ _ _ _ (heap_alloc_new _ _), h.below (below_row ((Below.refl _ W).alloc (Nat.le_refl _) _) (Nat.le_refl _))⟩
theorem below_new {w : World} (h : Below w.heap.size w W) (z cs : Array Value) (t : TypeId) : Below w.heap.size w ((W.alloc (.cells z t)).setRow W.heap.size cs) := below_row (h.alloc h.size _) h.size
theorem below_box {w : World} (h : Below w.heap.size w W) (cs : Array Value) (t : TypeId) : Below w.heap.size w (W.alloc (.cells cs t)) := h.alloc h.size _
theorem RowsW.set (h : RowsW W ((g, cs, t) :: L)) (hg : ∀ r ∈ L, r.1 ≠ g) (k : Nat) (v : Value) : RowsW (W.setCell ⟨g, k, none⟩ v) ((g, cs.setIfInBounds k v, t) :: L) := by
  rw [setCell_eq_setRow W g k _ _ _ v h.head]
  refine ⟨by rw [setRow_heap _ _ _ _ _ _ h.head], ?_⟩
  have h2 := h.tail
  clear h
  induction L with
  | nil => trivial
  | cons r L ih => exact ⟨by rw [setRow_other _ _ _ _ (hg r (by simp))]; exact h2.1, ih (fun q hq => hg q (by simp [hq])) h2.2⟩
theorem RowsW.put (h : RowsW W ((g, cs, t) :: L)) (hg : ∀ r ∈ L, r.1 ≠ g) (ds : Array Value) : RowsW (W.setRow g ds) ((g, ds, t) :: L) := by
  refine ⟨by rw [setRow_heap _ _ _ _ _ _ h.head], ?_⟩
  have h2 := h.tail
  clear h
  induction L with
  | nil => trivial
  | cons r L ih => exact ⟨by rw [setRow_other _ _ _ _ (hg r (by simp))]; exact h2.1, ih (fun q hq => hg q (by simp [hq])) h2.2⟩
/-- the rows but one -/
theorem RowsW.setRow (h : RowsW W L) (hg : ∀ r ∈ L, r.1 ≠ g) (cs : Array Value) : RowsW (W.setRow g cs) L := by
  induction L with
  | nil => trivial
  | cons r L ih =>
    exact ⟨by rw [setRow_other _ _ _ _ (hg r (by simp))]; exact h.1, ih h.2 (fun q hq => hg q (by simp [hq]))⟩
end
theorem wpList_runsV {P : Program} {ops : Array Oper} {rest : List Oper} {o : Oper} {a : Act} {w : World} {Q : Exit → Act → World → Prop} (hw : Region.wanted o (yielded ops a.tmps) = true) (v : Value)
    (hrun : (execOp (Act.eval a) o).run P w = .ok (.value v) w) (h : wpList P ops Q rest (a.put o.dst v) w) : wpList P ops Q (o :: rest) a w := by
  refine BigFrame.wpList_want hw fun K hK => ?_
  unfold Oper.wp
  rw [hrun]
  exact hK _ _ h
theorem results_ct {P : Program} {fn : Func} {p q : Tmp} {ty : TypeId} (h : fn.results = #[.cell p ty, .tmp q]) (tmps : Array Value) (w : World) (g : Nat) (t : TypeId) (cs : Array Value) (fr : Nat × Nat) (d : TypeDesc) (x : Value)
    (hp : tmps.getD p undef = .pointer (some ⟨g, 0, none⟩)) (hq : tmps.getD q undef = x) (hg : w.heap[g]? = some (.cells cs t fr))
    (hu : P.underlying ty = some d) (hd : (match d with | .struct _ | .array _ _ => true | _ => false) = true) (hi : (P.info? ty).map (·.size) = some cs.size) :
    (results fn tmps).run P w = .ok (.tuple #[.agg cs, x]) w := by
  have hp' : tmps[p]?.getD undef = .pointer (some ⟨g, 0, none⟩) := by simpa using hp
  have hq' : tmps[q]?.getD undef = x := by simpa using hq
  simp [results, h, hp', hq', asAddr, run_loadVar_row w g t ty cs fr d hg hu hd hi]
end Go.Proofs.Ytlbkpmcccipfhaa

namespace Go.Proofs.Ytlbkpmcccipfhaa
set_option linter.unusedVariables false
set_option maxRecDepth 100000
section
variable {P : Program} {ops : Array Oper} {Q : Exit → Act → World → Prop} {md : Region.Mode} {S : World → Prop}

def wpAnyK (P : Program) (md : Region.Mode) (ops : Array Oper) (Q : Exit → Act → World → Prop) (S : World → Prop) (n : Nat) (L : Array Bool → Act → World → Prop) : Nat → Array Bool → Act → World → Prop
  | 0, listed, a, w => L listed a w
  | f + 1, listed, a, w =>
    Region.ready md ops listed ≠ [] ∧ ∀ i ∈ Region.ready md ops listed, i < n ∧ wpOp P ops Q i (fun a' w' => S w' ∧ wpAnyK P md ops Q S n L f (listed.setIfInBounds i true) a' w') a w

theorem wpAny_of_headK {n g : Nat} {L : Array Bool → Act → World → Prop} (hL : ∀ listed a w, L listed a w → wpAny P md ops Q g listed a w) :
    ∀ (f : Nat) (listed : Array Bool) (a : Act) (w : World), wpAnyK P md ops Q S n L f listed a w → wpAny P md ops Q (f + g) listed a w
  | 0, listed, a, w, h => by rw [Nat.zero_add]; exact hL _ _ _ h
  | f + 1, listed, a, w, h => by
    rw [show f + 1 + g = (f + g) + 1 by omega]
    exact ⟨fun h0 => absurd h0 h.1, fun i hi => wpOp_mono (fun a' w' h' => wpAny_of_headK hL f _ a' w' h'.2) (h.2 i hi).2⟩

theorem wpAnyK_first {n i : Nat} {oi : Oper} {v : Value} {L : Array Bool → Act → World → Prop} (hi : ops[i]? = some oi) (hsel : ∀ (j : Nat) (o : Oper) cs b, ops[j]? = some o → o.op ≠ .select cs b)
    (hs : Region.sinkB md ops n = true) (hc : Region.chainB md ops n = true) (hn : n < ops.size) (hin : i < n)
    (hQ : ∀ c a w, Q (.panic c) (a.put oi.dst v) w → Q (.panic c) a w)
    (hdone : ∀ listed a w, L listed a w → ∀ j ∈ Region.ready md ops listed, n ≤ j) :
    ∀ (f : Nat) (listed : Array Bool) (a : Act) (w : World), HeadInv md ops n listed →
      (∀ j oj, ops[j]? = some oj → j ≠ i → listed.getD j true = false → (∀ e ∈ oj.after, Region.binds md e = true → e.on ≠ i) → oi.apart ops oj = true) →
      i ∈ Region.ready md ops listed → YieldsIf P ops S oi v a → S w →
      wpAnyK P md ops Q S n L f (listed.setIfInBounds i true) (a.put oi.dst v) w → wpAnyK P md ops Q S n L (f + 1) listed a w := by
  intro f
  induction f with
  | zero =>
    intro listed a w inv _ hr hy hS H
    have hun := (mem_ready.1 hr).1
    refine ⟨fun h => (by rw [h] at hr; cases hr), fun j hj => ?_⟩
    have hjn : j < n := by
      rcases Nat.lt_or_ge j n with h | h
      · exact h
      · exact absurd hj (tail_waits hs hc hn inv _ i rfl hin hun j h)
    refine ⟨hjn, ?_⟩
    by_cases hji : j = i
    · subst hji; exact hy.wpOp hi hS ⟨hS, H⟩
    · have := hdone _ _ _ H j (ready_mono hj hji)
      omega
  | succ f ih =>
    intro listed a w inv hfree hr hy hS H
    have hun := (mem_ready.1 hr).1
    refine ⟨fun h => (by rw [h] at hr; cases hr), fun j hj => ?_⟩
    have hjn : j < n := by
      rcases Nat.lt_or_ge j n with h | h
      · exact h
      · exact absurd hj (tail_waits hs hc hn inv _ i rfl hin hun j h)
    refine ⟨hjn, ?_⟩
    by_cases hji : j = i
    · subst hji; exact hy.wpOp hi hS ⟨hS, H⟩
    · have h1 := (H.2 j (ready_mono hj hji)).2
      obtain ⟨hjun, oj, hoj, hall⟩ := mem_ready.1 hj
      have hnot : ∀ e ∈ oj.after, Region.binds md e = true → e.on ≠ i := fun e he hb heq => by
        have h1 := hall e he hb
        rw [heq, getD_both hun] at h1
        cases h1
      have h2 := wpOp_putIf hoj (hfree j oj hoj hji hjun hnot) (fun cs b => hsel i oi cs b hi) (fun cs b => hsel j oj cs b hoj) hQ hy h1
      have hfree' : ∀ k ok, ops[k]? = some ok → k ≠ i → (listed.setIfInBounds j true).getD k true = false →
          (∀ e ∈ ok.after, Region.binds md e = true → e.on ≠ i) → oi.apart ops ok = true := fun k ok hk hki hun hno => by
        refine hfree k ok hk hki ?_ hno
        by_cases hjk : j = k
        · subst hjk; exact hjun
        · rw [getD_set_ne true hjk] at hun; exact hun
      refine wpOp_mono (fun a' w' h3 => ⟨h3.2.1, ih (listed.setIfInBounds j true) a' w' (inv.set hj hjn) hfree' (ready_mono hr (Ne.symm hji)) h3.1 h3.2.1 ?_⟩) h2
      rw [Array.setIfInBounds_comm _ _ hji]
      exact h3.2.2

structure TailOk (md : Region.Mode) (ops : Array Oper) (n : Nat) : Prop where
  sel : Region.noSelect ops = true
  lt : decide (n < ops.size) = true
  sink : Region.sinkB md ops n = true
  chain : Region.chainB md ops n = true
/-- behind the first n: the others, one behind the other -/
def TailL (P : Program) (md : Region.Mode) (ops : Array Oper) (Q : Exit → Act → World → Prop) (n : Nat) (listed : Array Bool) (a : Act) (w : World) : Prop :=
  Region.seqB md ops (ops.size - n) n listed = true ∧ wpList P ops Q (ops.toList.drop n) a w
def wpAnyT (P : Program) (md : Region.Mode) (ops : Array Oper) (Q : Exit → Act → World → Prop) (S : World → Prop) (n : Nat) := wpAnyK P md ops Q S n (TailL P md ops Q n)

theorem wp_region_held_tail {id : Nat} {a : Act} {w : World} (n : Nat) (hm : P.follows .mixedOrders = true) (hT : TailOk .any ops n) (hS : S w.drew)
    (h : TailOk .any ops n → HeadInv .any ops n (Array.replicate ops.size false) → S w.drew → wpAnyT P .any ops Q S n n (Array.replicate ops.size false) a w.drew) : (Code.region id ops true).wp P Q a w := by
  have inv0 : HeadInv .any ops n (Array.replicate ops.size false) :=
    ⟨by simp, fun j oj _ hl => (by rw [getD_replicate_false] at hl; cases hl), fun t _ ht => getD_in (by simpa using ht) (getD_replicate_false _ _)⟩
  refine wp_region_any hm ?_
  have hn := of_decide_eq_true hT.lt
  have hdl : (ops.toList.drop n).length = ops.size - n := by simp
  have := wpAny_of_headK (Q := Q) (S := S) (g := ops.size - n) (n := n) (L := TailL P .any ops Q n) (fun listed a' w' hL => by
    have := wpAny_of_seq (md := .any) (Q' := Q) (ops.toList.drop n) n listed a' w' (fun j => by simp [List.getElem?_drop]) (by rw [hdl]; exact hL.1) hL.2
    rwa [hdl] at this) n _ _ _ (h hT inv0 hS)
  rw [show n + (ops.size - n) = ops.size by omega] at this
  exact this

theorem take_atT {n : Nat} (i : Nat) {d : Nat} {op : Op} {ty : TypeId} {pos : String} {after : Array Edge} {guard : Option (Nat × Bool)} {v : Value} {fuel : Nat} {listed : Array Bool} {l l' : List Value} {df : List Deferred} {w : World}
    (hT : TailOk md ops n) (inv : HeadInv md ops n listed)
    (hi : ops[i]? = some ⟨some d, op, ty, pos, after, guard⟩) (hin : i < n)
    (hf : Region.free md ops listed i = true) (hr : (Region.ready md ops listed).contains i = true)
    (hQ : ∀ c a w, Q (.panic c) (a.put (some d) v) w → Q (.panic c) a w)
    (hw : Region.wanted ⟨some d, op, ty, pos, after, guard⟩ (yielded ops l.toArray) = true) (hS : S w)
    (hy : ∀ w, S w → (execOp (Act.eval ⟨l.toArray, df⟩) ⟨some d, op, ty, pos, after, guard⟩).run P w = .ok (.value v) w)
    (hl : l.set d v = l')
    (h : HeadInv md ops n (listed.setIfInBounds i true) → wpAnyT P md ops Q S n fuel (listed.setIfInBounds i true) ⟨l'.toArray, df⟩ w) : wpAnyT P md ops Q S n (fuel + 1) listed ⟨l.toArray, df⟩ w := by
  have hr' : i ∈ Region.ready md ops listed := by simpa using hr
  refine wpAnyK_first hi (Region.noSelect_spec hT.sel) hT.sink hT.chain (of_decide_eq_true hT.lt) hin hQ (fun listed' a' w' hL => seqB_ready hL.1) fuel listed _ w inv (Region.free_spec hi hf) hr' (.inl ⟨hw, hy⟩) hS ?_
  subst hl
  have := h (inv.set hr' hin)
  simpa [Act.put, wpAnyT] using this

theorem call_atT {n : Nat} (i : Nat) {d : Option Tmp} {op : Op} {ty : TypeId} {pos : String} {after : Array Edge} {guard : Option (Nat × Bool)} {fuel : Nat} {listed : Array Bool} {a : Act} {w : World}
    (inv : HeadInv md ops n listed) (ho : ops[i]? = some ⟨d, op, ty, pos, after, guard⟩) (hin : i < n) (hr : Region.ready md ops listed = [i])
    (hw : Region.wanted ⟨d, op, ty, pos, after, guard⟩ (yielded ops a.tmps) = true)
    (h : ∀ K' : Act → World → Prop, Shut (∀ a w, S w → (HeadInv md ops n (listed.setIfInBounds i true) → S w → wpAnyT P md ops Q S n fuel (listed.setIfInBounds i true) a w) → K' a w) → Oper.wp P ⟨d, op, ty, pos, after, guard⟩ a w K' Q) :
    wpAnyT P md ops Q S n (fuel + 1) listed a w := by
  refine ⟨by rw [hr]; simp, fun j hj => ?_⟩
  have hji : j = i := by rw [hr] at hj; simpa using hj
  subst hji
  refine ⟨hin, wpOp_step ho (fun K' hK => ?_)⟩
  rw [if_pos hw]
  exact h K' (fun a w hS hW => hK a w ⟨hS, hW (inv.set hj hin) hS⟩)

theorem done_atT {n : Nat} {l : List Oper} {listed : Array Bool} {a : Act} {w : World} (hs : Region.seqB md l.toArray (l.toArray.size - n) n listed = true) (h : wpList P l.toArray Q (l.drop n) a w) : wpAnyT P md l.toArray Q S n 0 listed a w := ⟨hs, h⟩
end
end Go.Proofs.Ytlbkpmcccipfhaa

namespace Go.Proofs.Ytlbkpmcccipfhaa
open Go.RowKit
set_option linter.unusedVariables false
set_option maxRecDepth 100000
theorem RowsW.lt {W : World} {L : List RowT} (h : RowsW W L) : ∀ r ∈ L, r.1 < W.heap.size := by
  induction L with
  | nil => intro r hr; cases hr
  | cons a L ih =>
    intro r hr
    rcases List.mem_cons.1 hr with rfl | hr
    · exact (Array.getElem?_eq_some_iff.1 h.1).1
    · exact ih h.2 r hr
section
variable {P : Program} {ops : Array Oper} {Q : Exit → Act → World → Prop} {md : Region.Mode} {w0 : World} {A p : Nat} {T : TypeId} {Z : Array Value}

/-- the block: there already, or not yet -/
def HB (w0 : World) (T : TypeId) (Z : Array Value) (o : Option Nat) (W : World) : Prop :=
  Below w0.heap.size w0 W ∧ ∀ g, o = some g → w0.heap.size ≤ g ∧ W.heap[g]? = some (.cells Z T (0, 0))
/-- the rest of the region, the alloc behind us or not -/
def XB (P : Program) (md : Region.Mode) (ops : Array Oper) (Q : Exit → Act → World → Prop) (w0 : World) (A p : Nat) : Option Nat → Nat → Array Bool → Act → World → Prop
  | none, f, listed, a, W => wpAnyH P md ops Q (fun W => Below w0.heap.size w0 W) (f + 1) listed a W
  | some g, f, listed, a, W => wpAnyH P md ops Q (fun W => Below w0.heap.size w0 W) f (listed.setIfInBounds A true) (a.put (some p) (.pointer (some ⟨g, 0, none⟩))) W

/-- operation A is the alloc -/
structure AllocAt (P : Program) (ops : Array Oper) (Q : Exit → Act → World → Prop) (A p : Nat) (T : TypeId) (Z : Array Value) : Prop where
  at_ : (ops[A]?.map fun o => (o.op, o.dst, o.guard)) = some (.alloc T, some p, none)
  sel : Region.noSelect ops = true
  run : ∀ u, (zeroValue T).run P u = .ok (.agg Z) u
  q : ∀ c a w, Q (.panic c) a w → False

theorem run_alloc_op {ρ : Operand → Value} {o : Oper} {w : World} (ho : o.op = .alloc T) (hz : ∀ u, (zeroValue T).run P u = .ok (.agg Z) u) :
    (execOp ρ o).run P w = .ok (.value (.pointer (some ⟨w.heap.size, 0, none⟩))) (w.alloc (.cells Z T)) := by
  unfold execOp
  simp [ho, Instr.alloc, hz, newVar, go_sem]

theorem Oper.wp_put' {x o : Oper} {v : Value} {a : Act} {w : World} {K : Act → World → Prop} (hap : x.apart ops o = true) (hso : ∀ cs b, o.op ≠ .select cs b)
    (hq : ∀ c a w, Q (.panic c) a w → False) (h : o.wp P a w (fun a' w' => K (a'.put x.dst v) w') Q) : o.wp P (a.put x.dst v) w K Q := by
  obtain ⟨h1, h2, h3⟩ := Oper.apart_spec hap
  unfold Oper.wp at *
  rw [execOp_put o hso a x.dst v h1]
  generalize (execOp a.eval o).run P w = r at *
  cases r with
  | ok n w' =>
    cases n <;> simp only [Oper.upon] at h ⊢
    case value u => rw [Act.put_comm a v u h2]; exact h
    case skip => rw [Act.put_comm a v undef h2]; exact h
    case defer d =>
      rw [Act.put_defers, Act.put_comm _ v undef h2]
      exact h
    case enter f args =>
      refine Calls.mono h fun e w'' he => ?_
      cases e with
      | returned u =>
        show K ((a.put x.dst v).put o.dst u) w''
        rw [Act.put_comm a v u h2]; exact he
      | panicked c => exact (hq _ _ _ he).elim
      | outgrown => exact he
    case row row args => exact Rows.mono h fun u w'' he => by rw [Act.put_comm a v u h2]; exact he
  | halt x w' =>
    cases x <;> simp only [Oper.upon] at h ⊢
    case panic u => exact (hq _ _ _ h).elim
    all_goals exact h

theorem HB.al {o : Option Nat} {W : World} (h : HB w0 T Z o W) : HB w0 T Z (some W.heap.size) (W.alloc (.cells Z T)) :=
  ⟨h.1.alloc h.1.size _, fun g e => by injection e with e; subst e; exact ⟨h.1.size, heap_alloc_new _ _⟩⟩
theorem HB.next {o : Option Nat} {W W' : World} (h : HB w0 T Z o W) (hb : Below W.heap.size W W') : HB w0 T Z o W' :=
  ⟨h.1.trans (hb.mono h.1.size), fun g e => ⟨(h.2 g e).1, by rw [hb.block _ (Array.getElem?_eq_some_iff.1 (h.2 g e).2).1]; exact (h.2 g e).2⟩⟩

theorem wp_region_heldB {id : Nat} {a : Act} {w : World} (A p : Nat) (T : TypeId) (Z : Array Value) (hm : P.follows .mixedOrders = true) (h0 : decide (0 < ops.size) = true) (hA : AllocAt P ops Q A p T Z)
    (h : AllocAt P ops Q A p T Z → HB w T Z none w.drew → XB P .any ops Q w A p none (ops.size - 1) (Array.replicate ops.size false) a w.drew) : (Code.region id ops true).wp P Q a w := by
  have hb : Below w.heap.size w w.drew := (Below.refl _ _).drew
  have hn := of_decide_eq_true h0
  refine wp_region_held (S := fun W => Below w.heap.size w W) hm ?_
  have := h hA ⟨hb, fun g e => by cases e⟩
  have hk : (ops.size - 1) + 1 = ops.size := by omega
  simp only [XB] at this
  rw [hk] at this
  exact this

/-- an operation that is stable -/
theorem take_atB (i : Nat) {d : Nat} {op : Op} {ty : TypeId} {pos : String} {after : Array Edge} {guard : Option (Nat × Bool)} {v : Value} {f : Nat} {listed : Array Bool} {l l' : List Value} {df : List Deferred} {o : Option Nat} {W : World}
    (hA : AllocAt P ops Q A p T Z)
    (hi : ops[i]? = some ⟨some d, op, ty, pos, after, guard⟩)
    (hf : Region.free md ops listed i = true) (hf1 : Region.free md ops (listed.setIfInBounds A true) i = true)
    (hr : (Region.ready md ops listed).contains i = true) (hr1 : (Region.ready md ops (listed.setIfInBounds A true)).contains i = true)
    (hap : (ops[A]?.map fun oA => oA.apart ops ⟨some d, op, ty, pos, after, guard⟩) = some true) (hAi : (A != i) = true)
    (hw : Region.wanted ⟨some d, op, ty, pos, after, guard⟩ (yielded ops l.toArray) = true) (hS : HB w0 T Z o W)
    (hy : ∀ W, Below w0.heap.size w0 W → (execOp (Act.eval ⟨l.toArray, df⟩) ⟨some d, op, ty, pos, after, guard⟩).run P W = .ok (.value v) W)
    (hl : l.set d v = l')
    (h : XB P md ops Q w0 A p o f (listed.setIfInBounds i true) ⟨l'.toArray, df⟩ W) : XB P md ops Q w0 A p o (f + 1) listed ⟨l.toArray, df⟩ W := by
  have hp : ∀ (c : List PanicEntry) (a : Act) (w : World), Q (.panic c) (a.put (some d) v) w → Q (.panic c) a w := fun c a w h => (hA.q _ _ _ h).elim
  obtain ⟨oA, hoA⟩ : ∃ oA, ops[A]? = some oA := by
    cases hq : ops[A]? with
    | none => have := hA.at_; rw [hq] at this; cases this
    | some oA => exact ⟨oA, rfl⟩
  have e1 := hA.at_
  rw [hoA] at e1 hap
  simp only [Option.map_some, Option.some.injEq, Prod.mk.injEq] at e1 hap
  obtain ⟨h1, h2, h3⟩ := Oper.apart_spec hap
  subst hl
  cases o with
  | none =>
    unfold XB at *
    refine wpAnyH_take hi hA.sel hf hr hp (.inl ⟨hw, hy⟩) hS.1 ?_
    simpa [Act.put] using h
  | some g =>
    unfold XB at *
    have hsel := Region.noSelect_spec hA.sel
    refine wpAnyH_take (v := v) hi hA.sel hf1 hr1 hp ?_ hS.1 ?_
    · have hy0 : YieldsIf P ops (fun W => Below w0.heap.size w0 W) ⟨some d, op, ty, pos, after, guard⟩ v ⟨l.toArray, df⟩ := .inl ⟨hw, hy⟩
      rw [e1.2.1] at h1
      exact hy0.of_same (execOp_put _ (fun cs b => hsel i _ cs b hi) _ _ _ h1) (wanted_put _ _ _ _ h1)
    · rw [e1.2.1] at h2
      rw [Act.put_comm _ _ _ h2, Array.setIfInBounds_comm _ _ (by simpa using hAi)]
      simpa [Act.put] using h

/-- a call: whatever world it meets -/
theorem call_atB (i : Nat) {d : Option Tmp} {op : Op} {ty : TypeId} {pos : String} {after : Array Edge} {guard : Option (Nat × Bool)} {f : Nat} {listed : Array Bool} {a : Act} {o : Option Nat} {W : World}
    (hA : AllocAt P ops Q A p T Z)
    (hi : ops[i]? = some ⟨d, op, ty, pos, after, guard⟩)
    (hr : ((Region.ready md ops listed).all fun j => j == i || j == A) = true) (hr0 : (Region.ready md ops listed).isEmpty = false) (hr1 : Region.ready md ops (listed.setIfInBounds A true) = [i])
    (hap : (ops[A]?.map fun oA => oA.apart ops ⟨d, op, ty, pos, after, guard⟩) = some true) (hAi : (A != i) = true)
    (hw : Region.wanted ⟨d, op, ty, pos, after, guard⟩ (yielded ops a.tmps) = true) (hS : HB w0 T Z o W)
    (h : ∀ (o : Option Nat) (W : World), HB w0 T Z o W → ∀ K' : Act → World → Prop,
      Shut (∀ a' W', Below W.heap.size W W' → (HB w0 T Z o W' → XB P md ops Q w0 A p o f (listed.setIfInBounds i true) a' W') → K' a' W') → Oper.wp P ⟨d, op, ty, pos, after, guard⟩ a W K' Q) :
    XB P md ops Q w0 A p o (f + 1) listed a W := by
  obtain ⟨oA, hoA⟩ : ∃ oA, ops[A]? = some oA := by
    cases hq : ops[A]? with
    | none => have := hA.at_; rw [hq] at this; cases this
    | some oA => exact ⟨oA, rfl⟩
  have e1 := hA.at_
  rw [hoA] at e1 hap
  simp only [Option.map_some, Option.some.injEq, Prod.mk.injEq] at e1 hap
  have hne : A ≠ i := by simpa using hAi
  have hsel := Region.noSelect_spec hA.sel
  have hwA : ∀ a : Act, Region.wanted oA (yielded ops a.tmps) = true := fun a => by unfold Region.wanted; rw [e1.2.2]
  have some_ : ∀ g W, HB w0 T Z (some g) W → XB P md ops Q w0 A p (some g) (f + 1) listed a W := fun g W hS => by
    unfold XB
    refine wpAnyH_all hr1 (by simp) fun j hj => ?_
    have hji : j = i := by simpa using hj
    subst hji
    refine wpOp_step hi fun K' hK => ?_
    have hd := hap
    obtain ⟨h1, h2, h3⟩ := Oper.apart_spec hd
    rw [e1.2.1] at h1
    rw [wanted_put _ a _ _ h1, if_pos hw]
    have hx := h (some g) W hS (fun a' W' => K' (a'.put oA.dst (.pointer (some ⟨g, 0, none⟩))) W') (fun a' W' hb hX => hK _ _ ?_)
    · have := Oper.wp_put' (x := oA) (o := ⟨d, op, ty, pos, after, guard⟩) (v := .pointer (some ⟨g, 0, none⟩)) hap (fun cs b => hsel j _ cs b hi) hA.q hx
      rwa [e1.2.1] at this
    · have hn := hS.next hb
      refine ⟨hn.1, ?_⟩
      have hX' := hX hn
      unfold XB at hX'
      rw [e1.2.1, Array.setIfInBounds_comm _ _ hne]
      exact hX'
  cases o with
  | some g => exact some_ g W hS
  | none =>
    unfold XB
    refine wpAnyH_all rfl (by intro e; rw [e] at hr0; cases hr0) fun j hj => ?_
    have hj2 := List.all_eq_true.1 hr j hj
    simp only [Bool.or_eq_true, beq_iff_eq] at hj2
    rcases hj2 with rfl | rfl
    · refine wpOp_step hi fun K' hK => ?_
      rw [if_pos hw]
      exact h none W hS K' (fun a' W' hb hX => hK _ _ ⟨(hS.next hb).1, by have := hX (hS.next hb); unfold XB at this; exact this⟩)
    · refine wpOp_step hoA fun K' hK => ?_
      rw [if_pos (hwA a)]
      unfold Oper.wp
      rw [run_alloc_op e1.1 hA.run]
      refine hK _ _ ⟨hS.al.1, ?_⟩
      have := some_ W.heap.size _ hS.al
      unfold XB at this
      rw [e1.2.1]
      exact this

/-- the store into the new block; what is left behind it waits for it -/
theorem store_atB (s : Nat) {ty : TypeId} {pos : String} {after : Array Edge} {y : Operand} {f : Nat} {listed : Array Bool} {l : List Value} {l' : Nat → List Value} {df : List Deferred} {o : Option Nat} {W : World} {cs : Array Value}
    (hA : AllocAt P ops Q A p T Z)
    (hi : ops[s]? = some ⟨none, .store T (.tmp p) y, ty, pos, after, none⟩)
    (hr : ((Region.ready md ops listed).all fun j => j == A) = true) (hr0 : (Region.ready md ops listed).isEmpty = false) (hr1 : Region.ready md ops (listed.setIfInBounds A true) = [s])
    (hS : HB w0 T Z o W) (hp : decide (p < l.length) = true) (hy : Act.eval ⟨l.toArray, df⟩ y = .agg cs) (hyp : y ≠ .tmp p) (hinf : (P.info? T).map (·.size) = some cs.size) (hsz : Z.size = cs.size) (h1 : cs.all (·.oneCell') = true)
    (hl : ∀ g, l.set p (.pointer (some ⟨g, 0, none⟩)) = l' g)
    (h : ∀ g W', w0.heap.size ≤ g → Below w0.heap.size w0 W' → W'.heap[g]? = some (.cells cs T (0, 0)) → wpAnyH P md ops Q (fun W => Below w0.heap.size w0 W) f ((listed.setIfInBounds A true).setIfInBounds s true) ⟨(l' g).toArray, df⟩ W') :
    XB P md ops Q w0 A p o (f + 1) listed ⟨l.toArray, df⟩ W := by
  have hp := of_decide_eq_true hp
  obtain ⟨oA, hoA⟩ : ∃ oA, ops[A]? = some oA := by
    cases hq : ops[A]? with
    | none => have := hA.at_; rw [hq] at this; cases this
    | some oA => exact ⟨oA, rfl⟩
  have e1 := hA.at_
  rw [hoA] at e1
  simp only [Option.map_some, Option.some.injEq, Prod.mk.injEq] at e1
  have some_ : ∀ g W, HB w0 T Z (some g) W → XB P md ops Q w0 A p (some g) (f + 1) listed ⟨l.toArray, df⟩ W := fun g W hS => by
    unfold XB
    refine wpAnyH_all hr1 (by simp) fun j hj => ?_
    have hji : j = s := by simpa using hj
    subst hji
    refine wpOp_step hi fun K' hK => ?_
    have hg := hS.2 g rfl
    rw [if_pos (by rfl)]
    refine wp_store_row T (.tmp p) y rfl g cs ?_ ?_ T Z hg.2 hinf hsz h1 (hK _ _ ?_)
    · simp [Act.eval, Act.put, hp]
    · rw [Act.eval_put (fun d hd => by injection hd with hd; subst hd; exact hyp)]
      exact hy
    · refine ⟨below_row hS.1 hg.1, ?_⟩
      have := h g _ hg.1 (below_row hS.1 hg.1) (setRow_heap _ _ _ _ _ _ hg.2)
      rw [← hl g] at this
      simpa [Act.put] using this
  cases o with
  | some g => exact some_ g W hS
  | none =>
    unfold XB
    refine wpAnyH_all rfl (by intro e; rw [e] at hr0; cases hr0) fun j hj => ?_
    have hj2 := List.all_eq_true.1 hr j hj
    simp only [beq_iff_eq] at hj2
    subst hj2
    refine wpOp_step hoA fun K' hK => ?_
    rw [if_pos (by unfold Region.wanted; rw [e1.2.2])]
    unfold Oper.wp
    rw [run_alloc_op e1.1 hA.run]
    refine hK _ _ ⟨hS.al.1, ?_⟩
    have := some_ W.heap.size _ hS.al
    unfold XB at this
    rw [e1.2.1]
    exact this
end
end Go.Proofs.Ytlbkpmcccipfhaa

