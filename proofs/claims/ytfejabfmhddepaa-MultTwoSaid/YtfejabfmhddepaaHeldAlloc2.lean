/- A region that draws its order, with two allocs that stand free among calls that wait for one another, and stores into the new blocks at its end ('a, b := f(x), g(y)'): walked once, wherever the allocs come up. No program is named here. -/
import Derived.Test.YtfejabfmhddepaaGheld
namespace Go.Proofs.Ytfejabfmhddepaa
open Go.RowKit
set_option linter.unusedVariables false
set_option maxRecDepth 100000
section
variable {P : Program} {ops : Array Oper} {Q : Exit → Act → World → Prop} {md : Region.Mode} {w0 : World} {A p B q : Nat} {T T' : TypeId} {Z Z' : Array Value}

def lst2 (A : Nat) (o : Option Nat) (l : Array Bool) : Array Bool := match o with | none => l | some _ => l.setIfInBounds A true
def act2 (p : Nat) (o : Option Nat) (a : Act) : Act := match o with | none => a | some g => a.put (some p) (.pointer (some ⟨g, 0, none⟩))
def fu2 (o : Option Nat) : Nat := match o with | none => 1 | some _ => 0
/-- the two blocks: there already, or not yet -/
structure HB2 (w0 : World) (T : TypeId) (Z : Array Value) (T' : TypeId) (Z' : Array Value) (o o' : Option Nat) (W : World) : Prop where
  l : HB w0 T Z o W
  r : HB w0 T' Z' o' W
  ne : ∀ g g', o = some g → o' = some g' → g ≠ g'
/-- the rest of the region, the allocs behind us or not -/
def XB2 (P : Program) (md : Region.Mode) (ops : Array Oper) (Q : Exit → Act → World → Prop) (w0 : World) (A p B q : Nat) (o o' : Option Nat) (f : Nat) (listed : Array Bool) (a : Act) (W : World) : Prop :=
  wpAnyH P md ops Q (fun W => Below w0.heap.size w0 W) (f + fu2 o + fu2 o') (lst2 B o' (lst2 A o listed)) (act2 q o' (act2 p o a)) W
/-- operations A and B are the allocs -/
structure AllocAt2 (P : Program) (ops : Array Oper) (Q : Exit → Act → World → Prop) (A p : Nat) (T : TypeId) (Z : Array Value) (B q : Nat) (T' : TypeId) (Z' : Array Value) : Prop where
  l : AllocAt P ops Q A p T Z
  r : AllocAt P ops Q B q T' Z'
  ne : (A != B && p != q) = true

theorem HB2.al {o' : Option Nat} {W : World} (h : HB2 w0 T Z T' Z' none o' W) : HB2 w0 T Z T' Z' (some W.heap.size) o' (W.alloc (.cells Z T)) :=
  ⟨h.l.al, h.r.next ((Below.refl _ W).alloc (Nat.le_refl _) _), fun g g' e e' => by
    injection e with e; subst e
    have := (Array.getElem?_eq_some_iff.1 (h.r.2 g' e').2).1
    omega⟩
theorem HB2.ar {o : Option Nat} {W : World} (h : HB2 w0 T Z T' Z' o none W) : HB2 w0 T Z T' Z' o (some W.heap.size) (W.alloc (.cells Z' T')) :=
  ⟨h.l.next ((Below.refl _ W).alloc (Nat.le_refl _) _), h.r.al, fun g g' e e' => by
    injection e' with e'; subst e'
    have := (Array.getElem?_eq_some_iff.1 (h.l.2 g e).2).1
    omega⟩
theorem HB2.next {o o' : Option Nat} {W W' : World} (h : HB2 w0 T Z T' Z' o o' W) (hb : Below W.heap.size W W') : HB2 w0 T Z T' Z' o o' W' :=
  ⟨h.l.next hb, h.r.next hb, h.ne⟩

theorem lst2_set (A i : Nat) (o : Option Nat) (l : Array Bool) (h : A ≠ i) : lst2 A o (l.setIfInBounds i true) = (lst2 A o l).setIfInBounds i true := by
  cases o with
  | none => rfl
  | some g => exact Array.setIfInBounds_comm _ _ (Ne.symm h)
theorem act2_put (p : Nat) (o : Option Nat) (a : Act) (d : Option Tmp) (v : Value) (h : some p ≠ d) : act2 p o (a.put d v) = (act2 p o a).put d v := by
  cases o with
  | none => rfl
  | some g => exact Act.put_comm (x := d) (y := some p) a v _ (fun x hx hy => h (hy.trans hx.symm))
theorem AllocAt.get {A p : Nat} {T : TypeId} {Z : Array Value} (h : AllocAt P ops Q A p T Z) : ∃ oA, ops[A]? = some oA ∧ oA.op = .alloc T ∧ oA.dst = some p ∧ oA.guard = none := by
  cases hq : ops[A]? with
  | none => have := h.at_; rw [hq] at this; cases this
  | some oA =>
    have e := h.at_
    rw [hq] at e
    simp only [Option.map_some, Option.some.injEq, Prod.mk.injEq] at e
    exact ⟨oA, rfl, e.1, e.2.1, e.2.2⟩

theorem getD_set_true (l : Array Bool) (i : Nat) : (l.setIfInBounds i true).getD i true = true := by
  rw [Array.getD_eq_getD_getElem?, Array.getElem?_setIfInBounds, if_pos rfl]
  split <;> rfl
theorem ready_ne {l : Array Bool} {s : Nat} (hs : s ∈ Region.ready md ops ((l.setIfInBounds A true).setIfInBounds B true)) (hne : A ≠ B) : s ≠ A ∧ s ≠ B := by
  have h1 := (mem_ready.1 hs).1
  refine ⟨fun e => ?_, fun e => ?_⟩
  · subst e
    rw [getD_set_ne true (Ne.symm hne), getD_set_true] at h1
    cases h1
  · subst e
    rw [getD_set_true] at h1
    cases h1
theorem wp_region_heldB2 {id : Nat} {a : Act} {w : World} (A p : Nat) (T : TypeId) (Z : Array Value) (B q : Nat) (T' : TypeId) (Z' : Array Value) (hm : P.follows .mixedOrders = true) (h0 : decide (1 < ops.size) = true) (hA : AllocAt2 P ops Q A p T Z B q T' Z')
    (h : AllocAt2 P ops Q A p T Z B q T' Z' → HB2 w T Z T' Z' none none w.drew → XB2 P .any ops Q w A p B q none none (ops.size - 2) (Array.replicate ops.size false) a w.drew) : (Code.region id ops true).wp P Q a w := by
  have hb : Below w.heap.size w w.drew := (Below.refl _ _).drew
  have hn := of_decide_eq_true h0
  refine wp_region_held (S := fun W => Below w.heap.size w W) hm ?_
  have := h hA ⟨⟨hb, fun g e => by cases e⟩, ⟨hb, fun g e => by cases e⟩, fun g g' e => by cases e⟩
  have hk : (ops.size - 2) + 1 + 1 = ops.size := by omega
  simp only [XB2, fu2, lst2, act2] at this
  rw [hk] at this
  exact this

/-- what a stable operation gives does not hang on the allocs -/
theorem act2_yields {A p : Nat} {T : TypeId} {Z : Array Value} {S : World → Prop} {oi : Oper} {v : Value} {a : Act} {o : Option Nat} (hsel : ∀ cs b, oi.op ≠ .select cs b) (hn : p ∉ oi.looksAt ops)
    (hy : YieldsIf P ops S oi v a) : YieldsIf P ops S oi v (act2 p o a) := by
  cases o with
  | none => exact hy
  | some g =>
    have h1 : ∀ d, some p = some d → d ∉ oi.looksAt ops := fun d hd => by injection hd with hd; subst hd; exact hn
    exact hy.of_same (execOp_put _ hsel _ _ _ h1) (wanted_put _ _ _ _ h1)

/-- an operation that is stable -/
theorem take_atB2 (i : Nat) {d : Nat} {op : Op} {ty : TypeId} {pos : String} {after : Array Edge} {guard : Option (Nat × Bool)} {v : Value} {f : Nat} {listed : Array Bool} {l l' : List Value} {df : List Deferred} {o o' : Option Nat} {W : World}
    (hA : AllocAt2 P ops Q A p T Z B q T' Z')
    (hi : ops[i]? = some ⟨some d, op, ty, pos, after, guard⟩)
    (hf : (Region.free md ops listed i && Region.free md ops (listed.setIfInBounds A true) i && Region.free md ops (listed.setIfInBounds B true) i && Region.free md ops ((listed.setIfInBounds A true).setIfInBounds B true) i) = true)
    (hr : ((Region.ready md ops listed).contains i && (Region.ready md ops (listed.setIfInBounds A true)).contains i && (Region.ready md ops (listed.setIfInBounds B true)).contains i && (Region.ready md ops ((listed.setIfInBounds A true).setIfInBounds B true)).contains i) = true)
    (hap : (ops[A]?.map fun oA => oA.apart ops ⟨some d, op, ty, pos, after, guard⟩) = some true) (hbp : (ops[B]?.map fun oA => oA.apart ops ⟨some d, op, ty, pos, after, guard⟩) = some true) (hAi : (A != i && B != i) = true)
    (hw : Region.wanted ⟨some d, op, ty, pos, after, guard⟩ (yielded ops l.toArray) = true) (hS : HB2 w0 T Z T' Z' o o' W)
    (hy : ∀ W, Below w0.heap.size w0 W → (execOp (Act.eval ⟨l.toArray, df⟩) ⟨some d, op, ty, pos, after, guard⟩).run P W = .ok (.value v) W)
    (hl : l.set d v = l')
    (h : XB2 P md ops Q w0 A p B q o o' f (listed.setIfInBounds i true) ⟨l'.toArray, df⟩ W) : XB2 P md ops Q w0 A p B q o o' (f + 1) listed ⟨l.toArray, df⟩ W := by
  have hp : ∀ (c : List PanicEntry) (a : Act) (w : World), Q (.panic c) (a.put (some d) v) w → Q (.panic c) a w := fun c a w h => (hA.l.q _ _ _ h).elim
  obtain ⟨oA, hoA, a1, a2, a3⟩ := hA.l.get
  obtain ⟨oB, hoB, b1, b2, b3⟩ := hA.r.get
  rw [hoA] at hap
  rw [hoB] at hbp
  simp only [Option.map_some, Option.some.injEq] at hap hbp
  obtain ⟨h1, h2, h3⟩ := Oper.apart_spec hap
  obtain ⟨k1, k2, k3⟩ := Oper.apart_spec hbp
  rw [a2] at h1 h2
  rw [b2] at k1 k2
  simp only [Bool.and_eq_true, bne_iff_ne] at hf hr hAi
  have hsel := Region.noSelect_spec hA.l.sel
  subst hl
  unfold XB2 at *
  have ea : act2 q o' (act2 p o ⟨(l.set d v).toArray, df⟩) = (act2 q o' (act2 p o ⟨l.toArray, df⟩)).put (some d) v := by
    have e0 : (⟨(l.set d v).toArray, df⟩ : Act) = (⟨l.toArray, df⟩ : Act).put (some d) v := by simp [Act.put]
    rw [e0, act2_put p o _ _ _ (fun e => h2 p rfl e.symm), act2_put q o' _ _ _ (fun e => k2 q rfl e.symm)]
  rw [ea, lst2_set A i o listed hAi.1, lst2_set B i o' _ hAi.2] at h
  rw [show f + 1 + fu2 o + fu2 o' = (f + fu2 o + fu2 o') + 1 by omega]
  have hy0 : YieldsIf P ops (fun W => Below w0.heap.size w0 W) ⟨some d, op, ty, pos, after, guard⟩ v ⟨l.toArray, df⟩ := .inl ⟨hw, hy⟩
  have hy1 := act2_yields (A := A) (T := T) (Z := Z) (p := p) (o := o) (fun cs b => hsel i _ cs b hi) (h1 p rfl) hy0
  have hy2 := act2_yields (A := B) (T := T) (Z := Z) (p := q) (o := o') (fun cs b => hsel i _ cs b hi) (k1 q rfl) hy1
  refine wpAnyH_take hi hA.l.sel ?_ ?_ hp hy2 hS.l.1 h
  · cases o <;> cases o'
    · exact hf.1.1.1
    · exact hf.1.2
    · exact hf.1.1.2
    · exact hf.2
  · cases o <;> cases o'
    · exact hr.1.1.1
    · exact hr.1.2
    · exact hr.1.1.2
    · exact hr.2

/-- the allocs that are not behind us yet: each may come up, then the rest stands as before -/
theorem allocs_atB2 {f : Nat} {listed : Array Bool} {a : Act} (hA : AllocAt2 P ops Q A p T Z B q T' Z')
    (i : Nat) (good : ∀ o o' W, HB2 w0 T Z T' Z' o o' W → i ∈ Region.ready md ops (lst2 B o' (lst2 A o listed)) → wpOp P ops Q i (fun a' w' => Below w0.heap.size w0 w' ∧ wpAnyH P md ops Q (fun W => Below w0.heap.size w0 W) (f + fu2 o + fu2 o') ((lst2 B o' (lst2 A o listed)).setIfInBounds i true) a' w') (act2 q o' (act2 p o a)) W)
    (r0 : ((Region.ready md ops listed).all fun j => j == i || j == A || j == B) = true) (r1 : ((Region.ready md ops (listed.setIfInBounds A true)).all fun j => j == i || j == B) = true)
    (r2 : ((Region.ready md ops (listed.setIfInBounds B true)).all fun j => j == i || j == A) = true) (r3 : Region.ready md ops ((listed.setIfInBounds A true).setIfInBounds B true) = [i])
    (e0 : ((Region.ready md ops listed).isEmpty || (Region.ready md ops (listed.setIfInBounds A true)).isEmpty || (Region.ready md ops (listed.setIfInBounds B true)).isEmpty) = false) :
    ∀ o o' W, HB2 w0 T Z T' Z' o o' W → XB2 P md ops Q w0 A p B q o o' (f + 1) listed a W := by
  obtain ⟨oA, hoA, a1, a2, a3⟩ := hA.l.get
  obtain ⟨oB, hoB, b1, b2, b3⟩ := hA.r.get
  have hne := hA.ne
  simp only [Bool.and_eq_true, bne_iff_ne] at hne
  simp only [Bool.or_eq_false_iff] at e0
  have hwA : ∀ a : Act, Region.wanted oA (yielded ops a.tmps) = true := fun a => by unfold Region.wanted; rw [a3]
  have hwB : ∀ a : Act, Region.wanted oB (yielded ops a.tmps) = true := fun a => by unfold Region.wanted; rw [b3]
  -- the first alloc, wherever the second is
  have goA : ∀ o' W, HB2 w0 T Z T' Z' none o' W → XB2 P md ops Q w0 A p B q (some W.heap.size) o' (f + 1) listed a (W.alloc (.cells Z T)) →
      wpOp P ops Q A (fun a' w' => Below w0.heap.size w0 w' ∧ wpAnyH P md ops Q (fun W => Below w0.heap.size w0 W) (f + 1 + fu2 o') ((lst2 B o' listed).setIfInBounds A true) a' w') (act2 q o' a) W := fun o' W hS hX => by
    refine wpOp_step hoA fun K' hK => ?_
    rw [if_pos (hwA _)]
    unfold Oper.wp
    rw [run_alloc_op a1 hA.l.run]
    refine hK _ _ ⟨hS.al.l.1, ?_⟩
    unfold XB2 at hX
    rw [show lst2 A (some W.heap.size) listed = listed.setIfInBounds A true from rfl, lst2_set B A o' _ (Ne.symm hne.1), show act2 p (some W.heap.size) a = a.put (some p) (.pointer (some ⟨W.heap.size, 0, none⟩)) from rfl, act2_put q o' _ _ _ (fun e => hne.2 (by injection e with e; exact e.symm))] at hX
    rw [a2]
    exact hX
  have goB : ∀ o W, HB2 w0 T Z T' Z' o none W → XB2 P md ops Q w0 A p B q o (some W.heap.size) (f + 1) listed a (W.alloc (.cells Z' T')) →
      wpOp P ops Q B (fun a' w' => Below w0.heap.size w0 w' ∧ wpAnyH P md ops Q (fun W => Below w0.heap.size w0 W) (f + 1 + fu2 o) ((lst2 A o listed).setIfInBounds B true) a' w') (act2 p o a) W := fun o W hS hX => by
    refine wpOp_step hoB fun K' hK => ?_
    rw [if_pos (hwB _)]
    unfold Oper.wp
    rw [run_alloc_op b1 hA.r.run]
    refine hK _ _ ⟨hS.ar.l.1, ?_⟩
    rw [b2]
    exact hX
  have ss : ∀ g g' W, HB2 w0 T Z T' Z' (some g) (some g') W → XB2 P md ops Q w0 A p B q (some g) (some g') (f + 1) listed a W := fun g g' W hS => by
    unfold XB2
    show wpAnyH P md ops Q _ (f + 1) ((listed.setIfInBounds A true).setIfInBounds B true) _ W
    refine wpAnyH_all r3 (by simp) fun j hj => ?_
    have hji : j = i := by simpa using hj
    subst hji
    exact good (some g) (some g') W hS (by show j ∈ Region.ready md ops ((listed.setIfInBounds A true).setIfInBounds B true); rw [r3]; exact hj)
  have sn : ∀ g W, HB2 w0 T Z T' Z' (some g) none W → XB2 P md ops Q w0 A p B q (some g) none (f + 1) listed a W := fun g W hS => by
    unfold XB2
    show wpAnyH P md ops Q _ (f + 1 + 1) (listed.setIfInBounds A true) _ W
    refine wpAnyH_all rfl (by intro e; rw [e] at e0; exact absurd e0.1.2 (by simp)) fun j hj => ?_
    have hj2 := List.all_eq_true.1 r1 j hj
    simp only [Bool.or_eq_true, beq_iff_eq] at hj2
    rcases hj2 with rfl | rfl
    · exact good (some g) none W hS hj
    · exact goB (some g) W hS (ss g _ _ hS.ar)
  have ns : ∀ g W, HB2 w0 T Z T' Z' none (some g) W → XB2 P md ops Q w0 A p B q none (some g) (f + 1) listed a W := fun g W hS => by
    unfold XB2
    show wpAnyH P md ops Q _ (f + 1 + 1) (listed.setIfInBounds B true) _ W
    refine wpAnyH_all rfl (by intro e; rw [e] at e0; exact absurd e0.2 (by simp)) fun j hj => ?_
    have hj2 := List.all_eq_true.1 r2 j hj
    simp only [Bool.or_eq_true, beq_iff_eq] at hj2
    rcases hj2 with rfl | rfl
    · exact good none (some g) W hS hj
    · exact goA (some g) W hS (ss _ g _ hS.al)
  intro o o' W hS
  cases o with
  | some g =>
    cases o' with
    | some g' => exact ss g g' W hS
    | none => exact sn g W hS
  | none =>
    cases o' with
    | some g' => exact ns g' W hS
    | none =>
      unfold XB2
      show wpAnyH P md ops Q _ (f + 1 + 1 + 1) listed _ W
      refine wpAnyH_all rfl (by intro e; rw [e] at e0; exact absurd e0.1.1 (by simp)) fun j hj => ?_
      have hj2 := List.all_eq_true.1 r0 j hj
      simp only [Bool.or_eq_true, beq_iff_eq] at hj2
      rcases hj2 with (rfl | rfl) | rfl
      · exact good none none W hS hj
      · exact goA none W hS (sn _ _ hS.al)
      · exact goB none W hS (ns _ _ hS.ar)

/-- a call: whatever world it meets -/
theorem call_atB2 (i : Nat) {d : Option Tmp} {op : Op} {ty : TypeId} {pos : String} {after : Array Edge} {guard : Option (Nat × Bool)} {f : Nat} {listed : Array Bool} {a : Act} {o o' : Option Nat} {W : World}
    (hA : AllocAt2 P ops Q A p T Z B q T' Z')
    (hi : ops[i]? = some ⟨d, op, ty, pos, after, guard⟩)
    (r0 : ((Region.ready md ops listed).all fun j => j == i || j == A || j == B) = true) (r1 : ((Region.ready md ops (listed.setIfInBounds A true)).all fun j => j == i || j == B) = true)
    (r2 : ((Region.ready md ops (listed.setIfInBounds B true)).all fun j => j == i || j == A) = true) (r3 : Region.ready md ops ((listed.setIfInBounds A true).setIfInBounds B true) = [i])
    (e0 : ((Region.ready md ops listed).isEmpty || (Region.ready md ops (listed.setIfInBounds A true)).isEmpty || (Region.ready md ops (listed.setIfInBounds B true)).isEmpty) = false)
    (hap : (ops[A]?.map fun oA => oA.apart ops ⟨d, op, ty, pos, after, guard⟩) = some true) (hbp : (ops[B]?.map fun oA => oA.apart ops ⟨d, op, ty, pos, after, guard⟩) = some true) (hAi : (A != i && B != i) = true)
    (hw : Region.wanted ⟨d, op, ty, pos, after, guard⟩ (yielded ops a.tmps) = true) (hS : HB2 w0 T Z T' Z' o o' W)
    (h : ∀ (o o' : Option Nat) (W : World), HB2 w0 T Z T' Z' o o' W → ∀ K' : Act → World → Prop,
      Shut (∀ a' W', Below W.heap.size W W' → (HB2 w0 T Z T' Z' o o' W' → XB2 P md ops Q w0 A p B q o o' f (listed.setIfInBounds i true) a' W') → K' a' W') → Oper.wp P ⟨d, op, ty, pos, after, guard⟩ a W K' Q) :
    XB2 P md ops Q w0 A p B q o o' (f + 1) listed a W := by
  obtain ⟨oA, hoA, a1, a2, a3⟩ := hA.l.get
  obtain ⟨oB, hoB, b1, b2, b3⟩ := hA.r.get
  rw [hoA] at hap
  rw [hoB] at hbp
  simp only [Option.map_some, Option.some.injEq] at hap hbp
  obtain ⟨h1, h2, h3⟩ := Oper.apart_spec hap
  obtain ⟨k1, k2, k3⟩ := Oper.apart_spec hbp
  rw [a2] at h1 h2
  rw [b2] at k1 k2
  simp only [Bool.and_eq_true, bne_iff_ne] at hAi
  have hsel := Region.noSelect_spec hA.l.sel
  have eA : ∀ v : Value, (fun (a : Act) => a.put oA.dst v) = fun a => a.put (some p) v := fun v => by rw [a2]
  refine allocs_atB2 hA i (fun o o' W hS _ => ?_) r0 r1 r2 r3 e0 o o' W hS
  refine wpOp_step hi fun K' hK => ?_
  have hwp : Region.wanted ⟨d, op, ty, pos, after, guard⟩ (yielded ops (act2 q o' (act2 p o a)).tmps) = true := by
    have e1 : Region.wanted ⟨d, op, ty, pos, after, guard⟩ (yielded ops (act2 p o a).tmps) = true := by
      cases o with
      | none => exact hw
      | some g => rw [show act2 p (some g) a = a.put (some p) (.pointer (some ⟨g, 0, none⟩)) from rfl, wanted_put _ a _ _ h1]; exact hw
    cases o' with
    | none => exact e1
    | some g => rw [show act2 q (some g) (act2 p o a) = (act2 p o a).put (some q) (.pointer (some ⟨g, 0, none⟩)) from rfl, wanted_put _ _ _ _ k1]; exact e1
  rw [if_pos hwp]
  have hx := h o o' W hS (fun a' W' => K' (act2 q o' (act2 p o a')) W') (fun a' W' hb hX => hK _ _ ⟨(hS.next hb).l.1, by
    have hX' := hX (hS.next hb)
    unfold XB2 at hX'
    rw [lst2_set A i o listed hAi.1, lst2_set B i o' _ hAi.2] at hX'
    exact hX'⟩)
  have s1 : Oper.wp P ⟨d, op, ty, pos, after, guard⟩ (act2 p o a) W (fun a' W' => K' (act2 q o' a') W') Q := by
    cases o with
    | none => exact hx
    | some g =>
      have := Oper.wp_put' (x := oA) (o := ⟨d, op, ty, pos, after, guard⟩) (v := .pointer (some ⟨g, 0, none⟩)) (a := a) (w := W) (K := fun a' W' => K' (act2 q o' a') W') (Q := Q) hap (fun cs b => hsel i _ cs b hi) hA.l.q (by rw [a2]; exact hx)
      rwa [a2] at this
  cases o' with
  | none => exact s1
  | some g =>
    have := Oper.wp_put' (x := oB) (o := ⟨d, op, ty, pos, after, guard⟩) (v := .pointer (some ⟨g, 0, none⟩)) (a := act2 p o a) (w := W) (K := K') (Q := Q) hbp (fun cs b => hsel i _ cs b hi) hA.r.q (by rw [b2]; exact s1)
    rwa [b2] at this

/-- both allocs are behind us: what follows waits for them -/
theorem both_atB2 (s : Nat) {f : Nat} {listed : Array Bool} {l : List Value} {l' : Nat → Nat → List Value} {df : List Deferred} {o o' : Option Nat} {W : World}
    (hA : AllocAt2 P ops Q A p T Z B q T' Z')
    (r0 : ((Region.ready md ops listed).all fun j => j == A || j == B) = true) (r1 : ((Region.ready md ops (listed.setIfInBounds A true)).all fun j => j == B) = true)
    (r2 : ((Region.ready md ops (listed.setIfInBounds B true)).all fun j => j == A) = true) (r3 : Region.ready md ops ((listed.setIfInBounds A true).setIfInBounds B true) = [s])
    (e0 : ((Region.ready md ops listed).isEmpty || (Region.ready md ops (listed.setIfInBounds A true)).isEmpty || (Region.ready md ops (listed.setIfInBounds B true)).isEmpty) = false)
    (hS : HB2 w0 T Z T' Z' o o' W)
    (hl : ∀ g g', (l.set p (.pointer (some ⟨g, 0, none⟩))).set q (.pointer (some ⟨g', 0, none⟩)) = l' g g')
    (h : ∀ g g' W', w0.heap.size ≤ g → w0.heap.size ≤ g' → g ≠ g' → Below w0.heap.size w0 W' → W'.heap[g]? = some (.cells Z T (0, 0)) → W'.heap[g']? = some (.cells Z' T' (0, 0)) →
      wpAnyH P md ops Q (fun W => Below w0.heap.size w0 W) (f + 1) ((listed.setIfInBounds A true).setIfInBounds B true) ⟨(l' g g').toArray, df⟩ W') :
    XB2 P md ops Q w0 A p B q o o' (f + 1) listed ⟨l.toArray, df⟩ W := by
  have hne := hA.ne
  simp only [Bool.and_eq_true, bne_iff_ne] at hne
  obtain ⟨n1, n2⟩ := ready_ne (l := listed) (s := s) (A := A) (B := B) (md := md) (ops := ops) (by rw [r3]; simp) hne.1
  refine allocs_atB2 hA s (fun o o' W hS hj => ?_) ?_ ?_ ?_ r3 e0 o o' W hS
  · cases o with
    | none =>
      exfalso
      cases o' with
      | none =>
        have := List.all_eq_true.1 r0 s hj
        simp only [Bool.or_eq_true, beq_iff_eq] at this
        exact this.elim n1 n2
      | some g' =>
        have := List.all_eq_true.1 r2 s hj
        simp only [beq_iff_eq] at this
        exact n1 this
    | some g =>
      cases o' with
      | none =>
        exfalso
        have := List.all_eq_true.1 r1 s hj
        simp only [beq_iff_eq] at this
        exact n2 this
      | some g' =>
        have := h g g' W (hS.l.2 g rfl).1 (hS.r.2 g' rfl).1 (hS.ne g g' rfl rfl) hS.l.1 (hS.l.2 g rfl).2 (hS.r.2 g' rfl).2
        rw [← hl g g'] at this
        have k := this.2 s hj
        simpa [Act.put, act2, fu2, lst2] using k
  · refine List.all_eq_true.2 fun j hj => ?_
    have := List.all_eq_true.1 r0 j hj
    simp only [Bool.or_eq_true] at this ⊢
    exact this.elim (fun h => .inl (.inr h)) .inr
  · refine List.all_eq_true.2 fun j hj => ?_
    have := List.all_eq_true.1 r1 j hj
    rw [this, Bool.or_true]
  · refine List.all_eq_true.2 fun j hj => ?_
    have := List.all_eq_true.1 r2 j hj
    rw [this, Bool.or_true]
end
end Go.Proofs.Ytfejabfmhddepaa

