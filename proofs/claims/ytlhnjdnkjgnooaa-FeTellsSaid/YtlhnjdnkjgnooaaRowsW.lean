/- Rows that stand in a world, told as a list: what laws over plain values keep in their variables. -/
import Derived.Test.YtlhnjdnkjgnooaaArrB
import Derived.Test.YtlhnjdnkjgnooaaTabI
import Derived.BigFrame
namespace Go.Proofs.Ytlhnjdnkjgnooaa
open Go.RowKit
set_option linter.unusedVariables false
set_option maxRecDepth 100000

abbrev RowT := Nat × Array Value × TypeId
def RowsW (W : World) : List RowT → Prop
  | [] => True
  | r :: L => W.heap[r.1]? = some (.cells r.2.1 r.2.2 (0, 0)) ∧ RowsW W L
section
variable {W W' : World} {L : List RowT} {g : Nat} {cs : Array Value} {t : TypeId}
theorem RowsW.nil (W : World) : RowsW W [] := trivial
theorem RowsW.head (h : RowsW W ((g, cs, t) :: L)) : W.heap[g]? = some (.cells cs t (0, 0)) := h.1
theorem RowsW.tail {r : RowT} (h : RowsW W (r :: L)) : RowsW W L := h.2
theorem RowsW.below (h : RowsW W L) (hb : Below W.heap.size W W') : RowsW W' L := by
  induction L with
  | nil => trivial
  | cons r L ih =>
    exact ⟨by rw [hb.block _ (Array.getElem?_eq_some_iff.1 h.1).1]; exact h.1, ih h.2⟩
theorem RowsW.ne (h : RowsW W L) : ∀ r ∈ L, r.1 ≠ W.heap.size := by
  induction L with
  | nil => intro r hr; cases hr
  | cons a L ih =>
    intro r hr
    rcases List.mem_cons.1 hr with rfl | hr
    · have := (Array.getElem?_eq_some_iff.1 h.1).1; omega
    · exact ih h.2 r hr
theorem RowsW.drew (h : RowsW W L) : RowsW W.drew L := h.below (Below.refl _ _).drew
theorem RowsW.box (h : RowsW W L) (cs : Array Value) (t : TypeId) : RowsW (W.alloc (.cells cs t)) ((W.heap.size, cs, t) :: L) :=
  ⟨heap_alloc_new _ _, h.below ((Below.refl _ W).alloc (Nat.le_refl _) _)⟩
theorem RowsW.new (h : RowsW W L) (z cs : Array Value) (t : TypeId) : RowsW ((W.alloc (.cells z t)).setRow W.heap.size cs) ((W.heap.size, cs, t) :: L) :=
  ⟨setRow_heap _ _ _ _ _ _ (heap_alloc_new _ _), h.below (below_row ((Below.refl _ W).alloc (Nat.le_refl _) _) (Nat.le_refl _))⟩
theorem below_new {w : World} (h : Below w.heap.size w W) (z cs : Array Value) (t : TypeId) : Below w.heap.size w ((W.alloc (.cells z t)).setRow W.heap.size cs) := below_row (h.alloc h.size _) h.size
theorem below_box {w : World} (h : Below w.heap.size w W) (cs : Array Value) (t : TypeId) : Below w.heap.size w (W.alloc (.cells cs t)) := h.alloc h.size _
theorem RowsW.set (h : RowsW W ((g, cs, t) :: L)) (hg : ∀ r ∈ L, r.1 ≠ g) (k : Nat) (v : Value) : RowsW (W.setCell ⟨g, k, none⟩ v) ((g, cs.setIfInBounds k v, t) :: L) := by
  rw [setCell_eq_setRow W g k _ _ _ v h.head]
  refine ⟨by rw [setRow_heap _ _ _ _ _ _ h.head], ?_⟩
  have h2 := h.tail
  clear h
  induction L with
  | nil => trivial
  | cons r L ih => exact ⟨by rw [setRow_other _ _ _ _ (hg r (by simp))]; exact h2.1, ih (fun q hq => hg q (by simp [hq])) h2.2⟩
theorem RowsW.put (h : RowsW W ((g, cs, t) :: L)) (hg : ∀ r ∈ L, r.1 ≠ g) (ds : Array Value) : RowsW (W.setRow g ds) ((g, ds, t) :: L) := by
  refine ⟨by rw [setRow_heap _ _ _ _ _ _ h.head], ?_⟩
  have h2 := h.tail
  clear h
  induction L with
  | nil => trivial
  | cons r L ih => exact ⟨by rw [setRow_other _ _ _ _ (hg r (by simp))]; exact h2.1, ih (fun q hq => hg q (by simp [hq])) h2.2⟩
/-- the rows but one -/
theorem RowsW.setRow (h : RowsW W L) (hg : ∀ r ∈ L, r.1 ≠ g) (cs : Array Value) : RowsW (W.setRow g cs) L := by
  induction L with
  | nil => trivial
  | cons r L ih =>
    exact ⟨by rw [setRow_other _ _ _ _ (hg r (by simp))]; exact h.1, ih h.2 (fun q hq => hg q (by simp [hq]))⟩
end
theorem wpList_runsV {P : Program} {ops : Array Oper} {rest : List Oper} {o : Oper} {a : Act} {w : World} {Q : Exit → Act → World → Prop} (hw : Region.wanted o (yielded ops a.tmps) = true) (v : Value)
    (hrun : (execOp (Act.eval a) o).run P w = .ok (.value v) w) (h : wpList P ops Q rest (a.put o.dst v) w) : wpList P ops Q (o :: rest) a w := by
  refine BigFrame.wpList_want hw fun K hK => ?_
  unfold Oper.wp
  rw [hrun]
  exact hK _ _ h
theorem results_ct {P : Program} {fn : Func} {p q : Tmp} {ty : TypeId} (h : fn.results = #[.cell p ty, .tmp q]) (tmps : Array Value) (w : World) (g : Nat) (t : TypeId) (cs : Array Value) (fr : Nat × Nat) (d : TypeDesc) (x : Value)
    (hp : tmps.getD p undef = .pointer (some ⟨g, 0, none⟩)) (hq : tmps.getD q undef = x) (hg : w.heap[g]? = some (.cells cs t fr))
    (hu : P.underlying ty = some d) (hd : (match d with | .struct _ | .array _ _ => true | _ => false) = true) (hi : (P.info? ty).map (·.size) = some cs.size) :
    (results fn tmps).run P w = .ok (.tuple #[.agg cs, x]) w := by
  have hp' : tmps[p]?.getD undef = .pointer (some ⟨g, 0, none⟩) := by simpa using hp
  have hq' : tmps[q]?.getD undef = x := by simpa using hq
  simp [results, h, hp', hq', asAddr, run_loadVar_row w g t ty cs fr d hg hu hd hi]
end Go.Proofs.Ytlhnjdnkjgnooaa

