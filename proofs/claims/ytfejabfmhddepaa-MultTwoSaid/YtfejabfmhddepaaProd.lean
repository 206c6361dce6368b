/- Rows of rows: points behind a number, products one behind the other; sums of products by digits. No program is named here. -/
import Derived.Test.YtfejabfmhddepaaPart
import Derived.Test.YtfejabfmhddepaaLaw12Spec
import Derived.Test.YtfejabfmhddepaaMulN
import Derived.Laws.IdiomCopy
namespace Go.Proofs.Ytfejabfmhddepaa
open Go.RowKit
set_option linter.unusedVariables false
set_option maxRecDepth 100000

/-- rows of cells, one behind the other -/
def flatC (ms : List (Array Value)) : Array Value := ms.foldr (fun a b => a ++ b) #[]
theorem flatC_cons (a : Array Value) (ms : List (Array Value)) : flatC (a :: ms) = a ++ flatC ms := rfl
theorem flatC_append (xs ys : List (Array Value)) : flatC (xs ++ ys) = flatC xs ++ flatC ys := by
  induction xs with
  | nil => simp [flatC]
  | cons a xs ih => rw [List.cons_append, flatC_cons, flatC_cons, ih, Array.append_assoc]
theorem flatC_size {s : Nat} : ∀ (ms : List (Array Value)), (∀ m ∈ ms, m.size = s) → (flatC ms).size = s * ms.length
  | [], _ => by simp [flatC]
  | a :: ms, h => by
    rw [flatC_cons, Array.size_append, h a (by simp), flatC_size ms (fun m hm => h m (by simp [hm])), List.length_cons, Nat.mul_add, Nat.mul_one, Nat.add_comm]
theorem flatC_one : ∀ (ms : List (Array Value)), (∀ m ∈ ms, m.all (·.oneCell') = true) → (flatC ms).all (·.oneCell') = true
  | [], _ => by simp [flatC]
  | a :: ms, h => by
    rw [flatC_cons, Array.all_append, h a (by simp), flatC_one ms (fun m hm => h m (by simp [hm]))]; rfl
theorem flatC_split (ms : List (Array Value)) (i : Nat) (hi : i < ms.length) : flatC ms = flatC (ms.take i) ++ ms[i] ++ flatC (ms.drop (i + 1)) := by
  rw [Array.append_assoc, ← flatC_cons, ← List.drop_eq_getElem_cons hi, ← flatC_append, List.take_append_drop]
theorem flatC_get {s : Nat} {ms : List (Array Value)} (h : ∀ m ∈ ms, m.size = s) (pre : Array Value) {k : Nat} (i : Nat) (hi : i < ms.length) (hk : pre.size + s * i = k) (j : Nat) (hj : j < s) : (pre ++ flatC ms)[k + j]? = ms[i][j]? := by
  have e1 : (flatC (ms.take i)).size = s * i := by rw [flatC_size (ms.take i) (fun m hm => h m (List.mem_of_mem_take hm)), List.length_take, Nat.min_eq_left (by omega)]
  have e2 : ms[i].size = s := h _ (List.getElem_mem hi)
  rw [flatC_split ms i hi, ← Array.append_assoc, ← Array.append_assoc, Array.getElem?_append_left (by simp; omega), Array.getElem?_append_right (by simp; omega)]
  congr 1
  simp
  omega
theorem flatC_lay {s : Nat} {ms : List (Array Value)} (h : ∀ m ∈ ms, m.size = s) (pre v : Array Value) {k : Nat} (i : Nat) (hi : i < ms.length) (hk : pre.size + s * i = k) (hv : v.size = s) :
    v.zipIdx.foldl (fun cs (p : Value × Nat) => cs.setIfInBounds (k + p.2) p.1) (pre ++ flatC ms) = pre ++ flatC (ms.set i v) := by
  have e1 : (flatC (ms.take i)).size = s * i := by rw [flatC_size (ms.take i) (fun m hm => h m (List.mem_of_mem_take hm)), List.length_take, Nat.min_eq_left (by omega)]
  have e2 : ms[i].size = s := h _ (List.getElem_mem hi)
  have e3 : flatC (ms.set i v) = flatC (ms.take i) ++ v ++ flatC (ms.drop (i + 1)) := by
    rw [flatC_split (ms.set i v) i (by simpa using hi)]
    simp [List.take_set, List.drop_set, List.set_eq_of_length_le (show (List.take i ms).length ≤ i by simp; omega)]
  have := lay_mid (x := pre ++ flatC (ms.take i)) (y := ms[i]) (z := flatC (ms.drop (i + 1))) (v := v) (off := k) (by simp; omega) (by omega)
  rw [flatC_split ms i hi, e3, ← Array.append_assoc, ← Array.append_assoc, this]
  simp [Array.append_assoc]
/-- a part of a row stored -/
theorem setRow_self (w : World) (g : Nat) (cur : Array Value) (t : TypeId) (fr : Nat × Nat) (hg : w.heap[g]? = some (.cells cur t fr)) : w.setRow g cur = w := by
  have hlt : g < w.heap.size := (Array.getElem?_eq_some_iff.1 hg).1
  have hv : w.heap[g] = .cells cur t fr := (Array.getElem?_eq_some_iff.1 hg).2
  unfold World.setRow
  cases w with
  | mk heap tape drawn os output =>
    congr 1
    apply Array.ext
    · simp
    · intro k h1 h2
      simp only [Array.getElem_modify]
      split
      · rename_i hk; subst hk; simp at hv; simp [hv]
      · rfl
theorem setCells_part (g k : Nat) (t : TypeId) (fr : Nat × Nat) : ∀ (vs : List Value) (n : Nat) (cur : Array Value) (w : World), w.heap[g]? = some (.cells cur t fr) →
    w.setCells g (k + n) vs = w.setRow g ((vs.zipIdx n).foldl (fun cs (p : Value × Nat) => cs.setIfInBounds (k + p.2) p.1) cur)
  | [], n, cur, w, hg => (setRow_self w g cur t fr hg).symm
  | v :: vs, n, cur, w, hg => by
    rw [World.setCells, setCell_eq_setRow w g (k + n) cur t fr v hg, List.zipIdx_cons, List.foldl_cons, Nat.add_assoc, setCells_part g k t fr vs (n + 1) _ _ (setRow_heap w g cur _ t fr hg), setRow_setRow]
theorem run_storeVar_part {P : Program} (w : World) (g k : Nat) (t ty : TypeId) (old v new : Array Value) (hg : w.heap[g]? = some (.cells old t (0, 0))) (hi : (P.info? ty).map (·.size) = some v.size)
    (ho : k + v.size ≤ old.size) (h1 : v.all (·.oneCell') = true) (hn : v.zipIdx.foldl (fun cs (p : Value × Nat) => cs.setIfInBounds (k + p.2) p.1) old = new) :
    (storeVar ty ⟨g, k, none⟩ (.agg v)).run P w = .ok () (w.setRow g new) := by
  have h := run_storeCells_cells (P := P) g k v.toList 0 w (fun j hj => by
      rw [cell_of_row w g (k + 0 + j) old t (0, 0) hg]
      rw [Array.length_toList] at hj
      rw [Array.getElem?_eq_getElem (by omega)]; rfl) (fun j hj => by simp [World.frozen?, hg]) (fun x hx => (Array.all_eq_true_iff_forall_mem.1 h1) x (by simpa using hx))
  rw [setCells_part g k t (0, 0) v.toList 0 old w hg] at h
  rw [← Array.toList_zipIdx, Array.foldl_toList, hn] at h
  cases hq : P.info? ty with
  | none => simp [hq] at hi
  | some i =>
    have hs : v.size = i.size := by simp [hq] at hi; omega
    simp [storeVar, sizeOf, typeInfo, hq, Value.cells, hs, h]
theorem wp_store_part {P : Program} {o : Oper} {a : Act} {w : World} {K : Act → World → Prop} {Q : Exit → Act → World → Prop} (ty : TypeId) (x y : Operand) (ho : o.op = .store ty x y)
    (g k : Nat) (v new : Array Value) (hx : a.eval x = .pointer (some ⟨g, k, none⟩)) (hy : a.eval y = .agg v)
    (t : TypeId) (old : Array Value) (hg : w.heap[g]? = some (.cells old t (0, 0))) (hi : (P.info? ty).map (·.size) = some v.size)
    (hold : k + v.size ≤ old.size) (h1 : v.all (·.oneCell') = true) (hn : v.zipIdx.foldl (fun cs (p : Value × Nat) => cs.setIfInBounds (k + p.2) p.1) old = new)
    (h : K (a.put o.dst undef) (w.setRow g new)) : o.wp P a w K Q := by
  unfold Oper.wp execOp
  simp only [ho, hx, hy, Instr.storeAt, Instr.sureAddr, Sem.run_bind, Sem.run_pure, Result.andThen_ok, run_storeVar_part w g k t ty old v new hg hi hold h1 hn]
  exact h
theorem wpList_store_part {P : Program} {ops : Array Oper} {rest : List Oper} {o : Oper} {a : Act} {w : World} {Q : Exit → Act → World → Prop} (hgd : o.guard = none) (ty : TypeId) (x y : Operand) (ho : o.op = .store ty x y)
    (g k : Nat) (v new : Array Value) (hx : a.eval x = .pointer (some ⟨g, k, none⟩)) (hy : a.eval y = .agg v)
    (t : TypeId) (old : Array Value) (hg : w.heap[g]? = some (.cells old t (0, 0))) (hi : (P.info? ty).map (·.size) = some v.size)
    (hold : k + v.size ≤ old.size) (h1 : v.all (·.oneCell') = true) (hn : v.zipIdx.foldl (fun cs (p : Value × Nat) => cs.setIfInBounds (k + p.2) p.1) old = new)
    (h : wpList P ops Q rest (a.put o.dst undef) (w.setRow g new)) : wpList P ops Q (o :: rest) a w :=
  wpList_plain hgd fun _ hK => wp_store_part ty x y ho g k v new hx hy t old hg hi hold h1 hn (hK _ _ h)

/-! Sums of products by digits of four bits. -/
/-- the sum of f's many of each point -/
def sumP (f : Nat → Nat) : List (Nat × PtD) → PtD
  | [] => pzero
  | q :: L => padd (pmul (f q.1) q.2) (sumP f L)
theorem sumP_append (f : Nat → Nat) : ∀ L M, sumP f (L ++ M) = padd (sumP f L) (sumP f M)
  | [], M => (pz_add _).symm
  | q :: L, M => by rw [List.cons_append, sumP, sumP, sumP_append f L M, padd_assoc]
theorem sumP_take (f : Nat → Nat) (L : List (Nat × PtD)) (m : Nat) (hm : m < L.length) : padd (sumP f (L.take m)) (pmul (f L[m].1) L[m].2) = sumP f (L.take (m + 1)) := by
  rw [List.take_succ_eq_append_getElem hm, sumP_append, sumP, sumP, padd_z]
theorem padd_swap (a b c d : PtD) : padd (padd a b) (padd c d) = padd (padd a c) (padd b d) := by
  rw [padd_assoc, padd_assoc, ← padd_assoc b c d, padd_comm b c, padd_assoc c b d]
theorem sumP_step (f g h : Nat → Nat) (e : ∀ n, h n = f n * 16 + g n) : ∀ L, padd (pmul 16 (sumP f L)) (sumP g L) = sumP h L
  | [] => by
    rw [sumP, sumP, sumP, padd_z, ← pmul_zero pzero, pmul_mul, Nat.zero_mul]
  | q :: L => by
    rw [sumP, sumP, sumP, ← sumP_step f g h e L, pmul_padd, pmul_mul, padd_swap, pmul_add, e]
/-- k digits done, from the highest on -/
def hiP (k : Nat) (L : List (Nat × PtD)) : PtD := sumP (fun n => n / 16 ^ (64 - k)) L
/-- the digit that is next -/
def dgP (i n : Nat) : Nat := n / 16 ^ i % 16
theorem hiP_step {k : Nat} (hk : k < 64) (L : List (Nat × PtD)) : padd (pmul 16 (hiP k L)) (sumP (dgP (63 - k)) L) = hiP (k + 1) L := by
  apply sumP_step
  intro n
  unfold dgP
  have e : n / 16 ^ (64 - k) = n / 16 ^ (63 - k) / 16 := by
    rw [Nat.div_div_eq_div_mul, ← Nat.pow_succ, show (63 - k).succ = 64 - k by omega]
  rw [show 64 - (k + 1) = 63 - k by omega]
  show n / 16 ^ (63 - k) = n / 16 ^ (64 - k) * 16 + n / 16 ^ (63 - k) % 16
  rw [e]
  omega
theorem hiP_zero {L : List (Nat × PtD)} (h : ∀ q ∈ L, q.1 < 256 ^ 32) : hiP 0 L = pzero := by
  unfold hiP
  induction L with
  | nil => rfl
  | cons q L ih =>
    rw [sumP, ih (fun p hp => h p (by simp [hp])), padd_z]
    have := h q (by simp)
    rw [show q.1 / 16 ^ (64 - 0) = 0 from Nat.div_eq_of_lt (by rw [show (16 : Nat) ^ (64 - 0) = 256 ^ 32 by decide]; exact this), pmul_zero]
theorem hiP_end (L : List (Nat × PtD)) : hiP 64 L = sumP (fun n => n) L := by
  unfold hiP
  congr 1
  funext n
  rw [show (16 : Nat) ^ (64 - 64) = 1 by decide, Nat.div_one]
/-- a digit out of the byte that holds it -/
theorem dgP_byte (l : List UInt8) (i : Nat) : (l.getD (i / 2) 0).toNat / 2 ^ (i % 2 * 4) % 16 = dgP i (leN l) := by
  rw [← leN_byte l (i / 2)]
  unfold dgP
  generalize leN l = n
  rw [show (256 : Nat) ^ (i / 2) = 16 ^ (2 * (i / 2)) by rw [Nat.pow_mul]]
  rcases Nat.mod_two_eq_zero_or_one i with e | e
  · rw [e, show 2 * (i / 2) = i by omega]
    generalize n / 16 ^ i = y
    omega
  · have e2 : 16 ^ i = 16 ^ (2 * (i / 2)) * 16 := by rw [← Nat.pow_succ]; congr 1; omega
    rw [e, e2, ← Nat.div_div_eq_div_mul]
    generalize n / 16 ^ (2 * (i / 2)) = y
    omega
theorem pmul_16 (p : PtD) : padd (padd (padd (padd p p) (padd p p)) (padd (padd p p) (padd p p))) (padd (padd (padd p p) (padd p p)) (padd (padd p p) (padd p p))) = pmul 16 p := by
  rw [← pmul_two p, pmul_dbl, pmul_dbl, pmul_dbl]
theorem dblP_pmul : ∀ k p, dblP k p = pmul (2 ^ k) p
  | 0, p => (pmul_one p).symm
  | k + 1, p => by rw [dblP, dblP_pmul k p, pmul_dbl, Nat.pow_succ, Nat.mul_comm]
end Go.Proofs.Ytfejabfmhddepaa

