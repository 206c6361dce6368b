/- Plain words for byte slices: 'Bs w A l': a slice value with address A and length l.length reads, in world w, as the bytes l. 'Ob E w base v l': the slice value v owns the bytes l in a block from base on. No program is named here. More words: what a call returns, told in a later world; the bytes table row. Steps for a region that draws its order: an operation that is stable under a condition is taken first; a call stands alone among what may come up. The operation is read off the region's text, field by field. 'Only F w w'': of what was there in w nothing but blocks of F has turned. Plain facts on halfB, tornB, canB. Plain facts on lists of bytes that are turned byte by byte. A byte bit by bit. make([]byte, n). What the frame tells of the arguments, in the words of the walks. -/
import Derived.WalkKit
import Derived.Deep.Draws
import Derived.Laws.BytesArg
import Derived.Laws.BitsAllLaws
import Derived.Laws.AppendOwnNone
import Derived.WalkSpells
import Derived.Lib.Hide
import Derived.Below
import Derived.Test.YtlbkpmcccipfhaaRows
import Derived.BigQuiet
import Derived.BigRegion
import Derived.RegionTactic
import Derived.WalkLawsBesides
import Derived.Deep.DeepCutAuto
import Derived.Deep.CutBlock
import Derived.Deep.RegionWith
import Derived.Deep.RegionHeld3
namespace Go.Proofs.Ytlbkpmcccipfhaa
open Go.RowKit
set_option linter.unusedVariables false
set_option maxRecDepth 100000

def Bs (w : World) (A : Option Addr) (l : List UInt8) : Prop :=
  0 < l.length → ∃ b o, A = some ⟨b, o, none⟩ ∧ ∀ j, j < l.length → w.cell? ⟨b, o + j, none⟩ = some (.int .u8 ((l.getD j 0).toNat : Int))

theorem addr_add (b o y : Nat) : (⟨b, o, none⟩ : Addr).add y = ⟨b, o + y, none⟩ := by unfold Addr.add; split <;> simp_all

theorem Bs.nil_ (w : World) (A : Option Addr) : Bs w A [] := fun h => absurd h (by simp)

theorem Bs.at_ {w : World} {A : Option Addr} {l : List UInt8} (h : Bs w A l) {k : Nat} (hk : k < l.length) :
    ∃ b o, A = some ⟨b, o, none⟩ ∧ w.cell? ⟨b, o + k, none⟩ = some (.int .u8 ((l.getD k 0).toNat : Int)) := by
  obtain ⟨b, o, e, hc⟩ := h (by omega)
  exact ⟨b, o, e, hc k hk⟩

theorem Bs.drewN {w : World} {A : Option Addr} {l : List UInt8} (h : Bs w A l) (n : Nat) : Bs (w.drewN n) A l := h

theorem Bs.below {w w' : World} {A : Option Addr} {l : List UInt8} (h : Bs w A l) (hb : Below w.heap.size w w') : Bs w' A l := fun hl => by
  obtain ⟨b, o, e, hc⟩ := h hl
  refine ⟨b, o, e, fun j hj => ?_⟩
  have hcj := hc j hj
  have hlt := World.block_lt_of_cell? w _ hcj
  rw [hb.cell hlt]
  exact hcj

theorem below_drewN' {B : Nat} {a w : World} (h : Below B a w) (n : Nat) : Below B a (w.drewN n) := ⟨h.os, h.tape, h.output, h.size, h.block⟩

theorem below_of_drewN {B : Nat} {a w : World} {n : Nat} (h : Below B (a.drewN n) w) : Below B a w := ⟨h.os, h.tape, h.output, h.size, h.block⟩

/-- the value of a byte -/
def bval (x : UInt8) : Value := .int .u8 (x.toNat : Int)

theorem bval_one (x : UInt8) : (bval x).oneCell' = true := rfl

/-- the cells that Bs names, in the spelling of the append laws -/
theorem Bs.news {w : World} {a : Addr} {l : List UInt8} (h : Bs w (some a) l) : ∀ j u, (l.map bval)[j]? = some u → w.cell? (a.add j) = some u := by
  intro j u hu
  have hj : j < l.length := by
    rcases Nat.lt_or_ge j l.length with h | h
    · exact h
    · rw [List.getElem?_eq_none (by simpa using h)] at hu; cases hu
  obtain ⟨b, o, e, hc⟩ := h (by omega)
  injection e with e
  subst e
  have hadd : (⟨b, o, none⟩ : Addr).add j = ⟨b, o + j, none⟩ := by unfold Addr.add; split <;> simp_all
  rw [hadd, hc j hj]
  rw [List.getElem?_map, List.getElem?_eq_getElem hj] at hu
  simp at hu
  subst hu
  simp [bval, List.getD, List.getElem?_eq_getElem hj]

/-- the slice value v owns the bytes l, in a block from base on -/
def Ob (E : TypeId) (w : World) (base : Nat) (v : Value) (l : List UInt8) : Prop := w.ownsRow base E 1 v l.length (l.map bval)

theorem Ob.nil_ (E : TypeId) (w : World) (base : Nat) : Ob E w base (.slice none 0 0) [] := World.ownsRow_nil w base E 1

theorem Ob.form {E : TypeId} {w : World} {base : Nat} {v : Value} {l : List UInt8} (h : Ob E w base v l) :
    ∃ A c, v = .slice A l.length c ∧ Bs w A l ∧ (A = none ∨ ∃ g, A = some ⟨g, 0, none⟩ ∧ base ≤ g ∧ g < w.heap.size) := by
  rcases h.2 with ⟨rfl, hn⟩ | ⟨g, cap, cur, rfl, hb, hg, hnc, hcm, hcs, htake⟩
  · have : l = [] := List.eq_nil_of_length_eq_zero hn
    subst this
    exact ⟨none, 0, rfl, Bs.nil_ _ _, .inl rfl⟩
  · refine ⟨_, cap, rfl, fun hl => ⟨g, 0, rfl, fun j hj => ?_⟩, .inr ⟨g, rfl, hb, (Array.getElem?_eq_some_iff.1 hg).1⟩⟩
    have := World.ownsRow.cellAt h j (by omega)
    rw [Nat.zero_add, this, List.getElem?_map, List.getElem?_eq_getElem hj]
    simp [bval, List.getD, List.getElem?_eq_getElem hj]

theorem Ob.bs {E : TypeId} {w : World} {base : Nat} {A : Option Addr} {n c : Nat} {l : List UInt8} (h : Ob E w base (.slice A n c) l) : Bs w A l := by
  obtain ⟨A', c', e, hb, _⟩ := h.form
  injection e with e1 e2 e3
  subst e1
  exact hb

theorem Ob.below {E : TypeId} {w w' : World} {base : Nat} {v : Value} {l : List UInt8} (h : Ob E w base v l) (hb : Below w.heap.size w w') : Ob E w' base v l := by
  refine ⟨h.1, ?_⟩
  rcases h.2 with hn | ⟨g, cap, cur, rfl, hb', hg, rest⟩
  · exact .inl hn
  · refine .inr ⟨g, cap, cur, rfl, hb', ?_, rest⟩
    rw [hb.block g (Array.getElem?_eq_some_iff.1 hg).1]
    exact hg

theorem Ob.drewN {E : TypeId} {w : World} {base : Nat} {v : Value} {l : List UInt8} (h : Ob E w base v l) (n : Nat) : Ob E (w.drewN n) base v l := h

theorem Ob.low {E : TypeId} {w : World} {base base' : Nat} {v : Value} {l : List UInt8} (h : Ob E w base v l) (hb : base' ≤ base) : Ob E w base' v l := by
  refine ⟨h.1, ?_⟩
  rcases h.2 with hn | ⟨g, cap, cur, rfl, hb', rest⟩
  · exact .inl hn
  · exact .inr ⟨g, cap, cur, rfl, by omega, rest⟩

theorem Ob.len {E : TypeId} {w : World} {base : Nat} {A : Option Addr} {n c : Nat} {l : List UInt8} (h : Ob E w base (.slice A n c) l) : n = l.length := by
  obtain ⟨A', c', e, _, _⟩ := h.form
  injection e with e1 e2 e3

theorem Ob.frozen {E : TypeId} {w : World} {base g n c : Nat} {l : List UInt8} (h : Ob E w base (.slice (some ⟨g, 0, none⟩) n c) l) (k : Nat) : w.frozen? ⟨g, k, none⟩ = false := by
  have := h.len
  subst this
  exact World.ownsRow.frozenAt h k

/-- a store into an owned row -/
theorem Ob.set_ {E : TypeId} {w : World} {base g n c : Nat} {l : List UInt8} (h : Ob E w base (.slice (some ⟨g, 0, none⟩) n c) l) (k : Nat) (x : UInt8) :
    Ob E (w.setCell ⟨g, k, none⟩ (bval x)) base (.slice (some ⟨g, 0, none⟩) n c) (l.set k x) := by
  obtain ⟨A', c', e, _, _⟩ := h.form
  injection e with e1 e2 e3
  subst e2
  have := (World.ownsRow.stored h k (bval x)).1
  unfold Ob
  rw [List.map_set, List.length_set]
  exact this

/-- string(v) of a slice that reads as l -/
def strB (l : List UInt8) : ByteArray := ⟨l.toArray⟩

theorem run_conv_bs {P : Program} (w : World) (src e dst : TypeId) (hs : P.underlying src = some (.slice e)) (he : P.underlying e = some (.int .u8)) (hd : P.underlying dst = some .string)
    (A : Option Addr) (l : List UInt8) (c n : Nat) (h : Bs w A l) (hn : n = l.length) : (convert src dst (.slice A n c)).run P w = .ok (.string (strB l)) w := by
  subst hn
  rcases Nat.eq_zero_or_pos l.length with h0 | h0
  · have : l = [] := List.eq_nil_of_length_eq_zero h0
    subst this
    rcases A with _ | a
    · exact run_convert_bytes_nil w src e hs he _ _ dst hd
    · rw [run_convert_bytes_string w src dst e _ _ c hs he hd]
      have := run_bytesToString (P := P) w a 0 c [] (by simpa using run_loadCells_list (P := P) w a [] (fun j v hj => by simp at hj))
      simp only [List.length_nil]
      rw [this]
      rfl
  · obtain ⟨b, o, rfl, hc⟩ := h h0
    have := run_convert_bytes_arg (P := P) w src e hs he b o l.length c (l.map fun x => (x.toNat : Int)) (by simp) (fun i hi => by
      rw [hc i hi]; simp [List.getD, List.getElem?_eq_getElem hi]) dst hd
    rw [this]
    congr 2
    simp [strOfNums, strB, Function.comp_def]

theorem strB_inj {l m : List UInt8} : (strB l = strB m) ↔ l = m := by
  constructor
  · intro h
    have := congrArg (fun s : ByteArray => s.data.toList) h
    simpa [strB] using this
  · rintro rfl; rfl

section
variable {P : Program}

theorem run_append_nil_src (w : World) (base : Nat) (t ty e : TypeId) (i : TypeInfo) (ht : P.underlying t = some (.slice e)) (hi : P.info? e = some i)
    (v : Value) (l : List UInt8) (hown : Ob e w base v l) (c : Nat) : (Builtin.append_ #[t, t] ty #[v, .slice none 0 c]).run P w = .ok v w := by
  rcases hown.2 with ⟨rfl, _⟩ | ⟨g, cap, cur, rfl, _, _, hnc, _⟩
  · simp [Builtin.append_, run_underlying ht, sizeOf, typeInfo, hi, Builtin.lenOf, Builtin.firstCells]
  · simp [Builtin.append_, run_underlying ht, sizeOf, typeInfo, hi, Builtin.lenOf, Builtin.firstCells, hnc, storeCells]

/-- append of what reads as m to what owns l -/
theorem run_append_bs (w : World) (base : Nat) (t ty e : TypeId) (ht : P.underlying t = some (.slice e))
    (he : (P.info? e).map (fun i => (i.zero, i.size, i.bytes)) = some (some (.int .u8 0), 1, 1))
    (v : Value) (l : List UInt8) (hown : Ob e w base v l) (A : Option Addr) (m : List UInt8) (c : Nat) (hm : Bs w A m)
    (hlen : l.length + m.length ≤ 140737488355328) (hbase : base ≤ w.heap.size) :
    ∃ v' w', (Builtin.append_ #[t, t] ty #[v, .slice A m.length c]).run P w = .ok v' w' ∧ Ob e w' base v' (l ++ m) ∧ w.grownBy w' v.ownBlock := by
  obtain ⟨i0, hi, hz0, hz1, hz2⟩ := info_parts he
  rcases A with _ | a
  · have h0 : m.length = 0 := by
      rcases Nat.eq_zero_or_pos m.length with h | h
      · exact h
      · obtain ⟨b, o, e', _⟩ := hm h; cases e'
    have : m = [] := List.eq_nil_of_length_eq_zero h0
    subst this
    exact ⟨v, w, run_append_nil_src w base t ty e i0 ht hi v l hown c, by simpa using hown, World.grownBy.refl w _⟩
  · obtain ⟨v', w', hr, h2, h3, _⟩ := run_append_own (P := P) w base t ty e i0 (.int .u8 0) 1 1 ht hi hz0 hz1 hz2 rfl (by decide) v l.length (l.map bval) hown a m.length c (m.map bval) (by simp)
      hm.news (fun u hu => by obtain ⟨x, _, rfl⟩ := List.mem_map.1 hu; rfl) (by unfold maxLen; omega) (by omega) hbase
    refine ⟨v', w', hr, ?_, h3⟩
    unfold Ob
    rw [List.map_append, List.length_append]
    exact h2

theorem wpList_append_bs {w : World} {ops : Array Oper} {rest : List Oper} {o : Oper} {a : Act} {Q : Exit → Act → World → Prop} (hgd : o.guard = none) (s x : Operand) (t : TypeId)
    (ho : o.op = .call { callee := .builtin .append, args := #[s, x], argTypes := #[t, t] }) (base : Nat) (e : TypeId) (ht : P.underlying t = some (.slice e))
    (he : (P.info? e).map (fun i => (i.zero, i.size, i.bytes)) = some (some (.int .u8 0), 1, 1))
    (v : Value) (l : List UInt8) (hs : a.eval s = v) (hown : Ob e w base v l) (A : Option Addr) (m : List UInt8) (n c : Nat) (hx : a.eval x = .slice A n c) (hn : n = m.length) (hm : Bs w A m)
    (hlen : l.length + m.length ≤ 140737488355328) (hbase : base ≤ w.heap.size)
    (h : ∀ v' w', Ob e w' base v' (l ++ m) → w.grownBy w' v.ownBlock → wpList P ops Q rest (a.put o.dst v') w') : wpList P ops Q (o :: rest) a w := by
  subst hn
  refine wpList_plain hgd fun K hK => ?_
  obtain ⟨v', w', hrun, h2, h3⟩ := run_append_bs (P := P) w base t o.type e ht he v l hown A m c hm hlen hbase
  unfold Oper.wp execOp
  simp only [ho, resolve, invoke, builtin, Sem.run_bind, Sem.run_pure, Result.andThen_ok, List.map_toArray, List.map_cons, List.map_nil, hs, hx, hrun]
  exact hK _ _ (h v' w' h2 h3)
end

/-- append, as one step of a region that draws -/
theorem step_append_bs {P : Program} {ops : Array Oper} {o : Oper} {a : Act} {w : World} {K : Act → World → Prop} {Q : Exit → Act → World → Prop} {E : Prop} (hgd : o.guard = none) (s x : Operand) (t : TypeId)
    (ho : o.op = .call { callee := .builtin .append, args := #[s, x], argTypes := #[t, t] }) (base : Nat) (e : TypeId) (ht : P.underlying t = some (.slice e))
    (he : (P.info? e).map (fun i => (i.zero, i.size, i.bytes)) = some (some (.int .u8 0), 1, 1))
    (v : Value) (l : List UInt8) (hs : a.eval s = v) (hown : Ob e w base v l) (A : Option Addr) (m : List UInt8) (n c : Nat) (hx : a.eval x = .slice A n c) (hn : n = m.length) (hm : Bs w A m)
    (hlen : l.length + m.length ≤ 140737488355328) (hbase : base ≤ w.heap.size)
    (h : ∀ v' w', Ob e w' base v' (l ++ m) → w.grownBy w' v.ownBlock → K (a.put o.dst v') w') : if Region.wanted o (yielded ops a.tmps) = true then Oper.wp P o a w K Q else E := by
  have hw : Region.wanted o (yielded ops a.tmps) = true := by simp [Region.wanted, hgd]
  rw [if_pos hw]
  subst hn
  obtain ⟨v', w', hrun, h2, h3⟩ := run_append_bs (P := P) w base t o.type e ht he v l hown A m c hm hlen hbase
  unfold Oper.wp execOp
  simp only [ho, resolve, invoke, builtin, Sem.run_bind, Sem.run_pure, Result.andThen_ok, List.map_toArray, List.map_cons, List.map_nil, hs, hx, hrun]
  exact h v' w' h2 h3

theorem below_of_grown {w w' : World} (h : w.grownBy w' none) : Below w.heap.size w w' := ⟨h.os, h.tape, h.output, h.size, fun k hk => h.block k hk (by simp)⟩

theorem u8_and' (x y : UInt8) : bits .and .u8 (x.toNat : Int) (y.toNat : Int) = ((x &&& y).toNat : Int) := by
  rw [u8_and_nat _ _ x.toNat_lt y.toNat_lt, UInt8.toNat_and]
theorem u8_or' (x y : UInt8) : bits .or .u8 (x.toNat : Int) (y.toNat : Int) = ((x ||| y).toNat : Int) := by
  rw [u8_or_nat _ _ x.toNat_lt y.toNat_lt, UInt8.toNat_or]
theorem u8_andNot' (x y : UInt8) : bits .andNot .u8 (x.toNat : Int) (y.toNat : Int) = ((x &&& ~~~y).toNat : Int) := by
  rw [u8_andNot_nat _ _ x.toNat_lt y.toNat_lt, UInt8.toNat_and, UInt8.toNat_not]
  congr 2
theorem u8_zero (x : UInt8) : ((x.toNat : Int) != 0) = !(x == 0) := by
  rw [Bool.eq_iff_iff]
  simp
  constructor
  · intro h e; subst e; exact h rfl
  · intro h e; exact h (UInt8.toNat_inj.1 (by simpa using e))

/-- can old be programmed to new? -/
def canB (l m : List UInt8) : Bool := decide (l.length = m.length) && (List.range l.length).all fun i => m.getD i 0 &&& ~~~(l.getD i 0) == 0

theorem canB_len {l m : List UInt8} (h : l.length ≠ m.length) : canB l m = false := by simp [canB, h]
theorem canB_iff {l m : List UInt8} : canB l m = true ↔ l.length = m.length ∧ ∀ i, i < l.length → m.getD i 0 &&& ~~~(l.getD i 0) = 0 := by
  simp only [canB, Bool.and_eq_true, decide_eq_true_eq, List.all_eq_true, List.mem_range, beq_iff_eq]
theorem canB_true {l m : List UInt8} (h : l.length = m.length) (hc : ∀ i, i < l.length → m.getD i 0 &&& ~~~(l.getD i 0) = 0) : canB l m = true := canB_iff.2 ⟨h, hc⟩
theorem canB_false {l m : List UInt8} {k : Nat} (hk : k < l.length) (hc : m.getD k 0 &&& ~~~(l.getD k 0) ≠ 0) : canB l m = false := by
  rw [Bool.eq_false_iff]
  intro h
  exact hc ((canB_iff.1 h).2 k hk)

/-- what a broken programming leaves of one byte -/
def tornByte (o n p : UInt8) : UInt8 := n ||| (o &&& ~~~n &&& p)
def tornB (l m p : List UInt8) : List UInt8 := (List.range m.length).map fun i => tornByte (l.getD i 0) (m.getD i 0) (p.getD i 0)
/-- .. after k rounds -/
def tornTo (l m p : List UInt8) (k : Nat) : List UInt8 := (List.range m.length).map fun i => if i < k then tornByte (l.getD i 0) (m.getD i 0) (p.getD i 0) else m.getD i 0
def halfB (l p : List UInt8) : List UInt8 := (List.range l.length).map fun i => l.getD i 0 ||| p.getD i 0
def halfTo (l p : List UInt8) (k : Nat) : List UInt8 := (List.range l.length).map fun i => if i < k then l.getD i 0 ||| p.getD i 0 else l.getD i 0

theorem getD_map_range (f : Nat → UInt8) (n i : Nat) (h : i < n) : ((List.range n).map f).getD i 0 = f i := by
  simp [List.getD, h]

theorem list_ext_getD {l m : List UInt8} (h : l.length = m.length) (hc : ∀ i, i < l.length → l.getD i 0 = m.getD i 0) : l = m := by
  apply List.ext_getElem h
  intro i h1 h2
  have := hc i h1
  simpa [List.getD, List.getElem?_eq_getElem h1, List.getElem?_eq_getElem h2] using this

theorem getD_set (l : List UInt8) (k i : Nat) (x : UInt8) (h : i < l.length) : (l.set k x).getD i 0 = if k = i then x else l.getD i 0 := by
  simp only [List.getD, List.getElem?_set]
  by_cases e : k = i
  · subst e; simp [h]
  · simp [e]

theorem range_set (n k : Nat) (f g : Nat → UInt8) (hk : k < n) (h1 : ∀ i, i ≠ k → f i = g i) : ((List.range n).map f).set k (g k) = (List.range n).map g := by
  apply list_ext_getD (by simp)
  intro i hi
  simp at hi
  rw [getD_set _ _ _ _ (by simpa using hi), getD_map_range _ _ _ hi, getD_map_range _ _ _ hi]
  by_cases e : k = i
  · subst e; simp
  · rw [if_neg e, h1 i (by omega)]

theorem getD_over (p : List UInt8) (i : Nat) (h : p.length ≤ i) : p.getD i 0 = 0 := by simp [List.getD, List.getElem?_eq_none h]

theorem tornTo_len (l m p k) : (tornTo l m p k).length = m.length := by simp [tornTo]
theorem tornTo_zero (l m p) : tornTo l m p 0 = m := by
  apply list_ext_getD (by simp [tornTo])
  intro i hi
  rw [tornTo_len] at hi
  simp only [tornTo]
  rw [getD_map_range _ _ _ hi]
  simp
theorem tornTo_at {l m p : List UInt8} {k : Nat} (hk : k < m.length) : (tornTo l m p k).getD k 0 = m.getD k 0 := by
  simp only [tornTo]
  rw [getD_map_range _ _ _ hk]
  simp
theorem tornTo_step {l m p : List UInt8} {k : Nat} (hk : k < m.length) : (tornTo l m p k).set k (tornByte (l.getD k 0) (m.getD k 0) (p.getD k 0)) = tornTo l m p (k + 1) := by
  have := range_set m.length k (fun i => if i < k then tornByte (l.getD i 0) (m.getD i 0) (p.getD i 0) else m.getD i 0) (fun i => if i < k + 1 then tornByte (l.getD i 0) (m.getD i 0) (p.getD i 0) else m.getD i 0) hk (by
    intro i hi
    by_cases h : i < k
    · rw [if_pos h, if_pos (by omega)]
    · rw [if_neg h, if_neg (by omega)])
  simp only [Nat.lt_succ_self, if_true] at this
  exact this
theorem tornByte_zero (o n : UInt8) : tornByte o n 0 = n := by simp [tornByte]
theorem tornTo_end {l m p : List UInt8} {k : Nat} (hk : m.length ≤ k ∨ p.length ≤ k) : tornTo l m p k = tornB l m p := by
  apply list_ext_getD (by simp [tornTo, tornB])
  intro i hi
  rw [tornTo_len] at hi
  simp only [tornTo, tornB]
  rw [getD_map_range _ _ _ hi, getD_map_range _ _ _ hi]
  by_cases h : i < k
  · rw [if_pos h]
  · rw [if_neg h, getD_over p i (by omega), tornByte_zero]

theorem halfTo_len (l p k) : (halfTo l p k).length = l.length := by simp [halfTo]
theorem halfTo_zero (l p) : halfTo l p 0 = l := by
  apply list_ext_getD (by simp [halfTo])
  intro i hi
  rw [halfTo_len] at hi
  simp only [halfTo]
  rw [getD_map_range _ _ _ hi]
  simp
theorem halfTo_at {l p : List UInt8} {k : Nat} (hk : k < l.length) : (halfTo l p k).getD k 0 = l.getD k 0 := by
  simp only [halfTo]
  rw [getD_map_range _ _ _ hk]
  simp
theorem halfTo_step {l p : List UInt8} {k : Nat} (hk : k < l.length) : (halfTo l p k).set k (l.getD k 0 ||| p.getD k 0) = halfTo l p (k + 1) := by
  have := range_set l.length k (fun i => if i < k then l.getD i 0 ||| p.getD i 0 else l.getD i 0) (fun i => if i < k + 1 then l.getD i 0 ||| p.getD i 0 else l.getD i 0) hk (by
    intro i hi
    by_cases h : i < k
    · rw [if_pos h, if_pos (by omega)]
    · rw [if_neg h, if_neg (by omega)])
  simp only [Nat.lt_succ_self, if_true] at this
  exact this
theorem halfTo_end {l p : List UInt8} {k : Nat} (hk : l.length ≤ k ∨ p.length ≤ k) : halfTo l p k = halfB l p := by
  apply list_ext_getD (by simp [halfTo, halfB])
  intro i hi
  rw [halfTo_len] at hi
  simp only [halfTo, halfB]
  rw [getD_map_range _ _ _ hi, getD_map_range _ _ _ hi]
  by_cases h : i < k
  · rw [if_pos h]
  · rw [if_neg h, getD_over p i (by omega)]; simp

theorem u8_ext {x y : UInt8} (h : ∀ i, i < 8 → x.toBitVec.getLsbD i = y.toBitVec.getLsbD i) : x = y :=
  UInt8.toBitVec_inj.1 (BitVec.eq_of_getLsbD_eq fun i hi => h i hi)
theorem u8_at {x y : UInt8} (h : x = y) (i : Nat) : x.toBitVec.getLsbD i = y.toBitVec.getLsbD i := by rw [h]
theorem tz_and (x y : UInt8) : x &&& ~~~y = 0 ↔ x ||| y = y := by
  constructor
  · intro h
    apply u8_ext
    intro i hi
    have := u8_at h i
    simp [hi] at this
    simp
    cases hx : (x.toBitVec).getLsbD i <;> cases hy : (y.toBitVec).getLsbD i <;> simp_all
  · intro h
    apply u8_ext
    intro i hi
    have := u8_at h i
    simp at this
    simp [hi]
    cases hx : (x.toBitVec).getLsbD i <;> cases hy : (y.toBitVec).getLsbD i <;> simp_all
theorem canB_refl (l : List UInt8) : canB l l = true := canB_true rfl fun i _ => by simp
theorem canB_anti {l m : List UInt8} (h1 : canB l m = true) (h2 : canB m l = true) : l = m := by
  have k1 := canB_iff.1 h1
  have k2 := canB_iff.1 h2
  apply list_ext_getD k1.1
  intro i hi
  have a1 := (tz_and _ _).1 (k1.2 i hi)
  have a2 := (tz_and _ _).1 (k2.2 i (by omega))
  rw [← a1, UInt8.or_comm]
  exact a2
theorem canB_trans {l m n : List UInt8} (h1 : canB l m = true) (h2 : canB m n = true) : canB l n = true := by
  have k1 := canB_iff.1 h1
  have k2 := canB_iff.1 h2
  refine canB_true (k1.1.trans k2.1) fun i hi => ?_
  have a1 := (tz_and _ _).1 (k1.2 i hi)
  have a2 := (tz_and _ _).1 (k2.2 i (by omega))
  rw [tz_and, ← a1, ← UInt8.or_assoc, a2]

/-- what the frame tells of a slice of bytes that came in -/
def IsRow (k : IntKind) (w : World) (a : Option Addr) (len cap : Nat) (zs : List Int) : Prop :=
  (a = none ∧ len = 0 ∧ cap = 0 ∧ zs = []) ∨
  ∃ x, a = some x ∧ len ≤ cap ∧ cap ≤ maxLen ∧ zs.length = cap ∧ (∀ i, i < zs.length → w.cell? (x.add i) = some (.int k (zs.getD i 0))) ∧ ∀ n ∈ zs, (Lit.int k n).wf = true

theorem isRow_bs {w : World} {a : Option Addr} {len cap : Nat} {zs : List Int} (h : IsRow .u8 w a len cap zs) : ∃ l : List UInt8, l.length = len ∧ Bs w a l := by
  rcases h with ⟨rfl, rfl, rfl, rfl⟩ | ⟨x, rfl, hl, hm, hz, hcell, hwz⟩
  · exact ⟨[], rfl, Bs.nil_ _ _⟩
  · refine ⟨(zs.take len).map fun n => UInt8.ofNat n.toNat, by simp; omega, fun h0 => ?_⟩
    have hlen : 0 < len := by simp at h0; omega
    obtain ⟨b, off, spot⟩ := x
    have hc := hcell 0 (by omega)
    have hspot : spot = none := by simpa [Addr.add] using World.cell?_spot hc
    subst hspot
    refine ⟨b, off, rfl, fun j hj => ?_⟩
    have hj' : j < len := by simp at hj; omega
    have hadd : (⟨b, off, none⟩ : Addr).add j = ⟨b, off + j, none⟩ := by unfold Addr.add; split <;> simp_all
    have := hcell j (by omega)
    rw [hadd] at this
    rw [this]
    have hjz : j < zs.length := by omega
    have hw := hwz zs[j] (List.getElem_mem hjz)
    have hbd : 0 ≤ zs[j] ∧ zs[j] ≤ 255 := by simpa [Lit.wf, IntKind.min, IntKind.max, IntKind.signed, IntKind.bits] using hw
    have e1 : zs.getD j 0 = zs[j] := by simp [List.getD, List.getElem?_eq_getElem hjz]
    have e2 : ((zs.take len).map fun n => UInt8.ofNat n.toNat).getD j 0 = UInt8.ofNat zs[j].toNat := by
      simp [List.getD, hj', List.getElem?_eq_getElem hjz]
    rw [e1, e2]
    have e3 : (UInt8.ofNat zs[j].toNat).toNat = zs[j].toNat := by
      rw [UInt8.toNat_ofNat']
      omega
    rw [e3]
    congr 2
    omega
end Go.Proofs.Ytlbkpmcccipfhaa

namespace Go.Proofs.Ytlbkpmcccipfhaa
open Go.RowKit
set_option linter.unusedVariables false
set_option maxRecDepth 100000

theorem info5 : (Try.prog.info? 5).map (fun i => (i.zero, i.size, i.bytes)) = some (some (.int .u8 0), 1, 1) := by kernel_rfl

/-- the call returns a new slice that reads as l -/
def RetOb (E : TypeId) (w : World) (l : List UInt8) (e : Ending) (w' : World) : Prop := ∃ v, e = .returned v ∧ Ob E w' w.heap.size v l ∧ Below w.heap.size w w'
/-- the call returns b and only reads -/
def RetB (w : World) (b : Bool) (e : Ending) (w' : World) : Prop := e = .returned (.bool b) ∧ ∃ n, w' = w.drewN n

def MinCut (x y : Nat) (w1 : World) (s13 s14 : Value) (wx : World) : Prop := ∃ K : Nat, K ≤ x ∧ K ≤ y ∧ (x ≤ K ∨ y ≤ K) ∧ s13 = .int .i64 (K : Int) ∧ s14 = .int .i64 0 ∧ wx = w1

theorem Ob.one {E : TypeId} {w : World} {base : Nat} {v : Value} {x : UInt8} (h : Ob E w base v [x]) :
    ∃ g c, v = .slice (some ⟨g, 0, none⟩) 1 c ∧ w.cell? ⟨g, 0, none⟩ = some (.int .u8 (x.toNat : Int)) ∧ g < w.heap.size := by
  obtain ⟨A, c, rfl, hb, hf⟩ := h.form
  obtain ⟨b, o, rfl, hc⟩ := hb.at_ (k := 0) (by simp)
  rcases hf with e | ⟨g, e, -, hg⟩
  · cases e
  · injection e with e
    injection e with e1 e2
    subst e1
    subst e2
    exact ⟨b, c, rfl, by simpa using hc, hg⟩

theorem bs_lit1 (w : World) (E : TypeId) (x : UInt8) : Bs (w.alloc (.cells #[.int .u8 (x.toNat : Int)] E)) (some ⟨w.heap.size, 0, none⟩) [x] := fun _ =>
  ⟨_, _, rfl, fun j hj => by
    have : j = 0 := by simpa using hj
    subst this
    have := heap_alloc_new w (.cells #[.int .u8 (x.toNat : Int)] E)
    rw [cell_of_row _ _ _ _ _ _ this]
    simp⟩

@[go_sem] theorem below_drewN_eq (B : Nat) (a w : World) (n : Nat) : Below B a (w.drewN n) = Below B a w := propext ⟨fun h => ⟨h.os, h.tape, h.output, h.size, h.block⟩, fun h => below_drewN' h n⟩
@[go_sem] theorem below_drew_eq (B : Nat) (a w : World) : Below B a w.drew = Below B a w := propext ⟨fun h => ⟨h.os, h.tape, h.output, h.size, h.block⟩, fun h => h.drew⟩

section
variable {w W : World} {A1 A2 A3 : Option Addr} {l m p : List UInt8} {n1 n2 n3 c1 c2 c3 : Nat}

/-- the call returns a new slice that reads as l, in a world later than w -/
def RetIn (E : TypeId) (w : World) (l : List UInt8) (e : Ending) (w' : World) : Prop :=
  ∃ A c n, e = .returned (.slice A n c) ∧ n = l.length ∧ Bs w' A l ∧ Below w.heap.size w w'
/-- the call returns b, in a world later than w -/
def BoolIn (w : World) (b : Bool) (e : Ending) (w' : World) : Prop := e = .returned (.bool b) ∧ Below w.heap.size w w'

theorem retIn_of {E : TypeId} (hb : Below w.heap.size w W) : ∀ e w', RetOb E W l e w' → RetIn E w l e w' := by
  rintro e w' ⟨v, rfl, ho, hw⟩
  obtain ⟨A, c, rfl, hbs, -⟩ := ho.form
  exact ⟨A, c, _, rfl, rfl, hbs, hb.trans (hw.mono hb.size)⟩
theorem boolIn_of {b : Bool} (hb : Below w.heap.size w W) : ∀ e w', RetB W b e w' → BoolIn w b e w' := by
  rintro e w' ⟨rfl, n, rfl⟩
  exact ⟨rfl, below_drewN' hb n⟩

/-- string(s) in whatever later world -/
theorem conv_in (h1 : Bs w A1 l) (e1 : n1 = l.length) : ∀ W, Below w.heap.size w W → (convert 38 9 (.slice A1 n1 c1)).run Try.prog W = .ok (.string (strB l)) W :=
  fun W hb => run_conv_bs W _ 5 _ Try.underlying38 Try.underlying5 Try.underlying9 A1 l c1 _ (h1.below hb) e1
end

theorem quiet_at {P : Program} {f : FuncId} {args : Array Value} {w : World} {a n : Nat} {v : Value}
    (h : ∀ W : World, Calls P f args W fun e w' => e = .returned v ∧ w' = W) :
    Calls P f args (w.drewN (a + n)) fun e w'' => e = .returned v ∧ ∃ m, w'' = w.drewN (a + m) :=
  (h _).mono fun _ _ ⟨he, hm⟩ => ⟨he, n, hm⟩
end Go.Proofs.Ytlbkpmcccipfhaa

namespace Go.Proofs.Ytlbkpmcccipfhaa
section
variable {P : Program} {ops : Array Oper} {Q : Exit → Act → World → Prop} {md : Region.Mode} {S : World → Prop}

theorem take_at (i : Nat) {d : Nat} {op : Op} {ty : TypeId} {pos : String} {after : Array Edge} {guard : Option (Nat × Bool)} {v : Value} {fuel : Nat} {listed : Array Bool} {l l' : List Value} {df : List Deferred} {w : World}
    (hi : ops[i]? = some ⟨some d, op, ty, pos, after, guard⟩)
    (hs : Region.noSelect ops = true) (hf : Region.free md ops listed i = true) (hr : (Region.ready md ops listed).contains i = true)
    (hQ : ∀ c a w, Q (.panic c) (a.put (some d) v) w → Q (.panic c) a w)
    (hw : Region.wanted ⟨some d, op, ty, pos, after, guard⟩ (yielded ops l.toArray) = true) (hS : S w)
    (hy : ∀ w, S w → (execOp (Act.eval ⟨l.toArray, df⟩) ⟨some d, op, ty, pos, after, guard⟩).run P w = .ok (.value v) w)
    (hl : l.set d v = l')
    (h : wpAnyH P md ops Q S fuel (listed.setIfInBounds i true) ⟨l'.toArray, df⟩ w) : wpAnyH P md ops Q S (fuel + 1) listed ⟨l.toArray, df⟩ w := by
  refine wpAnyH_take hi hs hf hr hQ (.inl ⟨hw, hy⟩) hS ?_
  subst hl
  simpa [Act.put] using h

/-- the condition may be made stronger on the way -/
theorem held_mono {S S2 : World → Prop} (hS : ∀ w, S2 w → S w) : ∀ (fuel : Nat) (listed : Array Bool) (a : Act) (w : World), wpAnyH P md ops Q S2 fuel listed a w → wpAnyH P md ops Q S fuel listed a w
  | 0, _, _, _, h => h
  | fuel + 1, _, _, _, h => ⟨h.1, fun i hi => wpOp_mono (fun a' w' h' => ⟨hS _ h'.1, held_mono hS fuel _ a' w' h'.2⟩) (h.2 i hi)⟩

theorem call_at (i : Nat) {d : Option Tmp} {op : Op} {ty : TypeId} {pos : String} {after : Array Edge} {guard : Option (Nat × Bool)} {fuel : Nat} {listed : Array Bool} {a : Act} {w : World}
    (ho : ops[i]? = some ⟨d, op, ty, pos, after, guard⟩) (hr : Region.ready md ops listed = [i])
    (hw : Region.wanted ⟨d, op, ty, pos, after, guard⟩ (yielded ops a.tmps) = true)
    (h : ∀ K' : Act → World → Prop, Shut (∀ a w, S w → (S w → wpAnyH P md ops Q S fuel (listed.setIfInBounds i true) a w) → K' a w) → Oper.wp P ⟨d, op, ty, pos, after, guard⟩ a w K' Q) :
    wpAnyH P md ops Q S (fuel + 1) listed a w :=
  wpAnyH_ready hr (by simp) (AllReadyH.cons ho (fun K' hK => by rw [if_pos hw]; exact h K' hK) AllReadyH.nil)
end
end Go.Proofs.Ytlbkpmcccipfhaa

namespace Go.Proofs.Ytlbkpmcccipfhaa
open Go.RowKit
set_option linter.unusedVariables false
set_option maxRecDepth 100000

structure Only (F : Nat → Prop) (w w' : World) : Prop where
  os : w'.os = w.os
  tape : w'.tape = w.tape
  output : w'.output = w.output
  size : w.heap.size ≤ w'.heap.size
  block : ∀ k, k < w.heap.size → ¬ F k → w'.heap[k]? = w.heap[k]?

section
variable {F F' : Nat → Prop} {w w' w'' : World}
theorem Only.refl (F : Nat → Prop) (w : World) : Only F w w := ⟨rfl, rfl, rfl, Nat.le_refl _, fun _ _ _ => rfl⟩
theorem Only.of_below (h : Below w.heap.size w w') : Only F w w' := ⟨h.os, h.tape, h.output, h.size, fun k hk _ => h.block k hk⟩
theorem Only.trans (h : Only F w w') (k : Only F w' w'') : Only F w w'' :=
  ⟨k.os.trans h.os, k.tape.trans h.tape, k.output.trans h.output, Nat.le_trans h.size k.size, fun i hi hn => (k.block i (Nat.lt_of_lt_of_le hi h.size) hn).trans (h.block i hi hn)⟩
theorem Only.mono (h : Only F w w') (hF : ∀ k, k < w.heap.size → F k → F' k) : Only F' w w' :=
  ⟨h.os, h.tape, h.output, h.size, fun k hk hn => h.block k hk fun hf => hn (hF k hk hf)⟩
theorem Only.below (h : Only F w w') {B : Nat} (hB : B ≤ w.heap.size) (hF : ∀ k, k < B → ¬ F k) : Below B w w' :=
  ⟨h.os, h.tape, h.output, h.size, fun k hk => h.block k (by omega) (hF k hk)⟩
theorem Only.drewN (h : Only F w w') (n : Nat) : Only F w (w'.drewN n) := ⟨h.os, h.tape, h.output, h.size, h.block⟩
theorem Only.drew (h : Only F w w') : Only F w w'.drew := ⟨h.os, h.tape, h.output, h.size, h.block⟩
theorem Only.alloc (h : Only F w w') (o : Obj) : Only F w (w'.alloc o) :=
  h.trans ⟨rfl, rfl, rfl, by simp, fun k hk _ => Below.heap_alloc _ _ _ hk⟩
theorem Only.setCell (h : Only F w w') {p : Addr} (hp : F p.block ∨ w.heap.size ≤ p.block) (u : Value) : Only F w (w'.setCell p u) :=
  ⟨h.os, h.tape, h.output, by simpa [World.setCell] using h.size, fun k hk hn => (Below.heap_setCell _ _ _ _ (by
    rintro rfl
    rcases hp with hp | hp
    · exact hn hp
    · omega)).trans (h.block k hk hn)⟩
theorem Only.grown (h : Only F w w') {row : Option Nat} (hg : w'.grownBy w'' row) (hr : ∀ k, row = some k → F k ∨ w.heap.size ≤ k) : Only F w w'' :=
  ⟨hg.os.trans h.os, hg.tape.trans h.tape, hg.output.trans h.output, Nat.le_trans h.size hg.size, fun k hk hn => (hg.block k (Nat.lt_of_lt_of_le hk h.size) (fun e => by
    rcases hr k e.symm with hr | hr
    · exact hn hr
    · omega)).trans (h.block k hk hn)⟩

/-- where a slice value's cells lie -/
def At (A : Option Addr) (k : Nat) : Prop := ∃ a, A = some a ∧ a.block = k

theorem Bs.only {A : Option Addr} {l : List UInt8} (h : Bs w A l) (hb : Only F w w') (hA : ∀ k, At A k → ¬ F k) : Bs w' A l := fun hl => by
  obtain ⟨b, o, e, hc⟩ := h hl
  subst e
  refine ⟨b, o, rfl, fun j hj => ?_⟩
  have hcj := hc j hj
  have hlt := World.block_lt_of_cell? w _ hcj
  rw [World.cell?_of_block (hb.block b hlt (hA b ⟨_, rfl, rfl⟩))]
  exact hcj
theorem Ob.only {E : TypeId} {base : Nat} {A : Option Addr} {n c : Nat} {l : List UInt8} (h : Ob E w base (.slice A n c) l) (hb : Only F w w') (hA : ∀ k, At A k → ¬ F k) : Ob E w' base (.slice A n c) l := by
  refine ⟨h.1, ?_⟩
  rcases h.2 with hn | ⟨g, cap, cur, e, hb', hg, rest⟩
  · exact .inl hn
  · refine .inr ⟨g, cap, cur, e, hb', ?_, rest⟩
    injection e with e1 e2 e3
    subst e1
    rw [hb.block g (Array.getElem?_eq_some_iff.1 hg).1 (hA g ⟨_, rfl, rfl⟩)]
    exact hg
end
end Go.Proofs.Ytlbkpmcccipfhaa

namespace Go.Proofs.Ytlbkpmcccipfhaa
open Go.RowKit
set_option linter.unusedVariables false
set_option maxRecDepth 100000

theorem halfB_len (l p : List UInt8) : (halfB l p).length = l.length := by simp [halfB]
theorem halfB_at {l p : List UInt8} {i : Nat} (h : i < l.length) : (halfB l p).getD i 0 = l.getD i 0 ||| p.getD i 0 := by
  simp only [halfB]
  exact getD_map_range _ _ _ h
theorem u8_or_or (x y : UInt8) : x ||| (x ||| y) = x ||| y := by rw [← UInt8.or_assoc, UInt8.or_self]
theorem u8_and_not_or (x y : UInt8) : x &&& ~~~(x ||| y) = 0 := by
  rw [tz_and]; exact u8_or_or x y
theorem canB_half (l p : List UInt8) : canB (halfB l p) l = true := by
  refine canB_true (halfB_len l p) fun i hi => ?_
  rw [halfB_len] at hi
  rw [halfB_at hi]
  exact u8_and_not_or _ _
theorem halfB_half (l p : List UInt8) : halfB l (halfB l p) = halfB l p := by
  apply list_ext_getD (by simp [halfB])
  intro i hi
  rw [halfB_len] at hi
  rw [halfB_at hi, halfB_at hi, u8_or_or]
theorem blank_at {n i : Nat} (h : i < n) : (List.replicate n (255 : UInt8)).getD i 0 = 255 := by simp [List.getD, h]
theorem u8_or_255 (x : UInt8) : 255 ||| x = 255 := by
  apply u8_ext
  intro i hi
  have : ∀ i, i < 8 → (255 : UInt8).toBitVec.getLsbD i = true := by decide
  simp only [UInt8.toBitVec_or, BitVec.getLsbD_or, this i hi, Bool.true_or]
theorem halfB_blank (n : Nat) (p : List UInt8) : halfB (List.replicate n 255) p = List.replicate n 255 := by
  apply list_ext_getD (by simp [halfB])
  intro i hi
  rw [halfB_len] at hi
  rw [halfB_at hi]
  simp only [List.length_replicate] at hi
  rw [blank_at hi, u8_or_255]
theorem blank_all (n : Nat) : (List.replicate n (255 : UInt8)).all (· == 255) = true := by simp
theorem canB_blank (l : List UInt8) : canB (List.replicate l.length 255) l = true := by
  refine canB_true (by simp) fun i hi => ?_
  rw [List.length_replicate] at hi
  rw [blank_at hi, tz_and, UInt8.or_comm]
  exact u8_or_255 _
end Go.Proofs.Ytlbkpmcccipfhaa

namespace Go.Proofs.Ytlbkpmcccipfhaa
open Go.RowKit
set_option linter.unusedVariables false
set_option maxRecDepth 100000

/-- l, its first k bytes turned by f -/
def updTo (l : List UInt8) (f : Nat → UInt8) (k : Nat) : List UInt8 := (List.range l.length).map fun i => if i < k then f i else l.getD i 0
theorem updTo_len (l f k) : (updTo l f k).length = l.length := by simp [updTo]
theorem updTo_get {l : List UInt8} {f : Nat → UInt8} {k i : Nat} (h : i < l.length) : (updTo l f k).getD i 0 = if i < k then f i else l.getD i 0 := by
  simp only [updTo]
  rw [getD_map_range _ _ _ h]
theorem updTo_zero (l f) : updTo l f 0 = l := by
  apply list_ext_getD (updTo_len _ _ _)
  intro i hi
  rw [updTo_len] at hi
  rw [updTo_get hi]
  simp
theorem updTo_at {l : List UInt8} {f : Nat → UInt8} {k : Nat} (hk : k < l.length) : (updTo l f k).getD k 0 = l.getD k 0 := by
  rw [updTo_get hk]
  simp
theorem updTo_step {l : List UInt8} {f : Nat → UInt8} {k : Nat} (hk : k < l.length) : (updTo l f k).set k (f k) = updTo l f (k + 1) := by
  have := range_set l.length k (fun i => if i < k then f i else l.getD i 0) (fun i => if i < k + 1 then f i else l.getD i 0) hk (by
    intro i hi
    by_cases h : i < k
    · rw [if_pos h, if_pos (by omega)]
    · rw [if_neg h, if_neg (by omega)])
  simp only [Nat.lt_succ_self, if_true] at this
  exact this

def maskF (l m : List UInt8) (i : Nat) : UInt8 := l.getD i 0 &&& m.getD i 0
def maskB (l m : List UInt8) : List UInt8 := updTo l (maskF l m) (min l.length m.length)
def seenF (l n p : List UInt8) (i : Nat) : UInt8 := n.getD i 0 ||| (l.getD i 0 &&& p.getD i 0)
def seenB (l n p : List UInt8) : List UInt8 := updTo n (seenF l n p) (min l.length p.length)

theorem u8_sub1 (x y : UInt8) : (x &&& y) &&& ~~~x = 0 := by
  apply u8_ext
  intro i hi
  simp [hi]
  cases hx : (x.toBitVec).getLsbD i <;> cases hy : (y.toBitVec).getLsbD i <;> simp_all
theorem u8_sub0 (x : UInt8) : x &&& ~~~x = 0 := by simp
theorem maskB_len (l m) : (maskB l m).length = l.length := updTo_len _ _ _
theorem canB_mask (l m : List UInt8) : canB l (maskB l m) = true := by
  refine canB_true (maskB_len l m).symm fun i hi => ?_
  unfold maskB
  rw [updTo_get hi]
  split
  · exact u8_sub1 _ _
  · exact u8_sub0 _
theorem tornB_len (l m p) : (tornB l m p).length = m.length := by simp [tornB]
theorem tornB_at {l m p : List UInt8} {i : Nat} (h : i < m.length) : (tornB l m p).getD i 0 = tornByte (l.getD i 0) (m.getD i 0) (p.getD i 0) := by
  simp only [tornB]
  exact getD_map_range _ _ _ h
theorem canB_torn (l m p : List UInt8) : canB (tornB l m p) m = true := by
  refine canB_true (tornB_len l m p) fun i hi => ?_
  rw [tornB_len] at hi
  rw [tornB_at hi]
  exact u8_and_not_or _ _
theorem tornByte_sub {o n p : UInt8} (h : n &&& ~~~o = 0) : tornByte o n p &&& ~~~o = 0 := by
  apply u8_ext
  intro i hi
  have := u8_at h i
  simp [hi] at this
  simp [hi, tornByte]
  cases hx : (o.toBitVec).getLsbD i <;> cases hy : (n.toBitVec).getLsbD i <;> cases hz : (p.toBitVec).getLsbD i <;> simp_all
theorem canB_torn_old {l m : List UInt8} (p : List UInt8) (h : canB l m = true) : canB l (tornB l m p) = true := by
  have k := canB_iff.1 h
  refine canB_true (k.1.trans (tornB_len l m p).symm) fun i hi => ?_
  rw [tornB_at (by omega)]
  exact tornByte_sub (k.2 i hi)
theorem seenB_len (l n p) : (seenB l n p).length = n.length := updTo_len _ _ _
theorem u8_seen {o n p : UInt8} (h : n &&& ~~~o = 0) : (n ||| (o &&& p)) &&& ~~~o = 0 := by
  apply u8_ext
  intro i hi
  have := u8_at h i
  simp [hi] at this
  simp [hi]
  cases hx : (o.toBitVec).getLsbD i <;> cases hy : (n.toBitVec).getLsbD i <;> cases hz : (p.toBitVec).getLsbD i <;> simp_all
theorem canB_seen_old {l n : List UInt8} (p : List UInt8) (h : canB l n = true) : canB l (seenB l n p) = true := by
  have k := canB_iff.1 h
  refine canB_true (k.1.trans (seenB_len l n p).symm) fun i hi => ?_
  unfold seenB
  rw [updTo_get (by omega)]
  split
  · exact u8_seen (k.2 i hi)
  · exact k.2 i hi
theorem canB_seen_new (l n p : List UInt8) : canB (seenB l n p) n = true := by
  refine canB_true (seenB_len l n p) fun i hi => ?_
  rw [seenB_len] at hi
  unfold seenB
  rw [updTo_get hi]
  split
  · exact u8_and_not_or _ _
  · exact u8_sub0 _
theorem tornByte_back {o n s : UInt8} (h1 : s &&& ~~~o = 0) (h2 : n &&& ~~~s = 0) : tornByte o n s = s := by
  apply u8_ext
  intro i hi
  have q1 := u8_at h1 i
  have q2 := u8_at h2 i
  simp [hi] at q1 q2
  simp [hi, tornByte]
  cases hx : (o.toBitVec).getLsbD i <;> cases hy : (n.toBitVec).getLsbD i <;> cases hz : (s.toBitVec).getLsbD i <;> simp_all
theorem torn_back {l n s : List UInt8} (h1 : canB l s = true) (h2 : canB s n = true) : tornB l n s = s := by
  have k1 := canB_iff.1 h1
  have k2 := canB_iff.1 h2
  apply list_ext_getD (by rw [tornB_len]; exact k2.1.symm)
  intro i hi
  rw [tornB_len] at hi
  rw [tornB_at hi]
  exact tornByte_back (k1.2 i (by omega)) (k2.2 i (by omega))
end Go.Proofs.Ytlbkpmcccipfhaa

namespace Go.Proofs.Ytlbkpmcccipfhaa
open Go.RowKit
set_option linter.unusedVariables false
set_option maxRecDepth 100000

/-- a byte's bit, as a number -/
def bitI (x : UInt8) (k : Nat) : Int := if x.toBitVec.getLsbD k then 1 else 0

theorem bitI_eq (x : UInt8) (k : Nat) : bitI x k = ((x.toNat / 2 ^ k % 2 : Nat) : Int) := by
  unfold bitI
  rw [BitVec.getLsbD, Nat.testBit_eq_decide_div_mod_eq]
  have : x.toBitVec.toNat = x.toNat := rfl
  rw [this]
  have h2 := Nat.mod_lt (x.toNat / 2 ^ k) (show 2 > 0 by omega)
  by_cases h : x.toNat / 2 ^ k % 2 = 1
  · simp [h]
  · have : x.toNat / 2 ^ k % 2 = 0 := by omega
    simp [this]

theorem i64_and1 (n : Nat) (h : n < 256) : bits .and .i64 (n : Int) 1 = ((n % 2 : Nat) : Int) := by
  have := (bits_nat .i64 63 (by decide) (fun m h0 h1 => by rw [IntKind.wrap_i64]; omega) n 1 (by omega) (by decide)).1
  rw [Nat.and_one_is_mod] at this
  exact this

theorem bit_and {n k : Nat} (h : n < 2 ^ 8) : bits .and .i64 (wrap64 ((n : Int) / 2 ^ k)) 1 = ((n / 2 ^ k % 2 : Nat) : Int) := by
  have hd : n / 2 ^ k ≤ n := Nat.div_le_self _ _
  have e : (n : Int) / 2 ^ k = ((n / 2 ^ k : Nat) : Int) := by simp
  rw [e]
  have e2 : wrap64 ((n / 2 ^ k : Nat) : Int) = ((n / 2 ^ k : Nat) : Int) := by
    generalize n / 2 ^ k = q at *
    unfold wrap64
    omega
  rw [e2, i64_and1 _ (by omega)]

theorem bitI_le (x y : UInt8) : (∀ k, k < 8 → bitI y k ≤ bitI x k) ↔ y &&& ~~~x = 0 := by
  constructor
  · intro h
    apply u8_ext
    intro i hi
    have := h i hi
    unfold bitI at this
    simp [hi]
    cases hx : (x.toBitVec).getLsbD i <;> cases hy : (y.toBitVec).getLsbD i <;> simp_all
  · intro h k hk
    have := u8_at h k
    unfold bitI
    simp [hk] at this
    cases hx : (x.toBitVec).getLsbD k <;> cases hy : (y.toBitVec).getLsbD k <;> simp_all

/-- b, and of f the lowest k bits -/
def lowMask (k : Nat) : UInt8 := UInt8.ofNat (2 ^ k - 1)

def part (b f : UInt8) (k : Nat) : UInt8 := b ||| (f &&& lowMask k)

theorem lowMask_bit : ∀ k, k ≤ 8 → ∀ i, i < 8 → (lowMask k).toBitVec.getLsbD i = decide (i < k) := by
  have h : ∀ k : Fin 9, ∀ i : Fin 8, (lowMask k.1).toBitVec.getLsbD i.1 = decide (i.1 < k.1) := by decide
  exact fun k hk i hi => h ⟨k, by omega⟩ ⟨i, hi⟩

theorem oneAt_bit : ∀ k, k < 8 → ∀ i, i < 8 → (UInt8.ofNat (2 ^ k)).toBitVec.getLsbD i = decide (i = k) := by
  have h : ∀ k : Fin 8, ∀ i : Fin 8, (UInt8.ofNat (2 ^ k.1)).toBitVec.getLsbD i.1 = decide (i.1 = k.1) := by decide
  exact fun k hk i hi => h ⟨k, hk⟩ ⟨i, hi⟩

theorem part_zero (b f : UInt8) : part b f 0 = b := by
  apply u8_ext
  intro i hi
  simp [part, lowMask_bit 0 (by omega) i hi]

theorem part_eight {b f : UInt8} (h : b &&& ~~~f = 0) : part b f 8 = f := by
  apply u8_ext
  intro i hi
  have q := (bitI_le f b).2 h i hi
  unfold bitI at q
  simp only [part, UInt8.toBitVec_or, UInt8.toBitVec_and, BitVec.getLsbD_or, BitVec.getLsbD_and, lowMask_bit 8 (by omega) i hi]
  rw [decide_eq_true hi]
  cases hx : (b.toBitVec).getLsbD i <;> cases hy : (f.toBitVec).getLsbD i <;> simp_all

theorem part_no {b f : UInt8} {k : Nat} (hk : k < 8) (h : f.toBitVec.getLsbD k = false ∨ b.toBitVec.getLsbD k = true) : part b f (k + 1) = part b f k := by
  apply u8_ext
  intro i hi
  simp [part, lowMask_bit k (by omega) i hi, lowMask_bit (k + 1) (by omega) i hi]
  by_cases e : i = k
  · subst e
    rcases h with h | h <;> simp [h]
  · have : (i < k + 1) ↔ (i < k) := by omega
    simp [this]

theorem u8_add_or {x y : UInt8} (h : x &&& y = 0) : x + y = x ||| y := by
  apply UInt8.toBitVec_inj.1
  rw [UInt8.toBitVec_add, UInt8.toBitVec_or]
  apply BitVec.add_eq_or_of_and_eq_zero
  have := congrArg UInt8.toBitVec h
  simpa using this

theorem part_yes {b f : UInt8} {k : Nat} (hk : k < 8) (h1 : f.toBitVec.getLsbD k = true) (h2 : b.toBitVec.getLsbD k = false) : part b f k + UInt8.ofNat (2 ^ k) = part b f (k + 1) := by
  have hz : part b f k &&& UInt8.ofNat (2 ^ k) = 0 := by
    apply u8_ext
    intro i hi
    simp only [UInt8.toBitVec_and, BitVec.getLsbD_and, oneAt_bit k hk i hi]
    simp [part, lowMask_bit k (by omega) i hi]
    by_cases e : i = k
    · subst e; simp [h2]
    · simp [e]
  rw [u8_add_or hz]
  apply u8_ext
  intro i hi
  simp only [UInt8.toBitVec_or, BitVec.getLsbD_or, oneAt_bit k hk i hi]
  simp [part, lowMask_bit k (by omega) i hi, lowMask_bit (k + 1) (by omega) i hi]
  by_cases e : i = k
  · subst e; simp [h1]
  · have : (i < k + 1) ↔ (i < k) := by omega
    simp [e, this]

theorem part_toNat {b f : UInt8} {k : Nat} (hk : k < 8) (h1 : f.toBitVec.getLsbD k = true) (h2 : b.toBitVec.getLsbD k = false) : (part b f k).toNat + 2 ^ k = (part b f (k + 1)).toNat := by
  have hz : part b f k &&& UInt8.ofNat (2 ^ k) = 0 := by
    apply u8_ext
    intro i hi
    simp only [UInt8.toBitVec_and, BitVec.getLsbD_and, oneAt_bit k hk i hi]
    simp [part, lowMask_bit k (by omega) i hi]
    by_cases e : i = k
    · subst e; simp [h2]
    · simp [e]
  have e := part_yes hk h1 h2
  have hp : (UInt8.ofNat (2 ^ k)).toNat = 2 ^ k := by
    rw [UInt8.toNat_ofNat']
    exact Nat.mod_eq_of_lt (Nat.pow_lt_pow_right (by omega) hk)
  have hz' : (part b f k).toBitVec &&& (UInt8.ofNat (2 ^ k)).toBitVec = 0#8 := by simpa using congrArg UInt8.toBitVec hz
  have hs := BitVec.toNat_add_of_and_eq_zero hz'
  have h3 : (part b f k).toNat + (UInt8.ofNat (2 ^ k)).toNat = (part b f k + UInt8.ofNat (2 ^ k)).toNat := hs.symm
  rw [e, hp] at h3
  exact h3

theorem set_same (l : List UInt8) (k : Nat) (x : UInt8) (hk : k < l.length) (h : l.getD k 0 = x) : l.set k x = l := by
  apply list_ext_getD (by simp)
  intro i hi
  rw [getD_set _ _ _ _ (by simpa using hi)]
  by_cases e : k = i
  · subst e; rw [if_pos rfl, h]
  · rw [if_neg e]

theorem torn_bit (o n p : UInt8) (k : Nat) : (tornByte o n p).toBitVec.getLsbD k = (n.toBitVec.getLsbD k || (o.toBitVec.getLsbD k && (decide (k < 8) && !n.toBitVec.getLsbD k) && p.toBitVec.getLsbD k)) := by
  simp only [tornByte, UInt8.toBitVec_or, UInt8.toBitVec_and, UInt8.toBitVec_not, BitVec.getLsbD_or, BitVec.getLsbD_and, BitVec.getLsbD_not]

theorem half_bit (o p : UInt8) (k : Nat) : (o ||| p).toBitVec.getLsbD k = (o.toBitVec.getLsbD k || p.toBitVec.getLsbD k) := by
  simp only [UInt8.toBitVec_or, BitVec.getLsbD_or]

theorem bitI_one {x : UInt8} {k : Nat} : bitI x k = 1 ↔ x.toBitVec.getLsbD k = true := by
  unfold bitI; split <;> simp_all

theorem bitI_zero {x : UInt8} {k : Nat} : bitI x k = 0 ↔ x.toBitVec.getLsbD k = false := by
  unfold bitI; split <;> simp_all

theorem sum_at {a b : Nat} {q : Nat} (h : a + 2 ^ q = b) (hb : b < 2 ^ 8) : ((a : Int) + 2 ^ q) % 256 = (b : Int) := by
  have e : ((a : Int) + 2 ^ q) = (b : Int) := by exact_mod_cast h
  rw [e]
  omega

theorem half_no {x z : UInt8} {q : Nat} (hq : q < 8) (h : bitI x q ≠ 0 ∨ bitI z q ≠ 1) : part x (x ||| z) (q + 1) = part x (x ||| z) q := by
  apply part_no hq
  rw [half_bit]
  rcases h with h | h
  · right
    cases hx : x.toBitVec.getLsbD q
    · exact absurd (bitI_zero.2 hx) h
    · rfl
  · cases hz : z.toBitVec.getLsbD q
    · cases hx : x.toBitVec.getLsbD q <;> simp
    · exact absurd (bitI_one.2 hz) h

theorem torn_no_part {o n p : UInt8} {q : Nat} (hq : q < 8) (h : bitI o q ≠ 1 ∨ bitI n q ≠ 0 ∨ bitI p q ≠ 1) : part n (tornByte o n p) (q + 1) = part n (tornByte o n p) q := by
  apply part_no hq
  rw [torn_bit]
  cases hn : n.toBitVec.getLsbD q
  · left
    rcases h with h | h | h
    · cases ho : o.toBitVec.getLsbD q
      · simp
      · exact absurd (bitI_one.2 ho) h
    · exact absurd (bitI_zero.2 hn) h
    · cases hp : p.toBitVec.getLsbD q
      · simp
      · exact absurd (bitI_one.2 hp) h
  · right; rfl

end Go.Proofs.Ytlbkpmcccipfhaa

namespace Go.Proofs.Ytlbkpmcccipfhaa
open Go.RowKit
set_option linter.unusedVariables false
set_option maxRecDepth 100000

theorem make_bytes (k : Nat) (hk : k ≤ 2147483648) (u : World) : (Instr.makeSlice 38 (.int .i64 (k : Int)) (.int .i64 (k : Int))).run Try.prog u =
      .ok (.slice (some ⟨u.heap.size, 0, none⟩) k k) (u.alloc (.cells (madeCells #[.int .u8 0] k) 5)) := by
  obtain ⟨i0, hi, hz0, hz1, hz2⟩ := info_parts info5
  have h := run_make (P := Try.prog) u 38 5 i0 (.int .u8 0) Try.underlying38 hi hz0 .i64 .i64 (k : Int) (k : Int) (by omega) (Int.le_refl _) (by rw [hz2]; omega) (by omega)
  simpa [hz1, Value.cells] using h

theorem own_made (w : World) (k : Nat) (E : TypeId) (hk : k ≤ 2147483648) : Ob E (w.alloc (.cells (madeCells #[.int .u8 0] k) E)) w.heap.size (.slice (some ⟨w.heap.size, 0, none⟩) k k) (List.replicate k 0) := by
  have h := World.ownsRow_lit (base := w.heap.size) (e := E) (size := 1) w (madeCells #[.int .u8 0] k) k (Nat.le_refl _) (by unfold maxLen; omega) (by simp [size_madeCells])
  unfold Ob
  rw [toList_madeCells_one] at h
  simpa [List.map_replicate, bval] using h

def BlankPost (w : World) (n : Int) (e : Ending) (w' : World) : Prop :=
  ∃ v, e = .returned v ∧ Ob 5 w' w.heap.size v (List.replicate (max 0 (min n 65536)).toNat 255) ∧ Below w.heap.size w w'

theorem replicate_step (K k : Nat) (hk : k < K) : (List.replicate k (255 : UInt8) ++ List.replicate (K - k) 0).set k 255 = List.replicate (k + 1) 255 ++ List.replicate (K - (k + 1)) 0 := by
  rw [List.set_append, if_neg (by simp)]
  have : K - k = (K - (k + 1)) + 1 := by omega
  rw [this, List.replicate_succ (n := K - (k + 1)), List.length_replicate, Nat.sub_self, List.set_cons_zero, List.replicate_succ']
  simp

section
variable {w W : World} {A1 A2 A3 : Option Addr} {l m p : List UInt8} {n1 n2 n3 c1 c2 c3 : Nat}

theorem blankPost_in {n : Int} {K : Nat} (hb : Below w.heap.size w W) (hK : Hid (K = (max 0 (min n 65536)).toNat)) : ∀ e w', BlankPost W n e w' → RetIn 5 w (List.replicate K 255) e w' := by
  rintro e w' ⟨v, he, ho, hw⟩
  rw [← hK.out] at ho
  exact retIn_of hb e w' ⟨v, he, ho, hw⟩
end
end Go.Proofs.Ytlbkpmcccipfhaa

namespace Go.Proofs.Ytlbkpmcccipfhaa
open Go.RowKit
set_option linter.unusedVariables false
set_option maxRecDepth 100000

theorem isRow_cap {k : IntKind} {w : World} {a : Option Addr} {len cap : Nat} {zs : List Int} (h : IsRow k w a len cap zs) : len ≤ cap := by
  rcases h with ⟨rfl, rfl, rfl, rfl⟩ | ⟨x, rfl, hl, -⟩
  · exact Nat.le_refl _
  · exact hl
theorem wf_i64 {n : Int} (h : (Lit.int .i64 n).wf = true) : -9223372036854775808 ≤ n ∧ n ≤ 9223372036854775807 := by
  simpa [Lit.wf, IntKind.min, IntKind.max, IntKind.signed, IntKind.bits] using h
end Go.Proofs.Ytlbkpmcccipfhaa

