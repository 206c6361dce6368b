/- Plain words for byte slices: 'Bs w A l': a slice value with address A and length l.length reads, in world w, as the bytes l. 'Ob E w base v l': the slice value v owns the bytes l in a block from base on. No program is named here. -/
import Derived.WalkKit
import Derived.Deep.Draws
import Derived.Laws.BytesArg
import Derived.Laws.BitsAllLaws
import Derived.Laws.AppendOwnNone
import Derived.WalkSpells
import Derived.Lib.Hide
import Derived.Below
namespace Go.Proofs.Ytlnpfndjdilfhaa
open Go.RowKit
set_option linter.unusedVariables false

def Bs (w : World) (A : Option Addr) (l : List UInt8) : Prop :=
  0 < l.length → ∃ b o, A = some ⟨b, o, none⟩ ∧ ∀ j, j < l.length → w.cell? ⟨b, o + j, none⟩ = some (.int .u8 ((l.getD j 0).toNat : Int))

theorem Bs.nil_ (w : World) (A : Option Addr) : Bs w A [] := fun h => absurd h (by simp)

theorem Bs.at_ {w : World} {A : Option Addr} {l : List UInt8} (h : Bs w A l) {k : Nat} (hk : k < l.length) :
    ∃ b o, A = some ⟨b, o, none⟩ ∧ w.cell? ⟨b, o + k, none⟩ = some (.int .u8 ((l.getD k 0).toNat : Int)) := by
  obtain ⟨b, o, e, hc⟩ := h (by omega)
  exact ⟨b, o, e, hc k hk⟩

theorem Bs.drewN {w : World} {A : Option Addr} {l : List UInt8} (h : Bs w A l) (n : Nat) : Bs (w.drewN n) A l := h

theorem Bs.below {w w' : World} {A : Option Addr} {l : List UInt8} (h : Bs w A l) (hb : Below w.heap.size w w') : Bs w' A l := fun hl => by
  obtain ⟨b, o, e, hc⟩ := h hl
  refine ⟨b, o, e, fun j hj => ?_⟩
  have hcj := hc j hj
  have hlt := World.block_lt_of_cell? w _ hcj
  rw [hb.cell hlt]
  exact hcj

theorem below_drewN' {B : Nat} {a w : World} (h : Below B a w) (n : Nat) : Below B a (w.drewN n) := ⟨h.os, h.tape, h.output, h.size, h.block⟩

theorem below_of_drewN {B : Nat} {a w : World} {n : Nat} (h : Below B (a.drewN n) w) : Below B a w := ⟨h.os, h.tape, h.output, h.size, h.block⟩

/-- the value of a byte -/
def bval (x : UInt8) : Value := .int .u8 (x.toNat : Int)

theorem bval_one (x : UInt8) : (bval x).oneCell' = true := rfl

/-- the cells that Bs names, in the spelling of the append laws -/
theorem Bs.news {w : World} {a : Addr} {l : List UInt8} (h : Bs w (some a) l) : ∀ j u, (l.map bval)[j]? = some u → w.cell? (a.add j) = some u := by
  intro j u hu
  have hj : j < l.length := by
    rcases Nat.lt_or_ge j l.length with h | h
    · exact h
    · rw [List.getElem?_eq_none (by simpa using h)] at hu; cases hu
  obtain ⟨b, o, e, hc⟩ := h (by omega)
  injection e with e
  subst e
  have hadd : (⟨b, o, none⟩ : Addr).add j = ⟨b, o + j, none⟩ := by unfold Addr.add; split <;> simp_all
  rw [hadd, hc j hj]
  rw [List.getElem?_map, List.getElem?_eq_getElem hj] at hu
  simp at hu
  subst hu
  simp [bval, List.getD, List.getElem?_eq_getElem hj]

/-- the slice value v owns the bytes l, in a block from base on -/
def Ob (E : TypeId) (w : World) (base : Nat) (v : Value) (l : List UInt8) : Prop := w.ownsRow base E 1 v l.length (l.map bval)

theorem Ob.nil_ (E : TypeId) (w : World) (base : Nat) : Ob E w base (.slice none 0 0) [] := World.ownsRow_nil w base E 1

theorem Ob.form {E : TypeId} {w : World} {base : Nat} {v : Value} {l : List UInt8} (h : Ob E w base v l) :
    ∃ A c, v = .slice A l.length c ∧ Bs w A l ∧ (A = none ∨ ∃ g, A = some ⟨g, 0, none⟩ ∧ base ≤ g ∧ g < w.heap.size) := by
  rcases h.2 with ⟨rfl, hn⟩ | ⟨g, cap, cur, rfl, hb, hg, hnc, hcm, hcs, htake⟩
  · have : l = [] := List.eq_nil_of_length_eq_zero hn
    subst this
    exact ⟨none, 0, rfl, Bs.nil_ _ _, .inl rfl⟩
  · refine ⟨_, cap, rfl, fun hl => ⟨g, 0, rfl, fun j hj => ?_⟩, .inr ⟨g, rfl, hb, (Array.getElem?_eq_some_iff.1 hg).1⟩⟩
    have := World.ownsRow.cellAt h j (by omega)
    rw [Nat.zero_add, this, List.getElem?_map, List.getElem?_eq_getElem hj]
    simp [bval, List.getD, List.getElem?_eq_getElem hj]

theorem Ob.bs {E : TypeId} {w : World} {base : Nat} {A : Option Addr} {n c : Nat} {l : List UInt8} (h : Ob E w base (.slice A n c) l) : Bs w A l := by
  obtain ⟨A', c', e, hb, _⟩ := h.form
  injection e with e1 e2 e3
  subst e1
  exact hb

theorem Ob.below {E : TypeId} {w w' : World} {base : Nat} {v : Value} {l : List UInt8} (h : Ob E w base v l) (hb : Below w.heap.size w w') : Ob E w' base v l := by
  refine ⟨h.1, ?_⟩
  rcases h.2 with hn | ⟨g, cap, cur, rfl, hb', hg, rest⟩
  · exact .inl hn
  · refine .inr ⟨g, cap, cur, rfl, hb', ?_, rest⟩
    rw [hb.block g (Array.getElem?_eq_some_iff.1 hg).1]
    exact hg

theorem Ob.drewN {E : TypeId} {w : World} {base : Nat} {v : Value} {l : List UInt8} (h : Ob E w base v l) (n : Nat) : Ob E (w.drewN n) base v l := h

theorem Ob.low {E : TypeId} {w : World} {base base' : Nat} {v : Value} {l : List UInt8} (h : Ob E w base v l) (hb : base' ≤ base) : Ob E w base' v l := by
  refine ⟨h.1, ?_⟩
  rcases h.2 with hn | ⟨g, cap, cur, rfl, hb', rest⟩
  · exact .inl hn
  · exact .inr ⟨g, cap, cur, rfl, by omega, rest⟩

theorem Ob.len {E : TypeId} {w : World} {base : Nat} {A : Option Addr} {n c : Nat} {l : List UInt8} (h : Ob E w base (.slice A n c) l) : n = l.length := by
  obtain ⟨A', c', e, _, _⟩ := h.form
  injection e with e1 e2 e3

theorem Ob.frozen {E : TypeId} {w : World} {base g n c : Nat} {l : List UInt8} (h : Ob E w base (.slice (some ⟨g, 0, none⟩) n c) l) (k : Nat) : w.frozen? ⟨g, k, none⟩ = false := by
  have := h.len
  subst this
  exact World.ownsRow.frozenAt h k

/-- a store into an owned row -/
theorem Ob.set_ {E : TypeId} {w : World} {base g n c : Nat} {l : List UInt8} (h : Ob E w base (.slice (some ⟨g, 0, none⟩) n c) l) (k : Nat) (x : UInt8) :
    Ob E (w.setCell ⟨g, k, none⟩ (bval x)) base (.slice (some ⟨g, 0, none⟩) n c) (l.set k x) := by
  obtain ⟨A', c', e, _, _⟩ := h.form
  injection e with e1 e2 e3
  subst e2
  have := (World.ownsRow.stored h k (bval x)).1
  unfold Ob
  rw [List.map_set, List.length_set]
  exact this

/-- string(v) of a slice that reads as l -/
def strB (l : List UInt8) : ByteArray := ⟨l.toArray⟩

theorem run_conv_bs {P : Program} (w : World) (src e dst : TypeId) (hs : P.underlying src = some (.slice e)) (he : P.underlying e = some (.int .u8)) (hd : P.underlying dst = some .string)
    (A : Option Addr) (l : List UInt8) (c n : Nat) (h : Bs w A l) (hn : n = l.length) : (convert src dst (.slice A n c)).run P w = .ok (.string (strB l)) w := by
  subst hn
  rcases Nat.eq_zero_or_pos l.length with h0 | h0
  · have : l = [] := List.eq_nil_of_length_eq_zero h0
    subst this
    rcases A with _ | a
    · exact run_convert_bytes_nil w src e hs he _ _ dst hd
    · rw [run_convert_bytes_string w src dst e _ _ c hs he hd]
      have := run_bytesToString (P := P) w a 0 c [] (by simpa using run_loadCells_list (P := P) w a [] (fun j v hj => by simp at hj))
      simp only [List.length_nil]
      rw [this]
      rfl
  · obtain ⟨b, o, rfl, hc⟩ := h h0
    have := run_convert_bytes_arg (P := P) w src e hs he b o l.length c (l.map fun x => (x.toNat : Int)) (by simp) (fun i hi => by
      rw [hc i hi]; simp [List.getD, List.getElem?_eq_getElem hi]) dst hd
    rw [this]
    congr 2
    simp [strOfNums, strB, Function.comp_def]

theorem strB_inj {l m : List UInt8} : (strB l = strB m) ↔ l = m := by
  constructor
  · intro h
    have := congrArg (fun s : ByteArray => s.data.toList) h
    simpa [strB] using this
  · rintro rfl; rfl

section
variable {P : Program}

theorem run_append_nil_src (w : World) (base : Nat) (t ty e : TypeId) (i : TypeInfo) (ht : P.underlying t = some (.slice e)) (hi : P.info? e = some i)
    (v : Value) (l : List UInt8) (hown : Ob e w base v l) (c : Nat) : (Builtin.append_ #[t, t] ty #[v, .slice none 0 c]).run P w = .ok v w := by
  rcases hown.2 with ⟨rfl, _⟩ | ⟨g, cap, cur, rfl, _, _, hnc, _⟩
  · simp [Builtin.append_, run_underlying ht, sizeOf, typeInfo, hi, Builtin.lenOf, Builtin.firstCells]
  · simp [Builtin.append_, run_underlying ht, sizeOf, typeInfo, hi, Builtin.lenOf, Builtin.firstCells, hnc, storeCells]

/-- append of what reads as m to what owns l -/
theorem run_append_bs (w : World) (base : Nat) (t ty e : TypeId) (ht : P.underlying t = some (.slice e))
    (he : (P.info? e).map (fun i => (i.zero, i.size, i.bytes)) = some (some (.int .u8 0), 1, 1))
    (v : Value) (l : List UInt8) (hown : Ob e w base v l) (A : Option Addr) (m : List UInt8) (c : Nat) (hm : Bs w A m)
    (hlen : l.length + m.length ≤ 140737488355328) (hbase : base ≤ w.heap.size) :
    ∃ v' w', (Builtin.append_ #[t, t] ty #[v, .slice A m.length c]).run P w = .ok v' w' ∧ Ob e w' base v' (l ++ m) ∧ w.grownBy w' v.ownBlock := by
  obtain ⟨i0, hi, hz0, hz1, hz2⟩ := info_parts he
  rcases A with _ | a
  · have h0 : m.length = 0 := by
      rcases Nat.eq_zero_or_pos m.length with h | h
      · exact h
      · obtain ⟨b, o, e', _⟩ := hm h; cases e'
    have : m = [] := List.eq_nil_of_length_eq_zero h0
    subst this
    exact ⟨v, w, run_append_nil_src w base t ty e i0 ht hi v l hown c, by simpa using hown, World.grownBy.refl w _⟩
  · obtain ⟨v', w', hr, h2, h3, _⟩ := run_append_own (P := P) w base t ty e i0 (.int .u8 0) 1 1 ht hi hz0 hz1 hz2 rfl (by decide) v l.length (l.map bval) hown a m.length c (m.map bval) (by simp)
      hm.news (fun u hu => by obtain ⟨x, _, rfl⟩ := List.mem_map.1 hu; rfl) (by unfold maxLen; omega) (by omega) hbase
    refine ⟨v', w', hr, ?_, h3⟩
    unfold Ob
    rw [List.map_append, List.length_append]
    exact h2

theorem wpList_append_bs {w : World} {ops : Array Oper} {rest : List Oper} {o : Oper} {a : Act} {Q : Exit → Act → World → Prop} (hgd : o.guard = none) (s x : Operand) (t : TypeId)
    (ho : o.op = .call { callee := .builtin .append, args := #[s, x], argTypes := #[t, t] }) (base : Nat) (e : TypeId) (ht : P.underlying t = some (.slice e))
    (he : (P.info? e).map (fun i => (i.zero, i.size, i.bytes)) = some (some (.int .u8 0), 1, 1))
    (v : Value) (l : List UInt8) (hs : a.eval s = v) (hown : Ob e w base v l) (A : Option Addr) (m : List UInt8) (n c : Nat) (hx : a.eval x = .slice A n c) (hn : n = m.length) (hm : Bs w A m)
    (hlen : l.length + m.length ≤ 140737488355328) (hbase : base ≤ w.heap.size)
    (h : ∀ v' w', Ob e w' base v' (l ++ m) → w.grownBy w' v.ownBlock → wpList P ops Q rest (a.put o.dst v') w') : wpList P ops Q (o :: rest) a w := by
  subst hn
  refine wpList_plain hgd fun K hK => ?_
  obtain ⟨v', w', hrun, h2, h3⟩ := run_append_bs (P := P) w base t o.type e ht he v l hown A m c hm hlen hbase
  unfold Oper.wp execOp
  simp only [ho, resolve, invoke, builtin, Sem.run_bind, Sem.run_pure, Result.andThen_ok, List.map_toArray, List.map_cons, List.map_nil, hs, hx, hrun]
  exact hK _ _ (h v' w' h2 h3)
end

/-- append, as one step of a region that draws -/
theorem step_append_bs {P : Program} {ops : Array Oper} {o : Oper} {a : Act} {w : World} {K : Act → World → Prop} {Q : Exit → Act → World → Prop} {E : Prop} (hgd : o.guard = none) (s x : Operand) (t : TypeId)
    (ho : o.op = .call { callee := .builtin .append, args := #[s, x], argTypes := #[t, t] }) (base : Nat) (e : TypeId) (ht : P.underlying t = some (.slice e))
    (he : (P.info? e).map (fun i => (i.zero, i.size, i.bytes)) = some (some (.int .u8 0), 1, 1))
    (v : Value) (l : List UInt8) (hs : a.eval s = v) (hown : Ob e w base v l) (A : Option Addr) (m : List UInt8) (n c : Nat) (hx : a.eval x = .slice A n c) (hn : n = m.length) (hm : Bs w A m)
    (hlen : l.length + m.length ≤ 140737488355328) (hbase : base ≤ w.heap.size)
    (h : ∀ v' w', Ob e w' base v' (l ++ m) → w.grownBy w' v.ownBlock → K (a.put o.dst v') w') : if Region.wanted o (yielded ops a.tmps) = true then Oper.wp P o a w K Q else E := by
  have hw : Region.wanted o (yielded ops a.tmps) = true := by simp [Region.wanted, hgd]
  rw [if_pos hw]
  subst hn
  obtain ⟨v', w', hrun, h2, h3⟩ := run_append_bs (P := P) w base t o.type e ht he v l hown A m c hm hlen hbase
  unfold Oper.wp execOp
  simp only [ho, resolve, invoke, builtin, Sem.run_bind, Sem.run_pure, Result.andThen_ok, List.map_toArray, List.map_cons, List.map_nil, hs, hx, hrun]
  exact h v' w' h2 h3

theorem below_of_grown {w w' : World} (h : w.grownBy w' none) : Below w.heap.size w w' := ⟨h.os, h.tape, h.output, h.size, fun k hk => h.block k hk (by simp)⟩

theorem u8_and' (x y : UInt8) : bits .and .u8 (x.toNat : Int) (y.toNat : Int) = ((x &&& y).toNat : Int) := by
  rw [u8_and_nat _ _ x.toNat_lt y.toNat_lt, UInt8.toNat_and]
theorem u8_or' (x y : UInt8) : bits .or .u8 (x.toNat : Int) (y.toNat : Int) = ((x ||| y).toNat : Int) := by
  rw [u8_or_nat _ _ x.toNat_lt y.toNat_lt, UInt8.toNat_or]
theorem u8_andNot' (x y : UInt8) : bits .andNot .u8 (x.toNat : Int) (y.toNat : Int) = ((x &&& ~~~y).toNat : Int) := by
  rw [u8_andNot_nat _ _ x.toNat_lt y.toNat_lt, UInt8.toNat_and, UInt8.toNat_not]
  congr 2
theorem u8_zero (x : UInt8) : ((x.toNat : Int) != 0) = !(x == 0) := by
  rw [Bool.eq_iff_iff]
  simp
  constructor
  · intro h e; subst e; exact h rfl
  · intro h e; exact h (UInt8.toNat_inj.1 (by simpa using e))

/-- can old be programmed to new? -/
def canB (l m : List UInt8) : Bool := decide (l.length = m.length) && (List.range l.length).all fun i => m.getD i 0 &&& ~~~(l.getD i 0) == 0

theorem canB_len {l m : List UInt8} (h : l.length ≠ m.length) : canB l m = false := by simp [canB, h]
theorem canB_iff {l m : List UInt8} : canB l m = true ↔ l.length = m.length ∧ ∀ i, i < l.length → m.getD i 0 &&& ~~~(l.getD i 0) = 0 := by
  simp only [canB, Bool.and_eq_true, decide_eq_true_eq, List.all_eq_true, List.mem_range, beq_iff_eq]
theorem canB_true {l m : List UInt8} (h : l.length = m.length) (hc : ∀ i, i < l.length → m.getD i 0 &&& ~~~(l.getD i 0) = 0) : canB l m = true := canB_iff.2 ⟨h, hc⟩
theorem canB_false {l m : List UInt8} {k : Nat} (hk : k < l.length) (hc : m.getD k 0 &&& ~~~(l.getD k 0) ≠ 0) : canB l m = false := by
  rw [Bool.eq_false_iff]
  intro h
  exact hc ((canB_iff.1 h).2 k hk)

/-- what a broken programming leaves of one byte -/
def tornByte (o n p : UInt8) : UInt8 := n ||| (o &&& ~~~n &&& p)
def tornB (l m p : List UInt8) : List UInt8 := (List.range m.length).map fun i => tornByte (l.getD i 0) (m.getD i 0) (p.getD i 0)
/-- .. after k rounds -/
def tornTo (l m p : List UInt8) (k : Nat) : List UInt8 := (List.range m.length).map fun i => if i < k then tornByte (l.getD i 0) (m.getD i 0) (p.getD i 0) else m.getD i 0
def halfB (l p : List UInt8) : List UInt8 := (List.range l.length).map fun i => l.getD i 0 ||| p.getD i 0
def halfTo (l p : List UInt8) (k : Nat) : List UInt8 := (List.range l.length).map fun i => if i < k then l.getD i 0 ||| p.getD i 0 else l.getD i 0

theorem getD_map_range (f : Nat → UInt8) (n i : Nat) (h : i < n) : ((List.range n).map f).getD i 0 = f i := by
  simp [List.getD, h]

theorem list_ext_getD {l m : List UInt8} (h : l.length = m.length) (hc : ∀ i, i < l.length → l.getD i 0 = m.getD i 0) : l = m := by
  apply List.ext_getElem h
  intro i h1 h2
  have := hc i h1
  simpa [List.getD, List.getElem?_eq_getElem h1, List.getElem?_eq_getElem h2] using this

theorem getD_set (l : List UInt8) (k i : Nat) (x : UInt8) (h : i < l.length) : (l.set k x).getD i 0 = if k = i then x else l.getD i 0 := by
  simp only [List.getD, List.getElem?_set]
  by_cases e : k = i
  · subst e; simp [h]
  · simp [e]

theorem range_set (n k : Nat) (f g : Nat → UInt8) (hk : k < n) (h1 : ∀ i, i ≠ k → f i = g i) : ((List.range n).map f).set k (g k) = (List.range n).map g := by
  apply list_ext_getD (by simp)
  intro i hi
  simp at hi
  rw [getD_set _ _ _ _ (by simpa using hi), getD_map_range _ _ _ hi, getD_map_range _ _ _ hi]
  by_cases e : k = i
  · subst e; simp
  · rw [if_neg e, h1 i (by omega)]

theorem getD_over (p : List UInt8) (i : Nat) (h : p.length ≤ i) : p.getD i 0 = 0 := by simp [List.getD, List.getElem?_eq_none h]

theorem tornTo_len (l m p k) : (tornTo l m p k).length = m.length := by simp [tornTo]
theorem tornTo_zero (l m p) : tornTo l m p 0 = m := by
  apply list_ext_getD (by simp [tornTo])
  intro i hi
  rw [tornTo_len] at hi
  simp only [tornTo]
  rw [getD_map_range _ _ _ hi]
  simp
theorem tornTo_at {l m p : List UInt8} {k : Nat} (hk : k < m.length) : (tornTo l m p k).getD k 0 = m.getD k 0 := by
  simp only [tornTo]
  rw [getD_map_range _ _ _ hk]
  simp
theorem tornTo_step {l m p : List UInt8} {k : Nat} (hk : k < m.length) : (tornTo l m p k).set k (tornByte (l.getD k 0) (m.getD k 0) (p.getD k 0)) = tornTo l m p (k + 1) := by
  have := range_set m.length k (fun i => if i < k then tornByte (l.getD i 0) (m.getD i 0) (p.getD i 0) else m.getD i 0) (fun i => if i < k + 1 then tornByte (l.getD i 0) (m.getD i 0) (p.getD i 0) else m.getD i 0) hk (by
    intro i hi
    by_cases h : i < k
    · rw [if_pos h, if_pos (by omega)]
    · rw [if_neg h, if_neg (by omega)])
  simp only [Nat.lt_succ_self, if_true] at this
  exact this
theorem tornByte_zero (o n : UInt8) : tornByte o n 0 = n := by simp [tornByte]
theorem tornTo_end {l m p : List UInt8} {k : Nat} (hk : m.length ≤ k ∨ p.length ≤ k) : tornTo l m p k = tornB l m p := by
  apply list_ext_getD (by simp [tornTo, tornB])
  intro i hi
  rw [tornTo_len] at hi
  simp only [tornTo, tornB]
  rw [getD_map_range _ _ _ hi, getD_map_range _ _ _ hi]
  by_cases h : i < k
  · rw [if_pos h]
  · rw [if_neg h, getD_over p i (by omega), tornByte_zero]

theorem halfTo_len (l p k) : (halfTo l p k).length = l.length := by simp [halfTo]
theorem halfTo_zero (l p) : halfTo l p 0 = l := by
  apply list_ext_getD (by simp [halfTo])
  intro i hi
  rw [halfTo_len] at hi
  simp only [halfTo]
  rw [getD_map_range _ _ _ hi]
  simp
theorem halfTo_at {l p : List UInt8} {k : Nat} (hk : k < l.length) : (halfTo l p k).getD k 0 = l.getD k 0 := by
  simp only [halfTo]
  rw [getD_map_range _ _ _ hk]
  simp
theorem halfTo_step {l p : List UInt8} {k : Nat} (hk : k < l.length) : (halfTo l p k).set k (l.getD k 0 ||| p.getD k 0) = halfTo l p (k + 1) := by
  have := range_set l.length k (fun i => if i < k then l.getD i 0 ||| p.getD i 0 else l.getD i 0) (fun i => if i < k + 1 then l.getD i 0 ||| p.getD i 0 else l.getD i 0) hk (by
    intro i hi
    by_cases h : i < k
    · rw [if_pos h, if_pos (by omega)]
    · rw [if_neg h, if_neg (by omega)])
  simp only [Nat.lt_succ_self, if_true] at this
  exact this
theorem halfTo_end {l p : List UInt8} {k : Nat} (hk : l.length ≤ k ∨ p.length ≤ k) : halfTo l p k = halfB l p := by
  apply list_ext_getD (by simp [halfTo, halfB])
  intro i hi
  rw [halfTo_len] at hi
  simp only [halfTo, halfB]
  rw [getD_map_range _ _ _ hi, getD_map_range _ _ _ hi]
  by_cases h : i < k
  · rw [if_pos h]
  · rw [if_neg h, getD_over p i (by omega)]; simp

theorem u8_ext {x y : UInt8} (h : ∀ i, i < 8 → x.toBitVec.getLsbD i = y.toBitVec.getLsbD i) : x = y :=
  UInt8.toBitVec_inj.1 (BitVec.eq_of_getLsbD_eq fun i hi => h i hi)
theorem u8_at {x y : UInt8} (h : x = y) (i : Nat) : x.toBitVec.getLsbD i = y.toBitVec.getLsbD i := by rw [h]
theorem tz_and (x y : UInt8) : x &&& ~~~y = 0 ↔ x ||| y = y := by
  constructor
  · intro h
    apply u8_ext
    intro i hi
    have := u8_at h i
    simp [hi] at this
    simp
    cases hx : (x.toBitVec).getLsbD i <;> cases hy : (y.toBitVec).getLsbD i <;> simp_all
  · intro h
    apply u8_ext
    intro i hi
    have := u8_at h i
    simp at this
    simp [hi]
    cases hx : (x.toBitVec).getLsbD i <;> cases hy : (y.toBitVec).getLsbD i <;> simp_all
theorem canB_refl (l : List UInt8) : canB l l = true := canB_true rfl fun i _ => by simp
theorem canB_anti {l m : List UInt8} (h1 : canB l m = true) (h2 : canB m l = true) : l = m := by
  have k1 := canB_iff.1 h1
  have k2 := canB_iff.1 h2
  apply list_ext_getD k1.1
  intro i hi
  have a1 := (tz_and _ _).1 (k1.2 i hi)
  have a2 := (tz_and _ _).1 (k2.2 i (by omega))
  rw [← a1, UInt8.or_comm]
  exact a2
theorem canB_trans {l m n : List UInt8} (h1 : canB l m = true) (h2 : canB m n = true) : canB l n = true := by
  have k1 := canB_iff.1 h1
  have k2 := canB_iff.1 h2
  refine canB_true (k1.1.trans k2.1) fun i hi => ?_
  have a1 := (tz_and _ _).1 (k1.2 i hi)
  have a2 := (tz_and _ _).1 (k2.2 i (by omega))
  rw [tz_and, ← a1, ← UInt8.or_assoc, a2]

/-- what the frame tells of a slice of bytes that came in -/
def IsRow (k : IntKind) (w : World) (a : Option Addr) (len cap : Nat) (zs : List Int) : Prop :=
  (a = none ∧ len = 0 ∧ cap = 0 ∧ zs = []) ∨
  ∃ x, a = some x ∧ len ≤ cap ∧ cap ≤ maxLen ∧ zs.length = cap ∧ (∀ i, i < zs.length → w.cell? (x.add i) = some (.int k (zs.getD i 0))) ∧ ∀ n ∈ zs, (Lit.int k n).wf = true

theorem isRow_bs {w : World} {a : Option Addr} {len cap : Nat} {zs : List Int} (h : IsRow .u8 w a len cap zs) : ∃ l : List UInt8, l.length = len ∧ Bs w a l := by
  rcases h with ⟨rfl, rfl, rfl, rfl⟩ | ⟨x, rfl, hl, hm, hz, hcell, hwz⟩
  · exact ⟨[], rfl, Bs.nil_ _ _⟩
  · refine ⟨(zs.take len).map fun n => UInt8.ofNat n.toNat, by simp; omega, fun h0 => ?_⟩
    have hlen : 0 < len := by simp at h0; omega
    obtain ⟨b, off, spot⟩ := x
    have hc := hcell 0 (by omega)
    have hspot : spot = none := by simpa [Addr.add] using World.cell?_spot hc
    subst hspot
    refine ⟨b, off, rfl, fun j hj => ?_⟩
    have hj' : j < len := by simp at hj; omega
    have hadd : (⟨b, off, none⟩ : Addr).add j = ⟨b, off + j, none⟩ := by unfold Addr.add; split <;> simp_all
    have := hcell j (by omega)
    rw [hadd] at this
    rw [this]
    have hjz : j < zs.length := by omega
    have hw := hwz zs[j] (List.getElem_mem hjz)
    have hbd : 0 ≤ zs[j] ∧ zs[j] ≤ 255 := by simpa [Lit.wf, IntKind.min, IntKind.max, IntKind.signed, IntKind.bits] using hw
    have e1 : zs.getD j 0 = zs[j] := by simp [List.getD, List.getElem?_eq_getElem hjz]
    have e2 : ((zs.take len).map fun n => UInt8.ofNat n.toNat).getD j 0 = UInt8.ofNat zs[j].toNat := by
      simp [List.getD, hj', List.getElem?_eq_getElem hjz]
    rw [e1, e2]
    have e3 : (UInt8.ofNat zs[j].toNat).toNat = zs[j].toNat := by
      rw [UInt8.toNat_ofNat']
      omega
    rw [e3]
    congr 2
    omega
end Go.Proofs.Ytlnpfndjdilfhaa
