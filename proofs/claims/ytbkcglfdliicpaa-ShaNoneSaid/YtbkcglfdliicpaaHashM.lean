/- A Hash of the developers in memory. -/
import Derived.Test.YtbkcglfdliicpaaLaw8Spec
import Derived.Test.YtbkcglfdliicpaaHashA
import Derived.Deep.MidRow
namespace Go.Proofs.Ytbkcglfdliicpaa
open Go.RowKit
set_option linter.unusedVariables false
set_option maxRecDepth 100000

/-- what a chain of stores to neighbours leaves -/
theorem setCells_row {P : Program} {w : World} {g o : Nat} {t : TypeId} {cur : Array Value} {vs : List Value} (hg : w.heap[g]? = some (.cells cur t (0, 0))) (hl : o + vs.length ≤ cur.size) (h1 : ∀ v ∈ vs, v.oneCell' = true) :
    w.setCells g o vs = w.setRow g (cur.toList.take o ++ vs ++ cur.toList.drop (o + vs.length)).toArray := by
  have a := run_storeCells_at P g o t vs 0 cur w hg (by simpa using hl) h1
  have b := run_storeCells_cells (P := P) g o vs 0 w (fun j hj => by
      rw [cell_of_row _ _ _ _ _ _ hg]; simp; omega) (fun j hj => by simp [World.frozen?, hg]) h1
  rw [a] at b
  simp only [Nat.add_zero] at b
  injection b with _ b
  exact b.symm

/-- the cells of a Hash -/
def hcells (b : Bool) (s : List W64) (n : Nat) (k : List UInt8) : List Value := .bool b :: (s.map wv ++ (.int .u64 (n : Int) :: k.map bval))
theorem hcells_len (b : Bool) {s : List W64} (n : Nat) {k : List UInt8} (hs : s.length = 8) (hk : k.length = 128) : (hcells b s n k).length = 138 := by
  simp [hcells, hs, hk]
theorem hcells_one (b : Bool) (s : List W64) (n : Nat) (k : List UInt8) : ∀ v ∈ hcells b s n k, v.oneCell' = true := by
  intro v hv
  simp only [hcells, List.mem_cons, List.mem_append, List.mem_map] at hv
  rcases hv with rfl | ⟨x, _, rfl⟩ | rfl | ⟨x, _, rfl⟩ <;> rfl
theorem hcells_s (b : Bool) {s : List W64} (n : Nat) {k : List UInt8} (hs : s.length = 8) (j : Nat) (hj : j < 8) : (hcells b s n k)[1 + j]? = (s.map wv)[j]? := by
  rw [hcells, Nat.add_comm 1 j, List.getElem?_cons_succ, List.getElem?_append_left (by simp; omega)]
theorem hcells_n (b : Bool) {s : List W64} (n : Nat) {k : List UInt8} (hs : s.length = 8) : (hcells b s n k)[9]? = some (.int .u64 (n : Int)) := by
  rw [hcells, List.getElem?_cons_succ, List.getElem?_append_right (by simp; omega)]
  simp [hs]
theorem hcells_k (b : Bool) {s : List W64} (n : Nat) {k : List UInt8} (hs : s.length = 8) (j : Nat) : (hcells b s n k)[10 + j]? = (k.map bval)[j]? := by
  rw [hcells, show 10 + j = (9 + j) + 1 by omega, List.getElem?_cons_succ, List.getElem?_append_right (by simp; omega)]
  rw [show 9 + j - (s.map wv).length = j + 1 by simp; omega, List.getElem?_cons_succ]
theorem hcells_setS (b : Bool) {s s' : List W64} (n : Nat) {k : List UInt8} (hs : s.length = 8) (hs' : s'.length = 8) : (hcells b s n k).take 1 ++ s'.map wv ++ (hcells b s n k).drop (1 + (s'.map wv).length) = hcells b s' n k := by
  have e : (s'.map wv).length = 8 := by simp [hs']
  rw [e]
  unfold hcells
  rw [show 1 + 8 = 8 + 1 from rfl, List.drop_succ_cons, List.take_succ_cons, List.take_zero, List.drop_append_of_le_length (by simp; omega), List.drop_eq_nil_of_le (by simp; omega)]
  simp
theorem hcells_setN (b : Bool) {s : List W64} (n n' : Nat) {k : List UInt8} (hs : s.length = 8) : (hcells b s n k).set 9 (.int .u64 (n' : Int)) = hcells b s n' k := by
  unfold hcells
  rw [List.set_cons_succ, List.set_append, if_neg (by simp; omega), show 8 - (s.map wv).length = 0 by simp; omega, List.set_cons_zero]
theorem hcells_setK (b : Bool) {s : List W64} (n : Nat) {k : List UInt8} (hs : s.length = 8) (r : Nat) (x : List UInt8) : (hcells b s n k).take (10 + r) ++ x.map bval ++ (hcells b s n k).drop (10 + r + (x.map bval).length) = hcells b s n (k.take r ++ x ++ k.drop (r + x.length)) := by
  have e : (x.map bval).length = x.length := by simp
  rw [e]
  have hh : ∀ y : List UInt8, hcells b s n y = (Value.bool b :: (s.map wv ++ [Value.int .u64 (n : Int)])) ++ y.map bval := fun y => by simp [hcells]
  have hl : (Value.bool b :: (s.map wv ++ [Value.int .u64 (n : Int)])).length = 10 := by simp [hs]
  rw [hh, hh]
  generalize (Value.bool b :: (s.map wv ++ [Value.int .u64 (n : Int)])) = p at *
  rw [List.take_append, List.take_of_length_le (by omega), hl, show 10 + r - 10 = r by omega, List.drop_append, List.drop_eq_nil_of_le (by omega), hl, show 10 + r + x.length - 10 = r + x.length by omega]
  simp [List.map_take, List.map_drop]

/-- at block g lies a Hash -/
structure HA (W : World) (g : Nat) (b : Bool) (s : St) (n : Nat) (k : List UInt8) : Prop where
  row : W.heap[g]? = some (.cells (hcells b s.l n k).toArray 52 (0, 0))
  len : k.length = 128
section
variable {W W' : World} {g n : Nat} {b : Bool} {s : St} {k : List UInt8}
theorem HA.lt (h : HA W g b s n k) : g < W.heap.size := (Array.getElem?_eq_some_iff.1 h.row).1
theorem HA.only {Q : Nat → Prop} (h : HA W g b s n k) (ho : Only Q W W') (hq : ¬ Q g) : HA W' g b s n k := ⟨by rw [ho.block g h.lt hq]; exact h.row, h.len⟩
theorem HA.below {B : Nat} (h : HA W g b s n k) (hb : Below B W W') (hB : g < B) : HA W' g b s n k := ⟨by rw [hb.block g hB]; exact h.row, h.len⟩
theorem HA.next (h : HA W g b s n k) (hb : Below W.heap.size W W') : HA W' g b s n k := h.below hb h.lt
theorem HA.drew (h : HA W g b s n k) : HA W.drew g b s n k := ⟨h.row, h.len⟩
theorem HA.drewN (h : HA W g b s n k) (i : Nat) : HA (W.drewN i) g b s n k := ⟨h.row, h.len⟩
theorem HA.alloc (h : HA W g b s n k) (o : Obj) : HA (W.alloc o) g b s n k := ⟨by rw [heap_alloc_old _ _ h.lt]; exact h.row, h.len⟩
theorem HA.at_ (h : HA W g b s n k) (j : Nat) : W.cell? ⟨g, j, none⟩ = (hcells b s.l n k)[j]? := by
  rw [cell_of_row _ _ _ _ _ _ h.row]; simp
theorem HA.cb (h : HA W g b s n k) : W.cell? ⟨g, 0, none⟩ = some (.bool b) := by rw [h.at_]; rfl
theorem HA.cn (h : HA W g b s n k) : W.cell? ⟨g, 9, none⟩ = some (.int .u64 (n : Int)) := by rw [h.at_, hcells_n _ _ (St.len s)]
theorem HA.fz (h : HA W g b s n k) (j : Nat) : W.frozen? ⟨g, j, none⟩ = false := by simp [World.frozen?, h.row]
theorem HA.cs (h : HA W g b s n k) : W.rangeAt g 1 (s.l.map wv) := fun j v hj => by
  have hj8 : j < 8 := by have := (List.getElem?_eq_some_iff.1 hj).1; simpa [St.len] using this
  rw [h.at_, hcells_s _ _ (St.len s) _ hj8, hj]
theorem HA.bs (h : HA W g b s n k) : Bs W (some ⟨g, 10, none⟩) k := fun hl => ⟨g, 10, rfl, fun j hj => by
  rw [h.at_, hcells_k _ _ (St.len s), List.getElem?_map, List.getElem?_eq_getElem hj]
  simp [bval, List.getD, List.getElem?_eq_getElem hj]⟩
theorem HA.all (h : HA W g b s n k) : W.rangeAt g 0 (hcells b s.l n k) := fun j v hj => by
  rw [Nat.zero_add, h.at_, hj]
/-- the count is set -/
theorem HA.setN (h : HA W g b s n k) (n' : Nat) : HA (W.setCell ⟨g, 9, none⟩ (.int .u64 (n' : Int))) g b s n' k ∧ Only (fun j => j = g) W (W.setCell ⟨g, 9, none⟩ (.int .u64 (n' : Int))) := by
  refine ⟨⟨?_, h.len⟩, (Only.refl (fun j => j = g) W).setCell (p := ⟨g, 9, none⟩) (.inl rfl) _⟩
  rw [setCell_eq_setRow W g 9 _ _ _ _ h.row, setRow_heap _ _ _ _ _ _ h.row]
  simp [← hcells_setN b n n' (St.len s)]
theorem only_setRow {g : Nat} {cs : Array Value} : Only (fun j => j = g) W (W.setRow g cs) := ⟨rfl, rfl, rfl, by simp, fun j hj hn => setRow_other _ _ _ _ hn⟩
/-- the state is set -/
theorem HA.setS (h : HA W g b s n k) (s' : St) : HA (W.setCells g 1 (tabW s'.l).toList) g b s' n k ∧ Only (fun j => j = g) W (W.setCells g 1 (tabW s'.l).toList) := by
  have e : (tabW s'.l).toList = s'.l.map wv := by simp [tabW]
  have hl := hcells_len b (s := s.l) n (St.len s) h.len
  rw [e, setCells_row (P := Try.prog) h.row (by simp [hl, St.len]) (fun v hv => by obtain ⟨x, _, rfl⟩ := List.mem_map.1 hv; rfl)]
  refine ⟨⟨?_, h.len⟩, only_setRow⟩
  rw [setRow_heap _ _ _ _ _ _ h.row]
  simp only
  rw [hcells_setS b n (St.len s) (St.len s')]
/-- bytes are set -/
theorem HA.setK (h : HA W g b s n k) (r : Nat) (x : List UInt8) (hr : r + x.length ≤ 128) :
    HA (W.setRow g ((hcells b s.l n k).take (10 + r) ++ x.map bval ++ (hcells b s.l n k).drop (10 + r + (x.map bval).length)).toArray) g b s n (k.take r ++ x ++ k.drop (r + x.length)) := by
  have hk := h.len
  refine ⟨?_, by simp; omega⟩
  rw [setRow_heap _ _ _ _ _ _ h.row, hcells_setK b n (St.len s)]
/-- a whole Hash is set -/
theorem HA.setAll (h : HA W g b s n k) (b' : Bool) (s' : St) (n' : Nat) (k' : List UInt8) (hk : k'.length = 128) : HA (W.setRow g (hcells b' s'.l n' k').toArray) g b' s' n' k' :=
  ⟨setRow_heap _ _ _ _ _ _ h.row, hk⟩
end

/-- a Hash that is begun, in state h -/
def HS (W : World) (g : Nat) (h : Sh) : Prop := h.ok ∧ ∃ k, HA W g true h.s h.n k ∧ k.take (h.n % 128) = h.t
theorem HS.lt {W : World} {g : Nat} {h : Sh} (hs : HS W g h) : g < W.heap.size := by obtain ⟨_, k, ha, _⟩ := hs; exact ha.lt
theorem HS.only {W W' : World} {g : Nat} {h : Sh} {Q : Nat → Prop} (hs : HS W g h) (ho : Only Q W W') (hq : ¬ Q g) : HS W' g h := by
  obtain ⟨hk, k, ha, ht⟩ := hs; exact ⟨hk, k, ha.only ho hq, ht⟩
theorem HS.next {W W' : World} {g : Nat} {h : Sh} (hs : HS W g h) (hb : Below W.heap.size W W') : HS W' g h := by
  obtain ⟨hk, k, ha, ht⟩ := hs; exact ⟨hk, k, ha.next hb, ht⟩
/-- a Hash, whatever -/
def HashH : HashP := fun W g h F => (∀ j, F j ↔ j = g) ∧ (HS W g h ∨ ∃ s k, HA W g false s 0 k ∧ h = Sh.nil)
theorem HashH.ok {W : World} {g : Nat} {h : Sh} {F : Nat → Prop} (hh : HashH W g h F) : h.ok := by
  rcases hh.2 with hs | ⟨s, k, _, rfl⟩
  · exact hs.1
  · exact Sh.nil_ok
theorem HashH.lt {W : World} {g : Nat} {h : Sh} {F : Nat → Prop} (hh : HashH W g h F) : ∀ j, F j → j < W.heap.size := fun j hj => by
  have e := (hh.1 j).1 hj
  subst e
  rcases hh.2 with hs | ⟨s, k, ha, rfl⟩
  · exact hs.lt
  · exact ha.lt
theorem HashH.keep {W W' : World} {g : Nat} {h : Sh} {F : Nat → Prop} (Q : Nat → Prop) (hh : HashH W g h F) (ho : Only Q W W') (hq : ∀ j, F j → ¬ Q j) : HashH W' g h F := by
  refine ⟨hh.1, ?_⟩
  have hg : ¬ Q g := hq g ((hh.1 g).2 rfl)
  rcases hh.2 with hs | ⟨s, k, ha, e⟩
  · exact .inl (hs.only ho hg)
  · exact .inr ⟨s, k, ha.only ho hg, e⟩
theorem HS.hash {W : World} {g : Nat} {h : Sh} (hs : HS W g h) : HashH W g h (fun j => j = g) := ⟨fun j => Iff.rfl, .inl hs⟩

/-! What hold does to the block. -/
def heldN (n : Nat) (l : List UInt8) : Nat := Nat.min l.length (128 - n % 128)
def heldK (n : Nat) (k l : List UInt8) : List UInt8 := k.take (n % 128) ++ l.take (heldN n l) ++ k.drop (n % 128 + heldN n l)
theorem heldK_len {n : Nat} {k : List UInt8} (l : List UInt8) (hk : k.length = 128) : (heldK n k l).length = 128 := by
  have : heldN n l ≤ 128 - n % 128 := Nat.min_le_right _ _
  have : heldN n l ≤ l.length := Nat.min_le_left _ _
  simp [heldK]; omega
/-- no block is filled -/
theorem hold_short {h : Sh} {k : List UInt8} (l : List UInt8) (ho : h.ok) (hk : k.length = 128) (ht : k.take (h.n % 128) = h.t) (hl : h.n % 128 + l.length < 128) :
    heldN h.n l = l.length ∧ (h.add l).s = h.s ∧ (h.add l).n = h.n + l.length ∧ (heldK h.n k l).take ((h.n + l.length) % 128) = (h.add l).t := by
  have hm : heldN h.n l = l.length := Nat.min_eq_left (by omega)
  unfold Sh.ok at ho
  have e : (h.t ++ l).length < 128 := by rw [List.length_append]; omega
  refine ⟨hm, over_short _ _ e, rfl, ?_⟩
  show _ = restL (h.t ++ l)
  rw [restL_short _ e]
  unfold heldK
  rw [hm, ht, List.take_of_length_le (Nat.le_refl l.length), show (h.n + l.length) % 128 = h.n % 128 + l.length by omega]
  apply List.take_left'
  rw [List.length_append, ho]
/-- a block is filled -/
theorem hold_full {h : Sh} {k : List UInt8} (l : List UInt8) (ho : h.ok) (hk : k.length = 128) (ht : k.take (h.n % 128) = h.t) (hl : 128 ≤ h.n % 128 + l.length) :
    heldN h.n l = 128 - h.n % 128 ∧ heldK h.n k l = h.t ++ l.take (128 - h.n % 128) ∧
      h.add (l.take (128 - h.n % 128)) = ⟨stepW ksL h.s (wordsL (h.t ++ l.take (128 - h.n % 128))), h.n + (128 - h.n % 128), []⟩ := by
  have hm : heldN h.n l = 128 - h.n % 128 := Nat.min_eq_right (by omega)
  unfold Sh.ok at ho
  have hl1 : (l.take (128 - h.n % 128)).length = 128 - h.n % 128 := by rw [List.length_take]; omega
  have e : (h.t ++ l.take (128 - h.n % 128)).length = 128 := by rw [List.length_append, ho, hl1]; omega
  refine ⟨hm, ?_, ?_⟩
  · unfold heldK
    rw [hm, ht, List.drop_eq_nil_of_le (by omega), List.append_nil]
  · unfold Sh.add
    rw [hl1]
    congr 1
    · unfold over
      rw [e]
      show stepW ksL h.s (wordsL (blockAt _ 0)) = _
      unfold blockAt
      rw [List.drop_zero, List.take_of_length_le (by omega)]
    · apply List.eq_nil_of_length_eq_zero
      rw [restL_len, e]
theorem add_split (h : Sh) (l : List UInt8) (m : Nat) : (h.add (l.take m)).add (l.drop m) = h.add l := by
  rw [Sh.add_add, List.take_append_drop]
end Go.Proofs.Ytbkcglfdliicpaa

