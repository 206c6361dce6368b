/- The reference's flash in memory: its plain state, the block of its struct, the rows of its bytes and of its counts. The contract of the reference's set: bytes laid at a place. The contract of the reference's Read. The contracts of the reference's Arm, Boot, Spoil, Erases. The contract of the reference's Erase. The contract of the reference's NewFlash. -/
import Derived.Test.YtbkcglfdliicpaaGbase
import Derived.Test.YtbkcglfdliicpaaGref
import Derived.Deep.RegionHeld3
import Derived.IntWalk
import Derived.Deep.RegionLaw
namespace Go.Proofs.Ytbkcglfdliicpaa
open Go.RowKit
set_option linter.unusedVariables false
set_option maxRecDepth 100000

/-- the state of a flash -/
structure Fl where
  b : List UInt8
  worn : List Int
  steps : Int
  left : Int
  pick : List UInt8
  dark : Bool

/-- the slice of counts -/
def Wb (w : World) (g c : Nat) (l : List Int) : Prop := w.ownsRow 0 3 1 (.slice (some ⟨g, 0, none⟩) l.length c) l.length (l.map (Value.int .i64))

/-- the blocks that a call on it may turn -/
def FlF (g gB gW : Nat) (k : Nat) : Prop := k = g ∨ k = gB ∨ k = gW

theorem Ob.heap {E : TypeId} {w : World} {base g n c : Nat} {l : List UInt8} (h : Ob E w base (.slice (some ⟨g, 0, none⟩) n c) l) : ∃ cur, w.heap[g]? = some (.cells cur E (0, 0)) := by
  rcases h.2 with ⟨h', _⟩ | ⟨g', cap, cur, e, _, hg, _⟩
  · simp at h'
  · injection e with e1 e2 e3
    injection e1 with e1
    injection e1 with e1
    subst e1
    exact ⟨cur, hg⟩
theorem Wb.heap {w : World} {g c : Nat} {l : List Int} (h : Wb w g c l) : ∃ cur, w.heap[g]? = some (.cells cur 3 (0, 0)) := by
  rcases h.2 with ⟨h', _⟩ | ⟨g', cap, cur, e, _, hg, _⟩
  · simp at h'
  · injection e with e1 e2 e3
    injection e1 with e1
    injection e1 with e1
    subst e1
    exact ⟨cur, hg⟩
theorem Wb.only {F : Nat → Prop} {w w' : World} {g c : Nat} {l : List Int} (h : Wb w g c l) (hb : Only F w w') (hA : ¬ F g) : Wb w' g c l := by
  refine ⟨h.1, ?_⟩
  rcases h.2 with hn | ⟨g', cap, cur, e, hb', hg, rest⟩
  · exact .inl hn
  · refine .inr ⟨g', cap, cur, e, hb', ?_, rest⟩
    injection e with e1 e2 e3
    injection e1 with e1
    injection e1 with e1
    subst e1
    rw [hb.block g (Array.getElem?_eq_some_iff.1 hg).1 hA]
    exact hg
theorem types_ne {w : World} {g g' : Nat} {t t' : TypeId} {cs cs' : Array Value} (h : w.heap[g]? = some (.cells cs t (0, 0))) (h' : w.heap[g']? = some (.cells cs' t' (0, 0))) (hne : t ≠ t') : g ≠ g' := by
  rintro rfl
  rw [h] at h'
  injection h' with h'
  injection h' with _ ht
  exact hne ht

/-- a step: was it the broken one? -/
def stepOf (fl : Fl) : Bool × Fl :=
  if fl.left < 0 then (false, ⟨fl.b, fl.worn, fl.steps + 1, fl.left, fl.pick, fl.dark⟩)
  else if fl.left - 1 < 0 then (true, ⟨fl.b, fl.worn, fl.steps + 1, fl.left - 1, fl.pick, true⟩)
  else (fl.dark, ⟨fl.b, fl.worn, fl.steps + 1, fl.left - 1, fl.pick, fl.dark⟩)

end Go.Proofs.Ytbkcglfdliicpaa

namespace Go.Proofs.Ytbkcglfdliicpaa
open Go.RowKit
set_option linter.unusedVariables false
set_option maxRecDepth 100000

/-- l, with the first k bytes of s laid at a -/
def laidTo (l : List UInt8) (a : Nat) (s : List UInt8) (k : Nat) : List UInt8 := (List.range l.length).map fun i => if a ≤ i ∧ i < a + k then s.getD (i - a) 0 else l.getD i 0
def laid (l : List UInt8) (a : Nat) (s : List UInt8) : List UInt8 := laidTo l a s s.length
theorem laidTo_len (l a s k) : (laidTo l a s k).length = l.length := by simp [laidTo]
theorem laid_len (l a s) : (laid l a s).length = l.length := laidTo_len _ _ _ _
theorem laidTo_get {l : List UInt8} {a : Nat} {s : List UInt8} {k i : Nat} (h : i < l.length) : (laidTo l a s k).getD i 0 = if a ≤ i ∧ i < a + k then s.getD (i - a) 0 else l.getD i 0 := by
  simp only [laidTo]
  rw [getD_map_range _ _ _ h]
theorem laidTo_zero (l a s) : laidTo l a s 0 = l := by
  apply list_ext_getD (laidTo_len _ _ _ _)
  intro i hi
  rw [laidTo_len] at hi
  rw [laidTo_get hi, if_neg (by omega)]
theorem laidTo_step {l : List UInt8} {a : Nat} {s : List UInt8} {k : Nat} (hk : a + k < l.length) : (laidTo l a s k).set (a + k) (s.getD k 0) = laidTo l a s (k + 1) := by
  have := range_set l.length (a + k) (fun i => if a ≤ i ∧ i < a + k then s.getD (i - a) 0 else l.getD i 0) (fun i => if a ≤ i ∧ i < a + (k + 1) then s.getD (i - a) 0 else l.getD i 0) hk (by
    intro i hi
    by_cases h : a ≤ i ∧ i < a + k
    · rw [if_pos h, if_pos (by omega)]
    · rw [if_neg h, if_neg (by omega)])
  have e : a ≤ a + k ∧ a + k < a + (k + 1) := by omega
  have e2 : a + k - a = k := by omega
  simp only [e, and_self, if_true, e2] at this
  exact this

def withB (fl : Fl) (b : List UInt8) : Fl := ⟨b, fl.worn, fl.steps, fl.left, fl.pick, fl.dark⟩

end Go.Proofs.Ytbkcglfdliicpaa

namespace Go.Proofs.Ytbkcglfdliicpaa
open Go.RowKit
set_option linter.unusedVariables false
set_option maxRecDepth 100000

/-- n bytes from a on -/
def cut (l : List UInt8) (a n : Nat) : List UInt8 := (l.drop a).take n
theorem cut_len {l : List UInt8} {a n : Nat} (h : a + n ≤ l.length) : (cut l a n).length = n := by simp [cut]; omega
theorem cut_get {l : List UInt8} {a n i : Nat} (h : i < n) : (cut l a n).getD i 0 = l.getD (a + i) 0 := by
  simp [cut, List.getD, h, List.getElem?_drop]
theorem Bs.cut {w : World} {g : Nat} {l : List UInt8} (h : Bs w (some ⟨g, 0, none⟩) l) {a n : Nat} (hf : a + n ≤ l.length) : Bs w (some ⟨g, a, none⟩) (cut l a n) := fun hl => by
  rw [cut_len hf] at hl
  obtain ⟨b, o, e, hc⟩ := h (by omega)
  injection e with e
  injection e with e1 e2
  subst e1
  subst e2
  refine ⟨g, a, rfl, fun j hj => ?_⟩
  rw [cut_len hf] at hj
  rw [cut_get hj]
  have := hc (a + j) (by omega)
  rwa [Nat.zero_add] at this

def readOf (fl : Fl) (a n : Int) : List UInt8 × Int :=
  if fl.dark then ([], 5) else if 0 ≤ a ∧ 0 ≤ n ∧ a + n ≤ fl.b.length then (cut fl.b a.toNat n.toNat, 0) else ([], 2)

def ReadPost (w : World) (r : List UInt8 × Int) (e : Ending) (w' : World) : Prop :=
  ∃ v, e = .returned (.tuple #[v, .int .i64 r.2]) ∧ Ob 5 w' w.heap.size v r.1 ∧ Below w.heap.size w w'

end Go.Proofs.Ytbkcglfdliicpaa

namespace Go.Proofs.Ytbkcglfdliicpaa
open Go.RowKit
set_option linter.unusedVariables false
set_option maxRecDepth 100000

/-- how often a sector was erased -/
def wornAt (l : List Int) (s : Int) : Int := if 0 ≤ s ∧ s < l.length then l.getD s.toNat 0 else 0

theorem Wb.at_ {w : World} {g c : Nat} {l : List Int} (h : Wb w g c l) {k : Nat} (hk : k < l.length) : w.cell? ⟨g, k, none⟩ = some (.int .i64 (l.getD k 0)) := by
  have := World.ownsRow.cellAt h k (by omega)
  rw [this, List.getElem?_map, List.getElem?_eq_getElem hk]
  simp [List.getD, List.getElem?_eq_getElem hk]

end Go.Proofs.Ytbkcglfdliicpaa

namespace Go.Proofs.Ytbkcglfdliicpaa
open Go.RowKit
set_option linter.unusedVariables false
set_option maxRecDepth 100000

def withW (fl : Fl) (l : List Int) : Fl := ⟨fl.b, l, fl.steps, fl.left, fl.pick, fl.dark⟩

theorem Wb.set_ {w : World} {g c : Nat} {l : List Int} (h : Wb w g c l) (k : Nat) (x : Int) : Wb (w.setCell ⟨g, k, none⟩ (.int .i64 x)) g c (l.set k x) := by
  have := (World.ownsRow.stored h k (.int .i64 x)).1
  unfold Wb
  rw [List.map_set, List.length_set]
  exact this
theorem Wb.frozen {w : World} {g c : Nat} {l : List Int} (h : Wb w g c l) (k : Nat) : w.frozen? ⟨g, k, none⟩ = false := World.ownsRow.frozenAt h k

/-- Erase, of a sector that there is, with power on -/
def eraseIn (fl : Fl) (x : Nat) : Int × Fl :=
  match stepOf (withW fl (fl.worn.set x (fl.worn.getD x 0 + 1))) with
  | (true, f) => (5, ⟨laid f.b (1024 * x) (halfB (cut f.b (1024 * x) 1024) f.pick), f.worn, f.steps, f.left, [], f.dark⟩)
  | (false, f) => (0, withB f (laid f.b (1024 * x) (List.replicate 1024 255)))
def eraseOf (fl : Fl) (s : Int) : Int × Fl :=
  if fl.dark then (5, fl) else if 0 ≤ s ∧ s < fl.worn.length then eraseIn fl s.toNat else (2, fl)

/-- what is asked of a flash's numbers -/
structure FlOk (fl : Fl) : Prop where
  len : fl.b.length = 1024 * fl.worn.length
  few : fl.worn.length ≤ 65536
  worn : ∀ x ∈ fl.worn, 0 ≤ x ∧ x ≤ 4611686018427387904
  s0 : 0 ≤ fl.steps
  s1 : fl.steps ≤ 4611686018427387904
  l0 : -1 ≤ fl.left
  l1 : fl.left ≤ 4611686018427387904
  p : fl.pick.length ≤ 2147483648

theorem Only.toF {w w' : World} {g gB gW : Nat} {F : Nat → Prop} (h : Only F w w') (hF : ∀ k, F k → k = g ∨ k = gB ∨ k = gW) : Only (FlF g gB gW) w w' := h.mono fun k _ hk => hF k hk

theorem Ob.fresh {E : TypeId} {w : World} {base : Nat} {A : Option Addr} {n c : Nat} {l : List UInt8} (h : Ob E w base (.slice A n c) l) : ∀ k, At A k → base ≤ k := by
  obtain ⟨A', c', e, _, hf⟩ := h.form
  injection e with e1 e2 e3
  subst e1
  rintro k ⟨a, rfl, rfl⟩
  rcases hf with hf | ⟨g', hf, hle, _⟩
  · cases hf
  · injection hf with hf; subst hf; exact hle

/-- a part of a row of bytes -/
theorem slice_at (u : World) (g o y z n c : Nat) (hyz : y ≤ z) (hzc : z ≤ c) (hne : ¬ c = y) :
    (Instr.slice 22 (.slice (some ⟨g, o, none⟩) n c) (some (.int .i64 (y : Int))) (some (.int .i64 (z : Int))) none).run Try.prog u = .ok (.slice (some ⟨g, o + y, none⟩) (z - y) (c - y)) u := by
  have ht : Try.prog.underlying 22 = some (.slice (Try.prog.elem 22)) := by kernel_rfl
  have hs : ∀ W : World, (sizeOf (Try.prog.elem 22)).run Try.prog W = .ok 1 W := fun W => by kernel_rfl
  rw [run_slice_lh u _ _ _ _ ht _ _ _ _ (by omega) (by omega) (by omega), hs]
  simp only [Result.andThen, sliced, Int.toNat_natCast, if_neg hne, Option.map_some, Nat.mul_one]
  rw [addr_add]

theorem stepOf_b (f : Fl) : (stepOf f).2.b = f.b ∧ (stepOf f).2.worn = f.worn ∧ (stepOf f).2.pick = f.pick := by
  unfold stepOf
  split
  · exact ⟨rfl, rfl, rfl⟩
  · split <;> exact ⟨rfl, rfl, rfl⟩
end Go.Proofs.Ytbkcglfdliicpaa

namespace Go.Proofs.Ytbkcglfdliicpaa
open Go.RowKit
set_option linter.unusedVariables false
set_option maxRecDepth 100000

theorem info3 : (Try.prog.info? 3).map (fun i => (i.zero, i.size, i.bytes)) = some (some (.int .i64 0), 1, 8) := by kernel_rfl
theorem make_ints (k : Nat) (hk : k ≤ 2147483648) (u : World) : (Instr.makeSlice 28 (.int .i64 (k : Int)) (.int .i64 (k : Int))).run Try.prog u =
      .ok (.slice (some ⟨u.heap.size, 0, none⟩) k k) (u.alloc (.cells (madeCells #[.int .i64 0] k) 3)) := by
  obtain ⟨i0, hi, hz0, hz1, hz2⟩ := info_parts info3
  have h := run_make (P := Try.prog) u 28 3 i0 (.int .i64 0) Try.underlying28 hi hz0 .i64 .i64 (k : Int) (k : Int) (by omega) (Int.le_refl _) (by rw [hz2]; omega) (by omega)
  simpa [hz1, Value.cells] using h
theorem ints_made (w : World) (k : Nat) (hk : k ≤ 2147483648) : Wb (w.alloc (.cells (madeCells #[.int .i64 0] k) 3)) w.heap.size k (List.replicate k 0) := by
  have h := World.ownsRow_lit (base := 0) (e := 3) (size := 1) w (madeCells #[.int .i64 0] k) k (Nat.zero_le _) (by unfold maxLen; omega) (by simp [size_madeCells])
  unfold Wb
  rw [toList_madeCells_one] at h
  simpa [List.map_replicate] using h

theorem Ob.ne {E : TypeId} {w : World} {base n c g : Nat} {A : Option Addr} {l : List UInt8} {cs : Array Value} {ty : TypeId} (h : Ob E w base (.slice A n c) l) (hg : w.heap[g]? = some (.cells cs ty (0, 0))) (hne : E ≠ ty) : ∀ k, At A k → k ≠ g := by
  rintro k ⟨a, rfl, rfl⟩
  obtain ⟨A', c', e, -, hf⟩ := h.form
  injection e with e1 e2 e3
  subst e1
  rcases hf with hf | ⟨g', hf, -⟩
  · cases hf
  · injection hf with hf
    subst hf
    obtain ⟨cur, hcur⟩ := h.heap
    exact types_ne hcur hg hne
theorem own_at {A : Option Addr} {n c k : Nat} (h : (Value.slice A n c).ownBlock = some k) : At A k := by
  rcases A with _ | a
  · simp [Value.ownBlock] at h
  · simp [Value.ownBlock] at h
    exact ⟨a, rfl, h⟩

/-- k blank sectors -/
def blanks (k : Nat) : List UInt8 := List.replicate (1024 * k) 255
theorem blanks_len (k : Nat) : (blanks k).length = 1024 * k := by simp [blanks]
theorem blanks_succ (k : Nat) : blanks k ++ List.replicate 1024 255 = blanks (k + 1) := by
  unfold blanks
  rw [List.replicate_append_replicate, Nat.mul_succ]

end Go.Proofs.Ytbkcglfdliicpaa

