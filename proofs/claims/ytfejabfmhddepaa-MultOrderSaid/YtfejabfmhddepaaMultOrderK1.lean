/-
  A part of what the proof of MultOrder rests on: plain lemmas and contracts of the functions that it calls. No conditions but what each theorem states.
-/
import Derived.Test.YtfejabfmhddepaaMultOrderK0
import Derived.WalkKit
import Derived.Deep.Draws
import Derived.Laws.BytesArg
import Derived.Laws.BitsAllLaws
import Derived.Laws.AppendOwnNone
import Derived.WalkSpells
import Derived.Lib.Hide
import Derived.Below
import Derived.Test.YtfejabfmhddepaaRows
import Derived.BigQuiet
import Derived.BigRegion
import Derived.RegionTactic
import Derived.WalkLawsBesides
import Derived.Deep.DeepCutAuto
import Derived.Deep.CutBlock
import Derived.Deep.RegionWith
import Derived.Deep.RegionHeld3
import Derived.Laws.StructEq
import Derived.BigFrame
import Derived.StillTail
import Derived.OrdersHeld
import Derived.StillTailTactics
import Derived.Laws.BitsLemmas
import Derived.Shelf.Bits.Mul64
import Derived.Shelf.Spec.BitsCarry
import Derived.Deep.QuietTactic
import Derived.OpenShut
namespace Go.Proofs.Ytfejabfmhddepaa
open Go.RowKit
set_option linter.unusedVariables false
set_option maxRecDepth 100000
def Bs (w : World) (A : Option Addr) (l : List UInt8) : Prop :=
  0 < l.length → ∃ b o, A = some ⟨b, o, none⟩ ∧ ∀ j, j < l.length → w.cell? ⟨b, o + j, none⟩ = some (.int .u8 ((l.getD j 0).toNat : Int))
theorem Bs.nil_ (w : World) (A : Option Addr) : Bs w A [] := fun h => absurd h (by simp)
theorem Bs.at_ {w : World} {A : Option Addr} {l : List UInt8} (h : Bs w A l) {k : Nat} (hk : k < l.length) :
    ∃ b o, A = some ⟨b, o, none⟩ ∧ w.cell? ⟨b, o + k, none⟩ = some (.int .u8 ((l.getD k 0).toNat : Int)) := by
  obtain ⟨b, o, e, hc⟩ := h (by omega)
  exact ⟨b, o, e, hc k hk⟩
theorem Bs.drewN {w : World} {A : Option Addr} {l : List UInt8} (h : Bs w A l) (n : Nat) : Bs (w.drewN n) A l := h
theorem Bs.below {w w' : World} {A : Option Addr} {l : List UInt8} (h : Bs w A l) (hb : Below w.heap.size w w') : Bs w' A l := fun hl => by
  obtain ⟨b, o, e, hc⟩ := h hl
  refine ⟨b, o, e, fun j hj => ?_⟩
  have hcj := hc j hj
  have hlt := World.block_lt_of_cell? w _ hcj
  rw [hb.cell hlt]
  exact hcj
theorem below_drewN' {B : Nat} {a w : World} (h : Below B a w) (n : Nat) : Below B a (w.drewN n) := ⟨h.os, h.tape, h.output, h.size, h.block⟩
def bval (x : UInt8) : Value := .int .u8 (x.toNat : Int)
def Ob (E : TypeId) (w : World) (base : Nat) (v : Value) (l : List UInt8) : Prop := w.ownsRow base E 1 v l.length (l.map bval)
theorem Ob.nil_ (E : TypeId) (w : World) (base : Nat) : Ob E w base (.slice none 0 0) [] := World.ownsRow_nil w base E 1
theorem Ob.form {E : TypeId} {w : World} {base : Nat} {v : Value} {l : List UInt8} (h : Ob E w base v l) :
    ∃ A c, v = .slice A l.length c ∧ Bs w A l ∧ (A = none ∨ ∃ g, A = some ⟨g, 0, none⟩ ∧ base ≤ g ∧ g < w.heap.size) := by
  rcases h.2 with ⟨rfl, hn⟩ | ⟨g, cap, cur, rfl, hb, hg, hnc, hcm, hcs, htake⟩
  · have : l = [] := List.eq_nil_of_length_eq_zero hn
    subst this
    exact ⟨none, 0, rfl, Bs.nil_ _ _, .inl rfl⟩
  · refine ⟨_, cap, rfl, fun hl => ⟨g, 0, rfl, fun j hj => ?_⟩, .inr ⟨g, rfl, hb, (Array.getElem?_eq_some_iff.1 hg).1⟩⟩
    have := World.ownsRow.cellAt h j (by omega)
    rw [Nat.zero_add, this, List.getElem?_map, List.getElem?_eq_getElem hj]
    simp [bval, List.getD, List.getElem?_eq_getElem hj]
theorem Ob.bs {E : TypeId} {w : World} {base : Nat} {A : Option Addr} {n c : Nat} {l : List UInt8} (h : Ob E w base (.slice A n c) l) : Bs w A l := by
  obtain ⟨A', c', e, hb, _⟩ := h.form
  injection e with e1 e2 e3
  subst e1
  exact hb
theorem Ob.below {E : TypeId} {w w' : World} {base : Nat} {v : Value} {l : List UInt8} (h : Ob E w base v l) (hb : Below w.heap.size w w') : Ob E w' base v l := by
  refine ⟨h.1, ?_⟩
  rcases h.2 with hn | ⟨g, cap, cur, rfl, hb', hg, rest⟩
  · exact .inl hn
  · refine .inr ⟨g, cap, cur, rfl, hb', ?_, rest⟩
    rw [hb.block g (Array.getElem?_eq_some_iff.1 hg).1]
    exact hg
theorem Ob.drewN {E : TypeId} {w : World} {base : Nat} {v : Value} {l : List UInt8} (h : Ob E w base v l) (n : Nat) : Ob E (w.drewN n) base v l := h
theorem Ob.low {E : TypeId} {w : World} {base base' : Nat} {v : Value} {l : List UInt8} (h : Ob E w base v l) (hb : base' ≤ base) : Ob E w base' v l := by
  refine ⟨h.1, ?_⟩
  rcases h.2 with hn | ⟨g, cap, cur, rfl, hb', rest⟩
  · exact .inl hn
  · exact .inr ⟨g, cap, cur, rfl, by omega, rest⟩
theorem Ob.len {E : TypeId} {w : World} {base : Nat} {A : Option Addr} {n c : Nat} {l : List UInt8} (h : Ob E w base (.slice A n c) l) : n = l.length := by
  obtain ⟨A', c', e, _, _⟩ := h.form
  injection e with e1 e2 e3
theorem u8_and' (x y : UInt8) : bits .and .u8 (x.toNat : Int) (y.toNat : Int) = ((x &&& y).toNat : Int) := by
  rw [u8_and_nat _ _ x.toNat_lt y.toNat_lt, UInt8.toNat_and]
theorem getD_map_range (f : Nat → UInt8) (n i : Nat) (h : i < n) : ((List.range n).map f).getD i 0 = f i := by
  simp [List.getD, h]
theorem list_ext_getD {l m : List UInt8} (h : l.length = m.length) (hc : ∀ i, i < l.length → l.getD i 0 = m.getD i 0) : l = m := by
  apply List.ext_getElem h
  intro i h1 h2
  have := hc i h1
  simpa [List.getD, List.getElem?_eq_getElem h1, List.getElem?_eq_getElem h2] using this
theorem getD_set (l : List UInt8) (k i : Nat) (x : UInt8) (h : i < l.length) : (l.set k x).getD i 0 = if k = i then x else l.getD i 0 := by
  simp only [List.getD, List.getElem?_set]
  by_cases e : k = i
  · subst e; simp [h]
  · simp [e]
theorem range_set (n k : Nat) (f g : Nat → UInt8) (hk : k < n) (h1 : ∀ i, i ≠ k → f i = g i) : ((List.range n).map f).set k (g k) = (List.range n).map g := by
  apply list_ext_getD (by simp)
  intro i hi
  simp at hi
  rw [getD_set _ _ _ _ (by simpa using hi), getD_map_range _ _ _ hi, getD_map_range _ _ _ hi]
  by_cases e : k = i
  · subst e; simp
  · rw [if_neg e, h1 i (by omega)]
end Go.Proofs.Ytfejabfmhddepaa
namespace Go.Proofs.Ytfejabfmhddepaa
open Go.RowKit
set_option linter.unusedVariables false
set_option maxRecDepth 100000
theorem Ob.one {E : TypeId} {w : World} {base : Nat} {v : Value} {x : UInt8} (h : Ob E w base v [x]) :
    ∃ g c, v = .slice (some ⟨g, 0, none⟩) 1 c ∧ w.cell? ⟨g, 0, none⟩ = some (.int .u8 (x.toNat : Int)) ∧ g < w.heap.size := by
  obtain ⟨A, c, rfl, hb, hf⟩ := h.form
  obtain ⟨b, o, rfl, hc⟩ := hb.at_ (k := 0) (by simp)
  rcases hf with e | ⟨g, e, -, hg⟩
  · cases e
  · injection e with e
    injection e with e1 e2
    subst e1
    subst e2
    exact ⟨b, c, rfl, by simpa using hc, hg⟩
@[go_sem] theorem below_drewN_eq (B : Nat) (a w : World) (n : Nat) : Below B a (w.drewN n) = Below B a w := propext ⟨fun h => ⟨h.os, h.tape, h.output, h.size, h.block⟩, fun h => below_drewN' h n⟩
@[go_sem] theorem below_drew_eq (B : Nat) (a w : World) : Below B a w.drew = Below B a w := propext ⟨fun h => ⟨h.os, h.tape, h.output, h.size, h.block⟩, fun h => h.drew⟩
end Go.Proofs.Ytfejabfmhddepaa
namespace Go.Proofs.Ytfejabfmhddepaa
section
variable {P : Program} {ops : Array Oper} {Q : Exit → Act → World → Prop} {md : Region.Mode} {S : World → Prop}
theorem take_at (i : Nat) {d : Nat} {op : Op} {ty : TypeId} {pos : String} {after : Array Edge} {guard : Option (Nat × Bool)} {v : Value} {fuel : Nat} {listed : Array Bool} {l l' : List Value} {df : List Deferred} {w : World}
    (hi : ops[i]? = some ⟨some d, op, ty, pos, after, guard⟩)
    (hs : Region.noSelect ops = true) (hf : Region.free md ops listed i = true) (hr : (Region.ready md ops listed).contains i = true)
    (hQ : ∀ c a w, Q (.panic c) (a.put (some d) v) w → Q (.panic c) a w)
    (hw : Region.wanted ⟨some d, op, ty, pos, after, guard⟩ (yielded ops l.toArray) = true) (hS : S w)
    (hy : ∀ w, S w → (execOp (Act.eval ⟨l.toArray, df⟩) ⟨some d, op, ty, pos, after, guard⟩).run P w = .ok (.value v) w)
    (hl : l.set d v = l')
    (h : wpAnyH P md ops Q S fuel (listed.setIfInBounds i true) ⟨l'.toArray, df⟩ w) : wpAnyH P md ops Q S (fuel + 1) listed ⟨l.toArray, df⟩ w := by
  refine wpAnyH_take hi hs hf hr hQ (.inl ⟨hw, hy⟩) hS ?_
  subst hl
  simpa [Act.put] using h
theorem call_at (i : Nat) {d : Option Tmp} {op : Op} {ty : TypeId} {pos : String} {after : Array Edge} {guard : Option (Nat × Bool)} {fuel : Nat} {listed : Array Bool} {a : Act} {w : World}
    (ho : ops[i]? = some ⟨d, op, ty, pos, after, guard⟩) (hr : Region.ready md ops listed = [i])
    (hw : Region.wanted ⟨d, op, ty, pos, after, guard⟩ (yielded ops a.tmps) = true)
    (h : ∀ K' : Act → World → Prop, Shut (∀ a w, S w → (S w → wpAnyH P md ops Q S fuel (listed.setIfInBounds i true) a w) → K' a w) → Oper.wp P ⟨d, op, ty, pos, after, guard⟩ a w K' Q) :
    wpAnyH P md ops Q S (fuel + 1) listed a w :=
  wpAnyH_ready hr (by simp) (AllReadyH.cons ho (fun K' hK => by rw [if_pos hw]; exact h K' hK) AllReadyH.nil)
end
end Go.Proofs.Ytfejabfmhddepaa
namespace Go.Proofs.Ytfejabfmhddepaa
open Go.RowKit
set_option linter.unusedVariables false
set_option maxRecDepth 100000
structure Only (F : Nat → Prop) (w w' : World) : Prop where
  os : w'.os = w.os
  tape : w'.tape = w.tape
  output : w'.output = w.output
  size : w.heap.size ≤ w'.heap.size
  block : ∀ k, k < w.heap.size → ¬ F k → w'.heap[k]? = w.heap[k]?
section
variable {F F' : Nat → Prop} {w w' w'' : World}
theorem Only.refl (F : Nat → Prop) (w : World) : Only F w w := ⟨rfl, rfl, rfl, Nat.le_refl _, fun _ _ _ => rfl⟩
theorem Only.trans (h : Only F w w') (k : Only F w' w'') : Only F w w'' :=
  ⟨k.os.trans h.os, k.tape.trans h.tape, k.output.trans h.output, Nat.le_trans h.size k.size, fun i hi hn => (k.block i (Nat.lt_of_lt_of_le hi h.size) hn).trans (h.block i hi hn)⟩
theorem Only.mono (h : Only F w w') (hF : ∀ k, k < w.heap.size → F k → F' k) : Only F' w w' :=
  ⟨h.os, h.tape, h.output, h.size, fun k hk hn => h.block k hk fun hf => hn (hF k hk hf)⟩
theorem Only.below (h : Only F w w') {B : Nat} (hB : B ≤ w.heap.size) (hF : ∀ k, k < B → ¬ F k) : Below B w w' :=
  ⟨h.os, h.tape, h.output, h.size, fun k hk => h.block k (by omega) (hF k hk)⟩
theorem Only.drewN (h : Only F w w') (n : Nat) : Only F w (w'.drewN n) := ⟨h.os, h.tape, h.output, h.size, h.block⟩
theorem Only.drew (h : Only F w w') : Only F w w'.drew := ⟨h.os, h.tape, h.output, h.size, h.block⟩
theorem Only.alloc (h : Only F w w') (o : Obj) : Only F w (w'.alloc o) :=
  h.trans ⟨rfl, rfl, rfl, by simp, fun k hk _ => Below.heap_alloc _ _ _ hk⟩
theorem Only.setCell (h : Only F w w') {p : Addr} (hp : F p.block ∨ w.heap.size ≤ p.block) (u : Value) : Only F w (w'.setCell p u) :=
  ⟨h.os, h.tape, h.output, by simpa [World.setCell] using h.size, fun k hk hn => (Below.heap_setCell _ _ _ _ (by
    rintro rfl
    rcases hp with hp | hp
    · exact hn hp
    · omega)).trans (h.block k hk hn)⟩
def At (A : Option Addr) (k : Nat) : Prop := ∃ a, A = some a ∧ a.block = k
theorem Bs.only {A : Option Addr} {l : List UInt8} (h : Bs w A l) (hb : Only F w w') (hA : ∀ k, At A k → ¬ F k) : Bs w' A l := fun hl => by
  obtain ⟨b, o, e, hc⟩ := h hl
  subst e
  refine ⟨b, o, rfl, fun j hj => ?_⟩
  have hcj := hc j hj
  have hlt := World.block_lt_of_cell? w _ hcj
  rw [World.cell?_of_block (hb.block b hlt (hA b ⟨_, rfl, rfl⟩))]
  exact hcj
theorem Ob.only {E : TypeId} {base : Nat} {A : Option Addr} {n c : Nat} {l : List UInt8} (h : Ob E w base (.slice A n c) l) (hb : Only F w w') (hA : ∀ k, At A k → ¬ F k) : Ob E w' base (.slice A n c) l := by
  refine ⟨h.1, ?_⟩
  rcases h.2 with hn | ⟨g, cap, cur, e, hb', hg, rest⟩
  · exact .inl hn
  · refine .inr ⟨g, cap, cur, e, hb', ?_, rest⟩
    injection e with e1 e2 e3
    subst e1
    rw [hb.block g (Array.getElem?_eq_some_iff.1 hg).1 (hA g ⟨_, rfl, rfl⟩)]
    exact hg
end
end Go.Proofs.Ytfejabfmhddepaa
namespace Go.Proofs.Ytfejabfmhddepaa
open Go.RowKit
set_option linter.unusedVariables false
set_option maxRecDepth 100000
def updTo (l : List UInt8) (f : Nat → UInt8) (k : Nat) : List UInt8 := (List.range l.length).map fun i => if i < k then f i else l.getD i 0
theorem updTo_len (l f k) : (updTo l f k).length = l.length := by simp [updTo]
theorem updTo_get {l : List UInt8} {f : Nat → UInt8} {k i : Nat} (h : i < l.length) : (updTo l f k).getD i 0 = if i < k then f i else l.getD i 0 := by
  simp only [updTo]
  rw [getD_map_range _ _ _ h]
theorem updTo_zero (l f) : updTo l f 0 = l := by
  apply list_ext_getD (updTo_len _ _ _)
  intro i hi
  rw [updTo_len] at hi
  rw [updTo_get hi]
  simp
theorem updTo_step {l : List UInt8} {f : Nat → UInt8} {k : Nat} (hk : k < l.length) : (updTo l f k).set k (f k) = updTo l f (k + 1) := by
  have := range_set l.length k (fun i => if i < k then f i else l.getD i 0) (fun i => if i < k + 1 then f i else l.getD i 0) hk (by
    intro i hi
    by_cases h : i < k
    · rw [if_pos h, if_pos (by omega)]
    · rw [if_neg h, if_neg (by omega)])
  simp only [Nat.lt_succ_self, if_true] at this
  exact this
end Go.Proofs.Ytfejabfmhddepaa
namespace Go.Proofs.Ytfejabfmhddepaa
open Go.RowKit
set_option linter.unusedVariables false
set_option maxRecDepth 100000
def lowMask (k : Nat) : UInt8 := UInt8.ofNat (2 ^ k - 1)
def part (b f : UInt8) (k : Nat) : UInt8 := b ||| (f &&& lowMask k)
end Go.Proofs.Ytfejabfmhddepaa
namespace Go.Proofs.Ytfejabfmhddepaa
set_option linter.unusedVariables false
set_option maxRecDepth 100000
def gI (l : List Int) (i : Nat) : Int := l.getD i 0
def Bd (B : Int) (l : List Int) : Prop := ∀ i, -B ≤ gI l i ∧ gI l i ≤ B
def Pr (l : List Int) : Prop := ∀ i, 0 ≤ gI l i ∧ gI l i < 65536
def dgN (n : Nat) (v : Int) : List Int := match n with
  | 0 => []
  | n + 1 => v % 65536 :: dgN n (v / 65536)
theorem Bd.mono {B B' : Int} {l : List Int} (h : Bd B l) (hB : B ≤ B') : Bd B' l := fun i => by have := h i; omega
end Go.Proofs.Ytfejabfmhddepaa
namespace Go.Proofs.Ytfejabfmhddepaa
set_option linter.unusedVariables false
set_option maxRecDepth 100000
def leN : List UInt8 → Nat
  | [] => 0
  | a :: l => a.toNat + 256 * leN l
def leB : Nat → Nat → List UInt8
  | 0, _ => []
  | n + 1, x => UInt8.ofNat x :: leB n (x / 256)
theorem leB_len : ∀ n x, (leB n x).length = n
  | 0, _ => rfl
  | n + 1, x => by rw [leB, List.length_cons, leB_len n]
theorem leN_lt : ∀ l : List UInt8, leN l < 256 ^ l.length
  | [] => by simp [leN]
  | a :: l => by
    have ih := leN_lt l
    have ha := a.toNat_lt
    rw [leN, List.length_cons, Nat.pow_succ]
    generalize 256 ^ l.length = p at *
    omega
theorem leN_leB : ∀ n x, x < 256 ^ n → leN (leB n x) = x
  | 0, x, h => by simp at h; subst h; rfl
  | n + 1, x, h => by
    have ih := leN_leB n (x / 256) (by rw [Nat.pow_succ] at h; generalize 256 ^ n = p at *; omega)
    rw [leB, leN, ih]
    have : (UInt8.ofNat x).toNat = x % 256 := by simp
    omega
theorem leB_leN : ∀ l : List UInt8, leB l.length (leN l) = l
  | [] => rfl
  | a :: l => by
    have ha := a.toNat_lt
    have e1 : (a.toNat + 256 * leN l) / 256 = leN l := by omega
    have e2 : UInt8.ofNat (a.toNat + 256 * leN l) = a := UInt8.toNat_inj.1 (by simp)
    rw [List.length_cons, leN, leB, e1, e2, leB_leN l]
theorem leN_inj {l m : List UInt8} (h : l.length = m.length) (e : leN l = leN m) : l = m := by
  rw [← leB_leN l, ← leB_leN m, h, e]
theorem leB_get : ∀ n x i, i < n → (leB n x).getD i 0 = UInt8.ofNat (x / 256 ^ i)
  | 0, _, _, h => by omega
  | n + 1, x, 0, _ => by simp [leB]
  | n + 1, x, i + 1, h => by
    rw [leB, List.getD_cons_succ, leB_get n (x / 256) i (by omega), Nat.div_div_eq_div_mul, Nat.pow_succ, Nat.mul_comm]
theorem leN_set : ∀ (l : List UInt8) (i : Nat) (x : UInt8), i < l.length → leN (l.set i x) + (l.getD i 0).toNat * 256 ^ i = leN l + x.toNat * 256 ^ i
  | [], i, x, h => by simp at h
  | a :: l, 0, x, _ => by simp [leN]; omega
  | a :: l, i + 1, x, h => by
    have ih := leN_set l i x (by simpa using h)
    rw [List.set_cons_succ, leN, leN, List.getD_cons_succ, Nat.pow_succ, ← Nat.mul_assoc, ← Nat.mul_assoc]
    generalize (l.getD i 0).toNat * 256 ^ i = q at *
    generalize x.toNat * 256 ^ i = r at *
    omega
theorem leN_snoc (l : List UInt8) (a : UInt8) : leN (l ++ [a]) = leN l + a.toNat * 256 ^ l.length := by
  induction l with
  | nil => simp [leN]
  | cons b l ih =>
    rw [List.cons_append, leN, leN, ih, List.length_cons, Nat.pow_succ, ← Nat.mul_assoc]
    generalize a.toNat * 256 ^ l.length = q
    omega
abbrev TT : Nat := 57896044618658097711785492504343953926634992332820282019728792003956564819968
abbrev PP : Nat := 57896044618658097711785492504343953926634992332820282019728792003956564819949
theorem two256 : 256 ^ 32 = 2 * TT := by decide
def topC (l : List UInt8) : List UInt8 := l.set 31 (l.getD 31 0 &&& 127)
theorem topC_len (l : List UInt8) : (topC l).length = l.length := by simp [topC]
theorem top_split {l : List UInt8} (h : l.length = 32) : ∃ r, r < 256 ^ 31 ∧ leN l = r + (l.getD 31 0).toNat * 256 ^ 31 := by
  have e : l = l.take 31 ++ [l.getD 31 0] := by
    have e1 := List.take_append_drop 31 l
    have d : l.drop 31 = [l.getD 31 0] := by
      rw [List.drop_eq_getElem_cons (by omega), List.drop_eq_nil_of_le (by omega)]
      simp [List.getD, List.getElem?_eq_getElem (show 31 < l.length by omega)]
    rw [← d]; exact e1.symm
  have hl : (l.take 31).length = 31 := by rw [List.length_take]; omega
  refine ⟨leN (l.take 31), by have := leN_lt (l.take 31); rwa [hl] at this, ?_⟩
  have h2 := leN_snoc (l.take 31) (l.getD 31 0)
  rw [← e, hl] at h2
  exact h2
theorem u8_and127 (a : UInt8) : (a &&& 127).toNat = a.toNat % 128 := by
  rw [UInt8.toNat_and, show (127 : UInt8).toNat = 2 ^ 7 - 1 by decide, Nat.and_two_pow_sub_one_eq_mod]
theorem P31 : 256 ^ 31 = 452312848583266388373324160190187140051835877600158453279131187530910662656 := by decide
theorem leN_topC {l : List UInt8} (h : l.length = 32) : leN (topC l) = leN l % TT := by
  obtain ⟨r, hr, e⟩ := top_split h
  have hs := leN_set l 31 (l.getD 31 0 &&& 127) (by omega)
  rw [u8_and127] at hs
  unfold topC
  have := (l.getD 31 0).toNat_lt
  generalize (l.getD 31 0).toNat = a at *
  generalize leN (l.set 31 (l.getD 31 0 &&& 127)) = v at *
  rw [e] at hs ⊢
  rw [P31] at *
  unfold TT
  omega
def feN (l : List UInt8) : Nat := leN l % TT % PP
def canN (l : List UInt8) : Bool := decide (leN l % TT < PP)
theorem feN_lt (l : List UInt8) : feN l < PP := Nat.mod_lt _ (by decide)
theorem PP_lt : PP < 256 ^ 32 := by decide
theorem canN_iff {l : List UInt8} (h : l.length = 32) : decide (leB 32 (feN (topC l)) = topC l) = canN l := by
  have ht := leN_topC h
  have hl := topC_len l
  rw [h] at hl
  have hlt : leN l % TT < TT := Nat.mod_lt _ (by decide)
  have hfe : feN (topC l) = leN l % TT % PP := by unfold feN; rw [ht, Nat.mod_eq_of_lt hlt]
  rw [hfe]
  unfold canN
  by_cases hc : leN l % TT < PP
  · rw [decide_eq_true hc, Nat.mod_eq_of_lt hc, ← ht]
    have := leB_leN (topC l)
    rw [hl] at this
    exact decide_eq_true this
  · rw [decide_eq_false hc]
    apply decide_eq_false
    intro e
    apply hc
    have e2 : leN (topC l) = leN l % TT % PP := by rw [← e]; exact leN_leB 32 _ (Nat.lt_trans (Nat.mod_lt _ (by decide)) PP_lt)
    rw [← ht, e2]
    exact Nat.mod_lt _ (by decide)
end Go.Proofs.Ytfejabfmhddepaa
namespace Go.Proofs.Ytfejabfmhddepaa
open Go.RowKit
set_option linter.unusedVariables false
set_option maxRecDepth 100000
def tabI (l : List Int) : Array Value := (l.map fun x => Value.int .i64 x).toArray
theorem tabI_set (l : List Int) (i : Nat) (x : Int) : (tabI l).setIfInBounds i (.int .i64 x) = tabI (l.set i x) := by
  unfold tabI
  rw [List.map_set]
  simp
theorem below_row {B g : Nat} {a w : World} {cs : Array Value} (h : Below B a w) (hg : B ≤ g) : Below B a (w.setRow g cs) :=
  ⟨h.os, h.tape, h.output, by have := h.size; simpa using this, fun j hj => by rw [setRow_other _ _ _ _ (by omega)]; exact h.block j hj⟩
theorem below_then {w w1 w2 : World} (h : Below w.heap.size w w1) (h2 : Below w1.heap.size w1 w2) : Below w.heap.size w w2 := h.trans (h2.mono h.size)
theorem run_loadR {P : Program} {ρ : Operand → Value} {o : Oper} {w : World} {ty : TypeId} {x : Operand} (ho : o.op = .load ty x) {g : Nat} (hx : ρ x = .pointer (some ⟨g, 0, none⟩)) {t : TypeId} {cs : Array Value} {fr : Nat × Nat} {d : TypeDesc} (hg : w.heap[g]? = some (.cells cs t fr))
    (hu : P.underlying ty = some d) (hd : (match d with | .struct _ | .array _ _ => true | _ => false) = true) (hi : (P.info? ty).map (·.size) = some cs.size) :
    (execOp ρ o).run P w = .ok (.value (.agg cs)) w := by
  unfold execOp
  simp only [ho, hx, Instr.loadAt, Instr.sureAddr, Sem.run_bind, Sem.run_pure, Result.andThen_ok, run_loadVar_row w g t ty cs fr d hg hu hd hi]
end Go.Proofs.Ytfejabfmhddepaa
namespace Go.Proofs.Ytfejabfmhddepaa
open Go.RowKit
set_option linter.unusedVariables false
set_option maxRecDepth 100000
def arrB (l : List UInt8) : Array Value := (l.map bval).toArray
theorem arrB_size (l : List UInt8) : (arrB l).size = l.length := by simp [arrB]
theorem arrB_get (l : List UInt8) (i : Nat) (h : i < l.length) : (arrB l)[i]? = some (.int .u8 ((l.getD i 0).toNat : Int)) := by
  simp [arrB, List.getD, List.getElem?_eq_getElem h, bval]
theorem arrB_set (l : List UInt8) (i : Nat) (x : UInt8) : (arrB l).setIfInBounds i (.int .u8 (x.toNat : Int)) = arrB (l.set i x) := by
  unfold arrB
  rw [List.map_set]
  simp [bval]
theorem arrB_one (l : List UInt8) : (arrB l).all (·.oneCell') = true := by
  simp [arrB, Value.oneCell', bval]
theorem zero_arr (T : TypeId) (z : Array Value) (n : Nat) (h : (Try.prog.info? T).map (fun i => (i.zero, i.size)) = some (some (.agg z), n)) (u : World) : (zeroValue T).run Try.prog u = .ok (.agg z) u := by
  cases hi : Try.prog.info? T with
  | none => rw [hi] at h; cases h
  | some i =>
    rw [hi] at h
    simp at h
    simp [zeroValue, typeInfo, hi, h.1]
theorem part_b {P : Program} (e : TypeId) (l : List UInt8) (i : Nat) (h : i < l.length) (ha : ∀ w, (isAgg e).run P w = .ok false w) (u : World) : (Go.part e (arrB l) i).run P u = .ok (.int .u8 ((l.getD i 0).toNat : Int)) u := by
  have hg := arrB_get l i h
  simp only [Go.part, Sem.run_bind, ha, Result.andThen_ok, Bool.false_eq_true, if_false]
  rw [hg]
  simp
theorem run_eql2 {P : Program} {ρ : Operand → Value} {o : Oper} {w : World} {op : BinOp} {T T' : TypeId} {x y : Operand} {cs ds : Array Value} {r : Value} (ho : o.op = .binOp op T x y T') (hx : ρ x = .agg cs) (hy : ρ y = .agg ds) (hm : P.eqGuardType P.depth T = false)
    (he : (binOp op T (.agg cs) (.agg ds)).run P w = .ok r w) : (execOp ρ o).run P w = .ok (.value r) w := by
  unfold execOp
  simp only [ho, hx, hy, Sem.run_bind, run_eqGuard_agg w op T x y cs ds hm, Result.andThen_ok, he, Sem.run_pure]
theorem frozen_row {W : World} {g : Nat} {cs : Array Value} {t : TypeId} (h : W.heap[g]? = some (.cells cs t (0, 0))) (k : Nat) : W.frozen? ⟨g, k, none⟩ = false := by simp [World.frozen?, h]
theorem eqB2_loop {P : Program} (e : TypeId) (l m : List UInt8) (hlm : l.length = m.length) (hu : P.underlying e = some (.int .u8)) (ha : ∀ w, (isAgg e).run P w = .ok false w) (u : World) : ∀ (r : List Nat), (∀ i ∈ r, i < l.length) →
    (forIn r ((none : Option Bool), ()) fun i __s => do
      let a ← Go.part e (arrB l) (i * 1)
      let b ← Go.part e (arrB m) (i * 1)
      let c ← Op.equalIn 9999 e a b
      if (!c) = true then pure (ForInStep.done (some false, ())) else pure (ForInStep.yield ((none : Option Bool), ())) : Sem (Option Bool × Unit)).run P u = .ok (if (r.all fun i => decide (l.getD i 0 = m.getD i 0)) = true then none else some false, ()) u
  | [], _ => by simp
  | i :: r, h => by
    have h1 := part_b (P := P) e l i (h i (by simp)) ha u
    have h1' := part_b (P := P) e m i (by have := h i (by simp); omega) ha u
    have h2 : (Op.equalIn 9999 e (.int .u8 ((l.getD i 0).toNat : Int)) (.int .u8 ((m.getD i 0).toNat : Int))).run P u = .ok (decide (l.getD i 0 = m.getD i 0)) u := by
      rw [show (9999 : Nat) = 9998 + 1 from rfl, run_equalIn_int _ _ _ _ .u8 _ _ hu]
      generalize l.getD i 0 = a
      generalize m.getD i 0 = b
      by_cases hq : a = b
      · rw [hq]; simp
      · rw [decide_eq_false hq]
        have : ¬ a.toNat = b.toNat := fun e => hq (UInt8.toNat_inj.1 e)
        congr 1
        simp; omega
    have ih := eqB2_loop e l m hlm hu ha u r (fun j hj => h j (by simp [hj]))
    by_cases hd : l.getD i 0 = m.getD i 0
    · have hdt : decide (l.getD i 0 = m.getD i 0) = true := decide_eq_true hd
      simp only [List.forIn_cons, Sem.run_bind, Nat.mul_one, h1, h1', h2, Result.andThen_ok, hdt, Bool.not_true, Bool.false_eq_true, if_false, Sem.run_pure, List.all_cons, Bool.true_and] at ih ⊢
      exact ih
    · have hdf : decide (l.getD i 0 = m.getD i 0) = false := decide_eq_false hd
      simp only [List.forIn_cons, Sem.run_bind, Nat.mul_one, h1, h1', h2, Result.andThen_ok, hdf, Bool.not_false, if_true, Sem.run_pure, List.all_cons, Bool.false_and, Bool.false_eq_true, if_false]
theorem allB_same {l m : List UInt8} (h : l.length = m.length) : ((List.range' 0 l.length).all fun i => decide (l.getD i 0 = m.getD i 0)) = decide (l = m) := by
  by_cases e : l = m
  · subst e; simp
  · rw [decide_eq_false e]
    cases hb : ((List.range' 0 l.length).all fun i => decide (l.getD i 0 = m.getD i 0))
    · rfl
    · exfalso
      apply e
      apply List.ext_getElem h
      intro i h1 h2
      have := List.all_eq_true.1 hb i (by rw [List.mem_range'_1]; omega)
      simpa [List.getD, List.getElem?_eq_getElem h1, List.getElem?_eq_getElem h2] using this
theorem eqB_any {P : Program} (T e : TypeId) (n : Nat) (l m : List UInt8) (hl : l.length = n) (hm : m.length = n) (ht : P.underlying T = some (.array n e)) (hu : P.underlying e = some (.int .u8))
    (ha : ∀ w, (isAgg e).run P w = .ok false w) (hs : ∀ w, (sizeOf e).run P w = .ok 1 w) (u : World) : (Op.equalIn 10000 T (.agg (arrB l)) (.agg (arrB m))).run P u = .ok (decide (l = m)) u := by
  rw [show (10000 : Nat) = 9999 + 1 from rfl, Op.equalIn]
  simp only [Sem.run_bind, run_underlying ht, Result.andThen_ok, hs]
  simp only [Std.Legacy.Range.forIn_eq_forIn_range', Std.Legacy.Range.size, Nat.sub_zero, Nat.add_sub_cancel, Nat.div_one]
  have hr : ∀ i ∈ List.range' 0 n, i < l.length := fun i hi => by
    rw [List.mem_range'_1] at hi; omega
  rw [eqB2_loop e l m (by omega) hu ha u _ hr]
  have hq := allB_same (l := l) (m := m) (by omega)
  rw [hl] at hq
  rw [hq]
  by_cases e : l = m
  · rw [decide_eq_true e]; simp
  · rw [decide_eq_false e]; simp
theorem eqB_run {P : Program} (T e : TypeId) (n : Nat) (l m : List UInt8) (hl : l.length = n) (hm : m.length = n) (ht : P.underlying T = some (.array n e)) (hu : P.underlying e = some (.int .u8))
    (ha : ∀ w, (isAgg e).run P w = .ok false w) (hs : ∀ w, (sizeOf e).run P w = .ok 1 w) (u : World) : (binOp .eql T (.agg (arrB l)) (.agg (arrB m))).run P u = .ok (.bool (decide (l = m))) u := by
  rw [run_eql_struct, eqB_any T e n l m hl hm ht hu ha hs u]
  simp
end Go.Proofs.Ytfejabfmhddepaa

namespace Go.Proofs.Ytfejabfmhddepaa
open Go.RowKit
set_option linter.unusedVariables false
set_option maxRecDepth 100000
abbrev RowT := Nat × Array Value × TypeId
def RowsW (W : World) : List RowT → Prop
  | [] => True
  | r :: L => W.heap[r.1]? = some (.cells r.2.1 r.2.2 (0, 0)) ∧ RowsW W L
section
variable {W W' : World} {L : List RowT} {g : Nat} {cs : Array Value} {t : TypeId}
theorem RowsW.nil (W : World) : RowsW W [] := trivial
theorem RowsW.head (h : RowsW W ((g, cs, t) :: L)) : W.heap[g]? = some (.cells cs t (0, 0)) := h.1
theorem RowsW.tail {r : RowT} (h : RowsW W (r :: L)) : RowsW W L := h.2
theorem RowsW.below (h : RowsW W L) (hb : Below W.heap.size W W') : RowsW W' L := by
  induction L with
  | nil => trivial
  | cons r L ih =>
    exact ⟨by rw [hb.block _ (Array.getElem?_eq_some_iff.1 h.1).1]; exact h.1, ih h.2⟩
theorem RowsW.ne (h : RowsW W L) : ∀ r ∈ L, r.1 ≠ W.heap.size := by
  induction L with
  | nil => intro r hr; cases hr
  | cons a L ih =>
    intro r hr
    rcases List.mem_cons.1 hr with rfl | hr
    · have := (Array.getElem?_eq_some_iff.1 h.1).1; omega
    · exact ih h.2 r hr
theorem RowsW.drew (h : RowsW W L) : RowsW W.drew L := h.below (Below.refl _ _).drew
theorem RowsW.box (h : RowsW W L) (cs : Array Value) (t : TypeId) : RowsW (W.alloc (.cells cs t)) ((W.heap.size, cs, t) :: L) :=
  ⟨heap_alloc_new _ _, h.below ((Below.refl _ W).alloc (Nat.le_refl _) _)⟩
theorem RowsW.new (h : RowsW W L) (z cs : Array Value) (t : TypeId) : RowsW ((W.alloc (.cells z t)).setRow W.heap.size cs) ((W.heap.size, cs, t) :: L) :=
  ⟨setRow_heap _ _ _ _ _ _ (heap_alloc_new _ _), h.below (below_row ((Below.refl _ W).alloc (Nat.le_refl _) _) (Nat.le_refl _))⟩
theorem below_new {w : World} (h : Below w.heap.size w W) (z cs : Array Value) (t : TypeId) : Below w.heap.size w ((W.alloc (.cells z t)).setRow W.heap.size cs) := below_row (h.alloc h.size _) h.size
theorem below_box {w : World} (h : Below w.heap.size w W) (cs : Array Value) (t : TypeId) : Below w.heap.size w (W.alloc (.cells cs t)) := h.alloc h.size _
theorem RowsW.set (h : RowsW W ((g, cs, t) :: L)) (hg : ∀ r ∈ L, r.1 ≠ g) (k : Nat) (v : Value) : RowsW (W.setCell ⟨g, k, none⟩ v) ((g, cs.setIfInBounds k v, t) :: L) := by
  rw [setCell_eq_setRow W g k _ _ _ v h.head]
  refine ⟨by rw [setRow_heap _ _ _ _ _ _ h.head], ?_⟩
  have h2 := h.tail
  clear h
  induction L with
  | nil => trivial
  | cons r L ih => exact ⟨by rw [setRow_other _ _ _ _ (hg r (by simp))]; exact h2.1, ih (fun q hq => hg q (by simp [hq])) h2.2⟩
theorem RowsW.put (h : RowsW W ((g, cs, t) :: L)) (hg : ∀ r ∈ L, r.1 ≠ g) (ds : Array Value) : RowsW (W.setRow g ds) ((g, ds, t) :: L) := by
  refine ⟨by rw [setRow_heap _ _ _ _ _ _ h.head], ?_⟩
  have h2 := h.tail
  clear h
  induction L with
  | nil => trivial
  | cons r L ih => exact ⟨by rw [setRow_other _ _ _ _ (hg r (by simp))]; exact h2.1, ih (fun q hq => hg q (by simp [hq])) h2.2⟩
theorem RowsW.setRow (h : RowsW W L) (hg : ∀ r ∈ L, r.1 ≠ g) (cs : Array Value) : RowsW (W.setRow g cs) L := by
  induction L with
  | nil => trivial
  | cons r L ih =>
    exact ⟨by rw [setRow_other _ _ _ _ (hg r (by simp))]; exact h.1, ih h.2 (fun q hq => hg q (by simp [hq]))⟩
end
theorem wpList_runsV {P : Program} {ops : Array Oper} {rest : List Oper} {o : Oper} {a : Act} {w : World} {Q : Exit → Act → World → Prop} (hw : Region.wanted o (yielded ops a.tmps) = true) (v : Value)
    (hrun : (execOp (Act.eval a) o).run P w = .ok (.value v) w) (h : wpList P ops Q rest (a.put o.dst v) w) : wpList P ops Q (o :: rest) a w := by
  refine BigFrame.wpList_want hw fun K hK => ?_
  unfold Oper.wp
  rw [hrun]
  exact hK _ _ h
theorem results_ct {P : Program} {fn : Func} {p q : Tmp} {ty : TypeId} (h : fn.results = #[.cell p ty, .tmp q]) (tmps : Array Value) (w : World) (g : Nat) (t : TypeId) (cs : Array Value) (fr : Nat × Nat) (d : TypeDesc) (x : Value)
    (hp : tmps.getD p undef = .pointer (some ⟨g, 0, none⟩)) (hq : tmps.getD q undef = x) (hg : w.heap[g]? = some (.cells cs t fr))
    (hu : P.underlying ty = some d) (hd : (match d with | .struct _ | .array _ _ => true | _ => false) = true) (hi : (P.info? ty).map (·.size) = some cs.size) :
    (results fn tmps).run P w = .ok (.tuple #[.agg cs, x]) w := by
  have hp' : tmps[p]?.getD undef = .pointer (some ⟨g, 0, none⟩) := by simpa using hp
  have hq' : tmps[q]?.getD undef = x := by simpa using hq
  simp [results, h, hp', hq', asAddr, run_loadVar_row w g t ty cs fr d hg hu hd hi]
end Go.Proofs.Ytfejabfmhddepaa
namespace Go.Proofs.Ytfejabfmhddepaa
set_option linter.unusedVariables false
set_option maxRecDepth 100000
section
variable {P : Program} {ops : Array Oper} {Q : Exit → Act → World → Prop} {md : Region.Mode} {S : World → Prop}
def wpAnyK (P : Program) (md : Region.Mode) (ops : Array Oper) (Q : Exit → Act → World → Prop) (S : World → Prop) (n : Nat) (L : Array Bool → Act → World → Prop) : Nat → Array Bool → Act → World → Prop
  | 0, listed, a, w => L listed a w
  | f + 1, listed, a, w =>
    Region.ready md ops listed ≠ [] ∧ ∀ i ∈ Region.ready md ops listed, i < n ∧ wpOp P ops Q i (fun a' w' => S w' ∧ wpAnyK P md ops Q S n L f (listed.setIfInBounds i true) a' w') a w
theorem wpAny_of_headK {n g : Nat} {L : Array Bool → Act → World → Prop} (hL : ∀ listed a w, L listed a w → wpAny P md ops Q g listed a w) :
    ∀ (f : Nat) (listed : Array Bool) (a : Act) (w : World), wpAnyK P md ops Q S n L f listed a w → wpAny P md ops Q (f + g) listed a w
  | 0, listed, a, w, h => by rw [Nat.zero_add]; exact hL _ _ _ h
  | f + 1, listed, a, w, h => by
    rw [show f + 1 + g = (f + g) + 1 by omega]
    exact ⟨fun h0 => absurd h0 h.1, fun i hi => wpOp_mono (fun a' w' h' => wpAny_of_headK hL f _ a' w' h'.2) (h.2 i hi).2⟩
theorem wpAnyK_first {n i : Nat} {oi : Oper} {v : Value} {L : Array Bool → Act → World → Prop} (hi : ops[i]? = some oi) (hsel : ∀ (j : Nat) (o : Oper) cs b, ops[j]? = some o → o.op ≠ .select cs b)
    (hs : Region.sinkB md ops n = true) (hc : Region.chainB md ops n = true) (hn : n < ops.size) (hin : i < n)
    (hQ : ∀ c a w, Q (.panic c) (a.put oi.dst v) w → Q (.panic c) a w)
    (hdone : ∀ listed a w, L listed a w → ∀ j ∈ Region.ready md ops listed, n ≤ j) :
    ∀ (f : Nat) (listed : Array Bool) (a : Act) (w : World), HeadInv md ops n listed →
      (∀ j oj, ops[j]? = some oj → j ≠ i → listed.getD j true = false → (∀ e ∈ oj.after, Region.binds md e = true → e.on ≠ i) → oi.apart ops oj = true) →
      i ∈ Region.ready md ops listed → YieldsIf P ops S oi v a → S w →
      wpAnyK P md ops Q S n L f (listed.setIfInBounds i true) (a.put oi.dst v) w → wpAnyK P md ops Q S n L (f + 1) listed a w := by
  intro f
  induction f with
  | zero =>
    intro listed a w inv _ hr hy hS H
    have hun := (mem_ready.1 hr).1
    refine ⟨fun h => (by rw [h] at hr; cases hr), fun j hj => ?_⟩
    have hjn : j < n := by
      rcases Nat.lt_or_ge j n with h | h
      · exact h
      · exact absurd hj (tail_waits hs hc hn inv _ i rfl hin hun j h)
    refine ⟨hjn, ?_⟩
    by_cases hji : j = i
    · subst hji; exact hy.wpOp hi hS ⟨hS, H⟩
    · have := hdone _ _ _ H j (ready_mono hj hji)
      omega
  | succ f ih =>
    intro listed a w inv hfree hr hy hS H
    have hun := (mem_ready.1 hr).1
    refine ⟨fun h => (by rw [h] at hr; cases hr), fun j hj => ?_⟩
    have hjn : j < n := by
      rcases Nat.lt_or_ge j n with h | h
      · exact h
      · exact absurd hj (tail_waits hs hc hn inv _ i rfl hin hun j h)
    refine ⟨hjn, ?_⟩
    by_cases hji : j = i
    · subst hji; exact hy.wpOp hi hS ⟨hS, H⟩
    · have h1 := (H.2 j (ready_mono hj hji)).2
      obtain ⟨hjun, oj, hoj, hall⟩ := mem_ready.1 hj
      have hnot : ∀ e ∈ oj.after, Region.binds md e = true → e.on ≠ i := fun e he hb heq => by
        have h1 := hall e he hb
        rw [heq, getD_both hun] at h1
        cases h1
      have h2 := wpOp_putIf hoj (hfree j oj hoj hji hjun hnot) (fun cs b => hsel i oi cs b hi) (fun cs b => hsel j oj cs b hoj) hQ hy h1
      have hfree' : ∀ k ok, ops[k]? = some ok → k ≠ i → (listed.setIfInBounds j true).getD k true = false →
          (∀ e ∈ ok.after, Region.binds md e = true → e.on ≠ i) → oi.apart ops ok = true := fun k ok hk hki hun hno => by
        refine hfree k ok hk hki ?_ hno
        by_cases hjk : j = k
        · subst hjk; exact hjun
        · rw [getD_set_ne true hjk] at hun; exact hun
      refine wpOp_mono (fun a' w' h3 => ⟨h3.2.1, ih (listed.setIfInBounds j true) a' w' (inv.set hj hjn) hfree' (ready_mono hr (Ne.symm hji)) h3.1 h3.2.1 ?_⟩) h2
      rw [Array.setIfInBounds_comm _ _ hji]
      exact h3.2.2
structure TailOk (md : Region.Mode) (ops : Array Oper) (n : Nat) : Prop where
  sel : Region.noSelect ops = true
  lt : decide (n < ops.size) = true
  sink : Region.sinkB md ops n = true
  chain : Region.chainB md ops n = true
def TailL (P : Program) (md : Region.Mode) (ops : Array Oper) (Q : Exit → Act → World → Prop) (n : Nat) (listed : Array Bool) (a : Act) (w : World) : Prop :=
  Region.seqB md ops (ops.size - n) n listed = true ∧ wpList P ops Q (ops.toList.drop n) a w
def wpAnyT (P : Program) (md : Region.Mode) (ops : Array Oper) (Q : Exit → Act → World → Prop) (S : World → Prop) (n : Nat) := wpAnyK P md ops Q S n (TailL P md ops Q n)
theorem wp_region_held_tail {id : Nat} {a : Act} {w : World} (n : Nat) (hm : P.follows .mixedOrders = true) (hT : TailOk .any ops n) (hS : S w.drew)
    (h : TailOk .any ops n → HeadInv .any ops n (Array.replicate ops.size false) → S w.drew → wpAnyT P .any ops Q S n n (Array.replicate ops.size false) a w.drew) : (Code.region id ops true).wp P Q a w := by
  have inv0 : HeadInv .any ops n (Array.replicate ops.size false) :=
    ⟨by simp, fun j oj _ hl => (by rw [getD_replicate_false] at hl; cases hl), fun t _ ht => getD_in (by simpa using ht) (getD_replicate_false _ _)⟩
  refine wp_region_any hm ?_
  have hn := of_decide_eq_true hT.lt
  have hdl : (ops.toList.drop n).length = ops.size - n := by simp
  have := wpAny_of_headK (Q := Q) (S := S) (g := ops.size - n) (n := n) (L := TailL P .any ops Q n) (fun listed a' w' hL => by
    have := wpAny_of_seq (md := .any) (Q' := Q) (ops.toList.drop n) n listed a' w' (fun j => by simp [List.getElem?_drop]) (by rw [hdl]; exact hL.1) hL.2
    rwa [hdl] at this) n _ _ _ (h hT inv0 hS)
  rw [show n + (ops.size - n) = ops.size by omega] at this
  exact this
theorem take_atT {n : Nat} (i : Nat) {d : Nat} {op : Op} {ty : TypeId} {pos : String} {after : Array Edge} {guard : Option (Nat × Bool)} {v : Value} {fuel : Nat} {listed : Array Bool} {l l' : List Value} {df : List Deferred} {w : World}
    (hT : TailOk md ops n) (inv : HeadInv md ops n listed)
    (hi : ops[i]? = some ⟨some d, op, ty, pos, after, guard⟩) (hin : i < n)
    (hf : Region.free md ops listed i = true) (hr : (Region.ready md ops listed).contains i = true)
    (hQ : ∀ c a w, Q (.panic c) (a.put (some d) v) w → Q (.panic c) a w)
    (hw : Region.wanted ⟨some d, op, ty, pos, after, guard⟩ (yielded ops l.toArray) = true) (hS : S w)
    (hy : ∀ w, S w → (execOp (Act.eval ⟨l.toArray, df⟩) ⟨some d, op, ty, pos, after, guard⟩).run P w = .ok (.value v) w)
    (hl : l.set d v = l')
    (h : HeadInv md ops n (listed.setIfInBounds i true) → wpAnyT P md ops Q S n fuel (listed.setIfInBounds i true) ⟨l'.toArray, df⟩ w) : wpAnyT P md ops Q S n (fuel + 1) listed ⟨l.toArray, df⟩ w := by
  have hr' : i ∈ Region.ready md ops listed := by simpa using hr
  refine wpAnyK_first hi (Region.noSelect_spec hT.sel) hT.sink hT.chain (of_decide_eq_true hT.lt) hin hQ (fun listed' a' w' hL => seqB_ready hL.1) fuel listed _ w inv (Region.free_spec hi hf) hr' (.inl ⟨hw, hy⟩) hS ?_
  subst hl
  have := h (inv.set hr' hin)
  simpa [Act.put, wpAnyT] using this
theorem call_atT {n : Nat} (i : Nat) {d : Option Tmp} {op : Op} {ty : TypeId} {pos : String} {after : Array Edge} {guard : Option (Nat × Bool)} {fuel : Nat} {listed : Array Bool} {a : Act} {w : World}
    (inv : HeadInv md ops n listed) (ho : ops[i]? = some ⟨d, op, ty, pos, after, guard⟩) (hin : i < n) (hr : Region.ready md ops listed = [i])
    (hw : Region.wanted ⟨d, op, ty, pos, after, guard⟩ (yielded ops a.tmps) = true)
    (h : ∀ K' : Act → World → Prop, Shut (∀ a w, S w → (HeadInv md ops n (listed.setIfInBounds i true) → S w → wpAnyT P md ops Q S n fuel (listed.setIfInBounds i true) a w) → K' a w) → Oper.wp P ⟨d, op, ty, pos, after, guard⟩ a w K' Q) :
    wpAnyT P md ops Q S n (fuel + 1) listed a w := by
  refine ⟨by rw [hr]; simp, fun j hj => ?_⟩
  have hji : j = i := by rw [hr] at hj; simpa using hj
  subst hji
  refine ⟨hin, wpOp_step ho (fun K' hK => ?_)⟩
  rw [if_pos hw]
  exact h K' (fun a w hS hW => hK a w ⟨hS, hW (inv.set hj hin) hS⟩)
theorem done_atT {n : Nat} {l : List Oper} {listed : Array Bool} {a : Act} {w : World} (hs : Region.seqB md l.toArray (l.toArray.size - n) n listed = true) (h : wpList P l.toArray Q (l.drop n) a w) : wpAnyT P md l.toArray Q S n 0 listed a w := ⟨hs, h⟩
end
end Go.Proofs.Ytfejabfmhddepaa
namespace Go.Proofs.Ytfejabfmhddepaa
open Go.RowKit
set_option linter.unusedVariables false
set_option maxRecDepth 100000
theorem RowsW.lt {W : World} {L : List RowT} (h : RowsW W L) : ∀ r ∈ L, r.1 < W.heap.size := by
  induction L with
  | nil => intro r hr; cases hr
  | cons a L ih =>
    intro r hr
    rcases List.mem_cons.1 hr with rfl | hr
    · exact (Array.getElem?_eq_some_iff.1 h.1).1
    · exact ih h.2 r hr
section
variable {P : Program} {ops : Array Oper} {Q : Exit → Act → World → Prop} {md : Region.Mode} {w0 : World} {A p : Nat} {T : TypeId} {Z : Array Value}
def HB (w0 : World) (T : TypeId) (Z : Array Value) (o : Option Nat) (W : World) : Prop :=
  Below w0.heap.size w0 W ∧ ∀ g, o = some g → w0.heap.size ≤ g ∧ W.heap[g]? = some (.cells Z T (0, 0))
def XB (P : Program) (md : Region.Mode) (ops : Array Oper) (Q : Exit → Act → World → Prop) (w0 : World) (A p : Nat) : Option Nat → Nat → Array Bool → Act → World → Prop
  | none, f, listed, a, W => wpAnyH P md ops Q (fun W => Below w0.heap.size w0 W) (f + 1) listed a W
  | some g, f, listed, a, W => wpAnyH P md ops Q (fun W => Below w0.heap.size w0 W) f (listed.setIfInBounds A true) (a.put (some p) (.pointer (some ⟨g, 0, none⟩))) W
structure AllocAt (P : Program) (ops : Array Oper) (Q : Exit → Act → World → Prop) (A p : Nat) (T : TypeId) (Z : Array Value) : Prop where
  at_ : (ops[A]?.map fun o => (o.op, o.dst, o.guard)) = some (.alloc T, some p, none)
  sel : Region.noSelect ops = true
  run : ∀ u, (zeroValue T).run P u = .ok (.agg Z) u
  q : ∀ c a w, Q (.panic c) a w → False
theorem run_alloc_op {ρ : Operand → Value} {o : Oper} {w : World} (ho : o.op = .alloc T) (hz : ∀ u, (zeroValue T).run P u = .ok (.agg Z) u) :
    (execOp ρ o).run P w = .ok (.value (.pointer (some ⟨w.heap.size, 0, none⟩))) (w.alloc (.cells Z T)) := by
  unfold execOp
  simp [ho, Instr.alloc, hz, newVar, go_sem]
theorem Oper.wp_put' {x o : Oper} {v : Value} {a : Act} {w : World} {K : Act → World → Prop} (hap : x.apart ops o = true) (hso : ∀ cs b, o.op ≠ .select cs b)
    (hq : ∀ c a w, Q (.panic c) a w → False) (h : o.wp P a w (fun a' w' => K (a'.put x.dst v) w') Q) : o.wp P (a.put x.dst v) w K Q := by
  obtain ⟨h1, h2, h3⟩ := Oper.apart_spec hap
  unfold Oper.wp at *
  rw [execOp_put o hso a x.dst v h1]
  generalize (execOp a.eval o).run P w = r at *
  cases r with
  | ok n w' =>
    cases n <;> simp only [Oper.upon] at h ⊢
    case value u => rw [Act.put_comm a v u h2]; exact h
    case skip => rw [Act.put_comm a v undef h2]; exact h
    case defer d =>
      rw [Act.put_defers, Act.put_comm _ v undef h2]
      exact h
    case enter f args =>
      refine Calls.mono h fun e w'' he => ?_
      cases e with
      | returned u =>
        show K ((a.put x.dst v).put o.dst u) w''
        rw [Act.put_comm a v u h2]; exact he
      | panicked c => exact (hq _ _ _ he).elim
      | outgrown => exact he
    case row row args => exact Rows.mono h fun u w'' he => by rw [Act.put_comm a v u h2]; exact he
  | halt x w' =>
    cases x <;> simp only [Oper.upon] at h ⊢
    case panic u => exact (hq _ _ _ h).elim
    all_goals exact h
theorem HB.al {o : Option Nat} {W : World} (h : HB w0 T Z o W) : HB w0 T Z (some W.heap.size) (W.alloc (.cells Z T)) :=
  ⟨h.1.alloc h.1.size _, fun g e => by injection e with e; subst e; exact ⟨h.1.size, heap_alloc_new _ _⟩⟩
theorem HB.next {o : Option Nat} {W W' : World} (h : HB w0 T Z o W) (hb : Below W.heap.size W W') : HB w0 T Z o W' :=
  ⟨h.1.trans (hb.mono h.1.size), fun g e => ⟨(h.2 g e).1, by rw [hb.block _ (Array.getElem?_eq_some_iff.1 (h.2 g e).2).1]; exact (h.2 g e).2⟩⟩
theorem wp_region_heldB {id : Nat} {a : Act} {w : World} (A p : Nat) (T : TypeId) (Z : Array Value) (hm : P.follows .mixedOrders = true) (h0 : decide (0 < ops.size) = true) (hA : AllocAt P ops Q A p T Z)
    (h : AllocAt P ops Q A p T Z → HB w T Z none w.drew → XB P .any ops Q w A p none (ops.size - 1) (Array.replicate ops.size false) a w.drew) : (Code.region id ops true).wp P Q a w := by
  have hb : Below w.heap.size w w.drew := (Below.refl _ _).drew
  have hn := of_decide_eq_true h0
  refine wp_region_held (S := fun W => Below w.heap.size w W) hm ?_
  have := h hA ⟨hb, fun g e => by cases e⟩
  have hk : (ops.size - 1) + 1 = ops.size := by omega
  simp only [XB] at this
  rw [hk] at this
  exact this
theorem take_atB (i : Nat) {d : Nat} {op : Op} {ty : TypeId} {pos : String} {after : Array Edge} {guard : Option (Nat × Bool)} {v : Value} {f : Nat} {listed : Array Bool} {l l' : List Value} {df : List Deferred} {o : Option Nat} {W : World}
    (hA : AllocAt P ops Q A p T Z)
    (hi : ops[i]? = some ⟨some d, op, ty, pos, after, guard⟩)
    (hf : Region.free md ops listed i = true) (hf1 : Region.free md ops (listed.setIfInBounds A true) i = true)
    (hr : (Region.ready md ops listed).contains i = true) (hr1 : (Region.ready md ops (listed.setIfInBounds A true)).contains i = true)
    (hap : (ops[A]?.map fun oA => oA.apart ops ⟨some d, op, ty, pos, after, guard⟩) = some true) (hAi : (A != i) = true)
    (hw : Region.wanted ⟨some d, op, ty, pos, after, guard⟩ (yielded ops l.toArray) = true) (hS : HB w0 T Z o W)
    (hy : ∀ W, Below w0.heap.size w0 W → (execOp (Act.eval ⟨l.toArray, df⟩) ⟨some d, op, ty, pos, after, guard⟩).run P W = .ok (.value v) W)
    (hl : l.set d v = l')
    (h : XB P md ops Q w0 A p o f (listed.setIfInBounds i true) ⟨l'.toArray, df⟩ W) : XB P md ops Q w0 A p o (f + 1) listed ⟨l.toArray, df⟩ W := by
  have hp : ∀ (c : List PanicEntry) (a : Act) (w : World), Q (.panic c) (a.put (some d) v) w → Q (.panic c) a w := fun c a w h => (hA.q _ _ _ h).elim
  obtain ⟨oA, hoA⟩ : ∃ oA, ops[A]? = some oA := by
    cases hq : ops[A]? with
    | none => have := hA.at_; rw [hq] at this; cases this
    | some oA => exact ⟨oA, rfl⟩
  have e1 := hA.at_
  rw [hoA] at e1 hap
  simp only [Option.map_some, Option.some.injEq, Prod.mk.injEq] at e1 hap
  obtain ⟨h1, h2, h3⟩ := Oper.apart_spec hap
  subst hl
  cases o with
  | none =>
    unfold XB at *
    refine wpAnyH_take hi hA.sel hf hr hp (.inl ⟨hw, hy⟩) hS.1 ?_
    simpa [Act.put] using h
  | some g =>
    unfold XB at *
    have hsel := Region.noSelect_spec hA.sel
    refine wpAnyH_take (v := v) hi hA.sel hf1 hr1 hp ?_ hS.1 ?_
    · have hy0 : YieldsIf P ops (fun W => Below w0.heap.size w0 W) ⟨some d, op, ty, pos, after, guard⟩ v ⟨l.toArray, df⟩ := .inl ⟨hw, hy⟩
      rw [e1.2.1] at h1
      exact hy0.of_same (execOp_put _ (fun cs b => hsel i _ cs b hi) _ _ _ h1) (wanted_put _ _ _ _ h1)
    · rw [e1.2.1] at h2
      rw [Act.put_comm _ _ _ h2, Array.setIfInBounds_comm _ _ (by simpa using hAi)]
      simpa [Act.put] using h
theorem call_atB (i : Nat) {d : Option Tmp} {op : Op} {ty : TypeId} {pos : String} {after : Array Edge} {guard : Option (Nat × Bool)} {f : Nat} {listed : Array Bool} {a : Act} {o : Option Nat} {W : World}
    (hA : AllocAt P ops Q A p T Z)
    (hi : ops[i]? = some ⟨d, op, ty, pos, after, guard⟩)
    (hr : ((Region.ready md ops listed).all fun j => j == i || j == A) = true) (hr0 : (Region.ready md ops listed).isEmpty = false) (hr1 : Region.ready md ops (listed.setIfInBounds A true) = [i])
    (hap : (ops[A]?.map fun oA => oA.apart ops ⟨d, op, ty, pos, after, guard⟩) = some true) (hAi : (A != i) = true)
    (hw : Region.wanted ⟨d, op, ty, pos, after, guard⟩ (yielded ops a.tmps) = true) (hS : HB w0 T Z o W)
    (h : ∀ (o : Option Nat) (W : World), HB w0 T Z o W → ∀ K' : Act → World → Prop,
      Shut (∀ a' W', Below W.heap.size W W' → (HB w0 T Z o W' → XB P md ops Q w0 A p o f (listed.setIfInBounds i true) a' W') → K' a' W') → Oper.wp P ⟨d, op, ty, pos, after, guard⟩ a W K' Q) :
    XB P md ops Q w0 A p o (f + 1) listed a W := by
  obtain ⟨oA, hoA⟩ : ∃ oA, ops[A]? = some oA := by
    cases hq : ops[A]? with
    | none => have := hA.at_; rw [hq] at this; cases this
    | some oA => exact ⟨oA, rfl⟩
  have e1 := hA.at_
  rw [hoA] at e1 hap
  simp only [Option.map_some, Option.some.injEq, Prod.mk.injEq] at e1 hap
  have hne : A ≠ i := by simpa using hAi
  have hsel := Region.noSelect_spec hA.sel
  have hwA : ∀ a : Act, Region.wanted oA (yielded ops a.tmps) = true := fun a => by unfold Region.wanted; rw [e1.2.2]
  have some_ : ∀ g W, HB w0 T Z (some g) W → XB P md ops Q w0 A p (some g) (f + 1) listed a W := fun g W hS => by
    unfold XB
    refine wpAnyH_all hr1 (by simp) fun j hj => ?_
    have hji : j = i := by simpa using hj
    subst hji
    refine wpOp_step hi fun K' hK => ?_
    have hd := hap
    obtain ⟨h1, h2, h3⟩ := Oper.apart_spec hd
    rw [e1.2.1] at h1
    rw [wanted_put _ a _ _ h1, if_pos hw]
    have hx := h (some g) W hS (fun a' W' => K' (a'.put oA.dst (.pointer (some ⟨g, 0, none⟩))) W') (fun a' W' hb hX => hK _ _ ?_)
    · have := Oper.wp_put' (x := oA) (o := ⟨d, op, ty, pos, after, guard⟩) (v := .pointer (some ⟨g, 0, none⟩)) hap (fun cs b => hsel j _ cs b hi) hA.q hx
      rwa [e1.2.1] at this
    · have hn := hS.next hb
      refine ⟨hn.1, ?_⟩
      have hX' := hX hn
      unfold XB at hX'
      rw [e1.2.1, Array.setIfInBounds_comm _ _ hne]
      exact hX'
  cases o with
  | some g => exact some_ g W hS
  | none =>
    unfold XB
    refine wpAnyH_all rfl (by intro e; rw [e] at hr0; cases hr0) fun j hj => ?_
    have hj2 := List.all_eq_true.1 hr j hj
    simp only [Bool.or_eq_true, beq_iff_eq] at hj2
    rcases hj2 with rfl | rfl
    · refine wpOp_step hi fun K' hK => ?_
      rw [if_pos hw]
      exact h none W hS K' (fun a' W' hb hX => hK _ _ ⟨(hS.next hb).1, by have := hX (hS.next hb); unfold XB at this; exact this⟩)
    · refine wpOp_step hoA fun K' hK => ?_
      rw [if_pos (hwA a)]
      unfold Oper.wp
      rw [run_alloc_op e1.1 hA.run]
      refine hK _ _ ⟨hS.al.1, ?_⟩
      have := some_ W.heap.size _ hS.al
      unfold XB at this
      rw [e1.2.1]
      exact this
theorem store_atB (s : Nat) {ty : TypeId} {pos : String} {after : Array Edge} {y : Operand} {f : Nat} {listed : Array Bool} {l : List Value} {l' : Nat → List Value} {df : List Deferred} {o : Option Nat} {W : World} {cs : Array Value}
    (hA : AllocAt P ops Q A p T Z)
    (hi : ops[s]? = some ⟨none, .store T (.tmp p) y, ty, pos, after, none⟩)
    (hr : ((Region.ready md ops listed).all fun j => j == A) = true) (hr0 : (Region.ready md ops listed).isEmpty = false) (hr1 : Region.ready md ops (listed.setIfInBounds A true) = [s])
    (hS : HB w0 T Z o W) (hp : decide (p < l.length) = true) (hy : Act.eval ⟨l.toArray, df⟩ y = .agg cs) (hyp : y ≠ .tmp p) (hinf : (P.info? T).map (·.size) = some cs.size) (hsz : Z.size = cs.size) (h1 : cs.all (·.oneCell') = true)
    (hl : ∀ g, l.set p (.pointer (some ⟨g, 0, none⟩)) = l' g)
    (h : ∀ g W', w0.heap.size ≤ g → Below w0.heap.size w0 W' → W'.heap[g]? = some (.cells cs T (0, 0)) → wpAnyH P md ops Q (fun W => Below w0.heap.size w0 W) f ((listed.setIfInBounds A true).setIfInBounds s true) ⟨(l' g).toArray, df⟩ W') :
    XB P md ops Q w0 A p o (f + 1) listed ⟨l.toArray, df⟩ W := by
  have hp := of_decide_eq_true hp
  obtain ⟨oA, hoA⟩ : ∃ oA, ops[A]? = some oA := by
    cases hq : ops[A]? with
    | none => have := hA.at_; rw [hq] at this; cases this
    | some oA => exact ⟨oA, rfl⟩
  have e1 := hA.at_
  rw [hoA] at e1
  simp only [Option.map_some, Option.some.injEq, Prod.mk.injEq] at e1
  have some_ : ∀ g W, HB w0 T Z (some g) W → XB P md ops Q w0 A p (some g) (f + 1) listed ⟨l.toArray, df⟩ W := fun g W hS => by
    unfold XB
    refine wpAnyH_all hr1 (by simp) fun j hj => ?_
    have hji : j = s := by simpa using hj
    subst hji
    refine wpOp_step hi fun K' hK => ?_
    have hg := hS.2 g rfl
    rw [if_pos (by rfl)]
    refine wp_store_row T (.tmp p) y rfl g cs ?_ ?_ T Z hg.2 hinf hsz h1 (hK _ _ ?_)
    · simp [Act.eval, Act.put, hp]
    · rw [Act.eval_put (fun d hd => by injection hd with hd; subst hd; exact hyp)]
      exact hy
    · refine ⟨below_row hS.1 hg.1, ?_⟩
      have := h g _ hg.1 (below_row hS.1 hg.1) (setRow_heap _ _ _ _ _ _ hg.2)
      rw [← hl g] at this
      simpa [Act.put] using this
  cases o with
  | some g => exact some_ g W hS
  | none =>
    unfold XB
    refine wpAnyH_all rfl (by intro e; rw [e] at hr0; cases hr0) fun j hj => ?_
    have hj2 := List.all_eq_true.1 hr j hj
    simp only [beq_iff_eq] at hj2
    subst hj2
    refine wpOp_step hoA fun K' hK => ?_
    rw [if_pos (by unfold Region.wanted; rw [e1.2.2])]
    unfold Oper.wp
    rw [run_alloc_op e1.1 hA.run]
    refine hK _ _ ⟨hS.al.1, ?_⟩
    have := some_ W.heap.size _ hS.al
    unfold XB at this
    rw [e1.2.1]
    exact this
end
end Go.Proofs.Ytfejabfmhddepaa

namespace Go.Proofs.Ytfejabfmhddepaa
open Go.RowKit
set_option linter.unusedVariables false
set_option maxRecDepth 100000
theorem run_loadVar_part {P : Program} (w : World) (g k : Nat) (t ty : TypeId) (cs ds : Array Value) (fr : Nat × Nat) (d : TypeDesc) (hg : w.heap[g]? = some (.cells cs t fr))
    (hu : P.underlying ty = some d) (hd : (match d with | .struct _ | .array _ _ => true | _ => false) = true) (hi : (P.info? ty).map (·.size) = some ds.size)
    (hc : ∀ j, j < ds.size → cs[k + j]? = ds[j]?) :
    (loadVar ty ⟨g, k, none⟩).run P w = .ok (.agg ds) w := by
  have hl : (loadCells ⟨g, k, none⟩ ds.toList.length).run P w = .ok ds.toList.toArray w :=
    run_loadCells_list (P := P) w ⟨g, k, none⟩ ds.toList (fun j v hv => by
      have hadd : (⟨g, k, none⟩ : Addr).add j = ⟨g, k + j, none⟩ := by unfold Addr.add; split <;> simp_all
      have hj : j < ds.size := by
        have := (List.getElem?_eq_some_iff.1 hv).1
        simpa using this
      rw [hadd, cell_of_row w g (k + j) cs t fr hg, hc j hj]
      simpa using hv)
  cases hq : P.info? ty with
  | none => simp [hq] at hi
  | some i =>
    have hs : i.size = ds.size := by simpa [hq] using hi
    have hagg : (isAgg ty).run P w = .ok true w := by
      unfold isAgg
      rw [Sem.run_bind, run_underlying hu w]
      cases d <;> simp_all
    simp only [Array.length_toList, Array.toArray_toList] at hl
    simp [loadVar, Sem.run_bind, hagg, sizeOf, typeInfo, hq, hs, hl]
theorem run_loadP {P : Program} {ρ : Operand → Value} {o : Oper} {w : World} {ty : TypeId} {x : Operand} (ho : o.op = .load ty x) {g k : Nat} (hx : ρ x = .pointer (some ⟨g, k, none⟩)) {t : TypeId} {cs ds : Array Value} {fr : Nat × Nat} {d : TypeDesc}
    (hg : w.heap[g]? = some (.cells cs t fr)) (hu : P.underlying ty = some d) (hd : (match d with | .struct _ | .array _ _ => true | _ => false) = true) (hi : (P.info? ty).map (·.size) = some ds.size)
    (hc : ∀ j, j < ds.size → cs[k + j]? = ds[j]?) :
    (execOp ρ o).run P w = .ok (.value (.agg ds)) w := by
  unfold execOp
  simp only [ho, hx, Instr.loadAt, Instr.sureAddr, Sem.run_bind, Sem.run_pure, Result.andThen_ok, run_loadVar_part w g k t ty cs ds fr d hg hu hd hi hc]
theorem lay_get (vs : List Value) : ∀ (n off : Nat) (cs : Array Value) (i : Nat),
    ((vs.zipIdx n).foldl (fun cs (p : Value × Nat) => cs.setIfInBounds (off + p.2) p.1) cs)[i]? = if off + n ≤ i ∧ i < off + n + vs.length ∧ i < cs.size then vs[i - (off + n)]? else cs[i]? := by
  induction vs with
  | nil => intro n off cs i; rw [if_neg (by simp; omega)]; simp
  | cons v vs ih =>
    intro n off cs i
    rw [List.zipIdx_cons, List.foldl_cons, ih (n + 1) off (cs.setIfInBounds (off + n) v) i]
    simp only [Array.size_setIfInBounds, List.length_cons]
    by_cases h1 : i = off + n
    · subst h1
      rw [if_neg (by omega)]
      by_cases h2 : off + n < cs.size
      · rw [if_pos ⟨by omega, by omega, h2⟩, Array.getElem?_setIfInBounds_self_of_lt h2, Nat.sub_self, List.getElem?_cons_zero]
      · rw [if_neg (by omega), Array.getElem?_setIfInBounds, if_pos rfl, if_neg h2, Array.getElem?_eq_none (by omega)]
    · by_cases h2 : off + n ≤ i ∧ i < off + n + (vs.length + 1) ∧ i < cs.size
      · rw [if_pos (by omega), if_pos h2, show i - (off + n) = (i - (off + (n + 1))) + 1 by omega, List.getElem?_cons_succ]
      · rw [if_neg (by omega), if_neg h2, Array.getElem?_setIfInBounds_ne (Ne.symm h1)]
theorem lay_part (a : Array Value) (off : Nat) (cs : Array Value) (h : off + a.size ≤ cs.size) :
    a.zipIdx.foldl (fun cs (p : Value × Nat) => cs.setIfInBounds (off + p.2) p.1) cs = cs.extract 0 off ++ a ++ cs.extract (off + a.size) cs.size := by
  apply Array.ext_getElem?
  intro i
  have hl := lay_get a.toList 0 off cs i
  rw [← Array.foldl_toList, Array.toList_zipIdx, hl]
  simp only [Array.length_toList, Nat.add_zero]
  by_cases h1 : i < off
  · rw [if_neg (by omega), Array.append_assoc, Array.getElem?_append_left (by simp; omega), Array.getElem?_extract]
    simp
    omega
  · by_cases h2 : i < off + a.size
    · rw [if_pos ⟨by omega, h2, by omega⟩, Array.append_assoc, Array.getElem?_append_right (by simp; omega), Array.getElem?_append_left (by simp; omega)]
      simp
      congr 1
      omega
    · rw [if_neg (by omega), Array.getElem?_append_right (by simp; omega), Array.getElem?_extract]
      simp
      by_cases h3 : i < cs.size
      · rw [if_pos (by omega)]
        congr 1
        omega
      · rw [if_neg (by omega), Array.getElem?_eq_none (by omega)]
def quad (a b c d : Array Value) : Array Value := a ++ b ++ c ++ d
section
variable {a b c d v : Array Value} {n : Nat}
theorem quad_size : (quad a b c d).size = a.size + b.size + c.size + d.size := by simp [quad]; omega
theorem quad_one : (quad a b c d).all (·.oneCell') = (a.all (·.oneCell') && b.all (·.oneCell') && c.all (·.oneCell') && d.all (·.oneCell')) := by simp [quad, Bool.and_assoc]
theorem quad_0 (j : Nat) (hj : j < a.size) : (quad a b c d)[0 + j]? = a[j]? := by
  unfold quad
  rw [Nat.zero_add, Array.getElem?_append_left (by simp; omega), Array.getElem?_append_left (by simp; omega), Array.getElem?_append_left hj]
theorem quad_1 (ha : a.size = n) (j : Nat) (hj : j < b.size) : (quad a b c d)[n + j]? = b[j]? := by
  unfold quad
  rw [Array.getElem?_append_left (by simp; omega), Array.getElem?_append_left (by simp; omega), Array.getElem?_append_right (by omega)]
  congr 1; omega
theorem quad_2 {m : Nat} (ha : a.size + b.size = m) (j : Nat) (hj : j < c.size) : (quad a b c d)[m + j]? = c[j]? := by
  unfold quad
  rw [Array.getElem?_append_left (by simp; omega), Array.getElem?_append_right (by simp; omega)]
  congr 1; simp; omega
theorem quad_3 {m : Nat} (ha : a.size + b.size + c.size = m) (j : Nat) (hj : j < d.size) : (quad a b c d)[m + j]? = d[j]? := by
  unfold quad
  rw [Array.getElem?_append_right (by simp; omega)]
  congr 1; simp; omega
theorem ext_pre {x y : Array Value} {m : Nat} (h : x.size = m) : (x ++ y).extract 0 m = x := by
  subst h; simp
theorem ext_post {x y : Array Value} {m k : Nat} (h : x.size = m) (hk : (x ++ y).size = k) : (x ++ y).extract m k = y := by
  subst h hk; simp
theorem lay_mid {x y z v : Array Value} {off : Nat} (h : x.size = off) (hs : y.size = v.size) : v.zipIdx.foldl (fun cs (p : Value × Nat) => cs.setIfInBounds (off + p.2) p.1) (x ++ y ++ z) = x ++ v ++ z := by
  have e1 : (x ++ y ++ z).extract 0 off = x := by rw [Array.append_assoc]; exact ext_pre h
  have e2 : (x ++ y ++ z).extract (off + v.size) (x ++ y ++ z).size = z := ext_post (x := x ++ y) (by simp; omega) rfl
  rw [lay_part v off (x ++ y ++ z) (by simp; omega), e1, e2]
theorem fill_part {place : Nat → Option (Nat × Nat)} {i off : Nat} {cs cs' : Array Value} {rest : List (Nat × Value)} (hp : place i = some (off, v.size)) (hs : off + v.size ≤ cs.size)
    (h : v.zipIdx.foldl (fun cs (p : Value × Nat) => cs.setIfInBounds (off + p.2) p.1) cs = cs') : Instr.fill place cs ((i, .agg v) :: rest) = Instr.fill place cs' rest := by
  have hc : (decide ((Value.agg v).cells.size ≠ v.size) || decide (off + (Value.agg v).cells.size > cs.size)) = false := by
    rw [show (Value.agg v).cells = v from rfl]
    simp
    omega
  rw [Instr.fill, hp]
  show (if (decide ((Value.agg v).cells.size ≠ v.size) || decide (off + (Value.agg v).cells.size > cs.size)) = true then none else _) = _
  rw [hc, if_neg (by decide), ← h]
  rfl
theorem fill_0 {place : Nat → Option (Nat × Nat)} {rest : List (Nat × Value)} (hs : a.size = v.size) (hp : place 0 = some (0, v.size)) : Instr.fill place (quad a b c d) ((0, .agg v) :: rest) = Instr.fill place (quad v b c d) rest :=
  fill_part hp (by rw [quad_size]; omega) (by
    have h := lay_mid (x := #[]) (y := a) (z := b ++ c ++ d) (v := v) (off := 0) rfl hs
    simpa [quad] using h)
theorem fill_1 {place : Nat → Option (Nat × Nat)} {rest : List (Nat × Value)} (ha : a.size = n) (hs : b.size = v.size) (hp : place 1 = some (n, v.size)) : Instr.fill place (quad a b c d) ((1, .agg v) :: rest) = Instr.fill place (quad a v c d) rest :=
  fill_part hp (by rw [quad_size]; omega) (by
    have h := lay_mid (x := a) (y := b) (z := c ++ d) (v := v) ha hs
    simpa [quad] using h)
theorem fill_2 {place : Nat → Option (Nat × Nat)} {rest : List (Nat × Value)} (ha : a.size + b.size = n) (hs : c.size = v.size) (hp : place 2 = some (n, v.size)) : Instr.fill place (quad a b c d) ((2, .agg v) :: rest) = Instr.fill place (quad a b v d) rest :=
  fill_part hp (by rw [quad_size]; omega) (by
    have h := lay_mid (x := a ++ b) (y := c) (z := d) (v := v) (by simpa using ha) hs
    simpa [quad] using h)
theorem fill_3 {place : Nat → Option (Nat × Nat)} {rest : List (Nat × Value)} (ha : a.size + b.size + c.size = n) (hs : d.size = v.size) (hp : place 3 = some (n, v.size)) : Instr.fill place (quad a b c d) ((3, .agg v) :: rest) = Instr.fill place (quad a b c v) rest :=
  fill_part hp (by rw [quad_size]; omega) (by
    have h := lay_mid (x := a ++ b ++ c) (y := d) (z := #[]) (v := v) (off := n) (by simp; omega) hs
    simpa [quad] using h)
end
end Go.Proofs.Ytfejabfmhddepaa

namespace Go.Proofs.Ytfejabfmhddepaa
set_option linter.unusedVariables false
set_option maxRecDepth 100000
theorem fr_negmul {x y : Nat} (hx : x < PP) (hy : y < PP) : (((PP - x) % PP) * ((PP - y) % PP)) % PP = (x * y) % PP := by
  have h0 : 0 < PP := by decide
  generalize PP = p at *
  rw [Nat.mul_mod_mod, Nat.mod_mul_mod]
  have e : (((p - x) * (p - y) : Nat) : Int) = (x * y : Nat) + (p : Int) * ((p : Int) - x - y) := by
    rw [Int.natCast_mul, Int.natCast_sub (by omega), Int.natCast_sub (by omega), Int.natCast_mul]
    grind
  have e2 : (((p - x) * (p - y) : Nat) : Int) % p = ((x * y : Nat) : Int) % p := by rw [e, Int.add_mul_emod_self_left]
  rw [← Int.natCast_emod, ← Int.natCast_emod] at e2
  exact Int.ofNat.inj e2
end Go.Proofs.Ytfejabfmhddepaa
namespace Go.Proofs.Ytfejabfmhddepaa
set_option linter.unusedVariables false
set_option maxRecDepth 100000
open Pm Fl
def pwN (x n : Nat) : Nat := ((F25519.c x) ^ n).val
theorem pwN_lt (x n : Nat) : pwN x n < PP := ((F25519.c x) ^ n).isLt
theorem c_pwN (x n : Nat) : F25519.c (pwN x n) = F25519.c x ^ n := F25519.c_of _
theorem c_same {a b : Nat} (ha : a < PP) (hb : b < PP) (h : F25519.c a = F25519.c b) : a = b := F25519.c_inj ha hb h
theorem c_modP (a : Nat) : F25519.c (a % PP) = F25519.c a := F25519.c_mod a
theorem mod_lt_PP (a : Nat) : a % PP < PP := Nat.mod_lt _ (by decide)
theorem c_prod (a b : Nat) : F25519.c ((a * b) % PP) = F25519.c a * F25519.c b := by rw [c_modP, F25519.c_mul]
theorem c_negP {a : Nat} (h : a < PP) : F25519.c ((PP - a) % PP) = -F25519.c a := by
  rw [c_modP]
  have e := F25519.c_sub (a := 0) (b := a) (Nat.le_of_lt h)
  rw [Nat.zero_add] at e
  rw [show PP - a = F25519.P - a from rfl, e]
  have z : F25519.c 0 = 0 := rfl
  rw [z]
  grind
theorem c_one : F25519.c 1 = 1 := rfl
theorem c_zero : F25519.c 0 = 0 := rfl
theorem c_eq_zeroP {a : Nat} (h : a < PP) : F25519.c a = 0 ↔ a = 0 :=
  ⟨fun e => c_same h (by decide) (by rw [e]; rfl), fun e => by rw [e]; rfl⟩
theorem pwN_zero (x : Nat) : pwN x 0 = 1 := c_same (pwN_lt _ _) (by decide) (by rw [c_pwN, pow_zero_, c_one])
theorem pwN_add (x m n : Nat) : (pwN x m * pwN x n) % PP = pwN x (m + n) := c_same (mod_lt_PP _) (pwN_lt _ _) (by rw [c_prod, c_pwN, c_pwN, c_pwN, F25519.pw_add])
theorem pwN_succ (x n : Nat) : (pwN x n * x) % PP = pwN x (n + 1) := c_same (mod_lt_PP _) (pwN_lt _ _) (by rw [c_prod, c_pwN, c_pwN, pow_succ_])
theorem pwN_pw (x m n : Nat) : pwN (pwN x m) n = pwN x (m * n) := c_same (pwN_lt _ _) (pwN_lt _ _) (by rw [c_pwN, c_pwN, c_pwN, F25519.pw_mul])
def invN (x : Nat) : Nat := pwN x (PP - 2)
theorem invN_lt (x : Nat) : invN x < PP := pwN_lt _ _
theorem c_invN {x : Nat} (h : x < PP) : F25519.c (invN x) = inv (F25519.c x) := by
  unfold invN inv
  rw [c_pwN]
  by_cases h0 : F25519.c x = 0
  · rw [if_pos h0, h0, show PP - 2 = (PP - 3) + 1 from rfl, pow_succ_, mul_zero_]
  · rw [if_neg h0]; rfl
theorem inv_right {x : Nat} (h : x < PP) (h0 : x ≠ 0) : (x * invN x) % PP = 1 := c_same (mod_lt_PP _) (by decide) (by
  rw [c_prod, c_invN h, mul_inv F25519.prP (fun e => h0 ((c_eq_zeroP h).1 e)), c_one])
abbrev KP : Nat := 7237005577332262213973186563042994240829374041602535252466099000494570602493
theorem two_quarter : F25519.c (pwN 2 (2 * KP + 1)) = F25519.iV := by
  rw [c_pwN]
  apply Fin.ext
  rw [F25519.val_pm _ _ 255 (by decide +kernel)]
  decide +kernel
def fixN (z : Nat) : Nat := if z % 2 = 1 then (PP - z) % PP else z
theorem fixN_lt {z : Nat} (h : z < PP) : fixN z < PP := by unfold fixN; split; exact mod_lt_PP _; exact h
theorem fixN_even {z : Nat} (h : z < PP) : fixN z % 2 = 0 := by
  unfold fixN
  have hp : PP % 2 = 1 := by decide
  by_cases h1 : z % 2 = 1
  · rw [if_pos h1, show (PP - z) % PP = PP - z from Nat.mod_eq_of_lt (by omega)]; omega
  · rw [if_neg h1]; omega
theorem fixN_sq {z : Nat} (h : z < PP) : (fixN z * fixN z) % PP = (z * z) % PP := by
  unfold fixN
  by_cases h1 : z % 2 = 1
  · rw [if_pos h1]; exact fr_negmul h h
  · rw [if_neg h1]
def rtG (a b x : Nat) : Option Nat := if (a * a) % PP = x then some (fixN a) else if (b * b) % PP = x then some (fixN b) else none
def rtN (x : Nat) : Option Nat := rtG (pwN x (KP + 1)) ((pwN x (KP + 1) * pwN 2 (2 * KP + 1)) % PP) x
theorem rtG_some {a b x z : Nat} (ha : a < PP) (hb : b < PP) (h : rtG a b x = some z) : z < PP ∧ (z * z) % PP = x ∧ z % 2 = 0 := by
  unfold rtG at h
  split at h
  · rename_i e
    injection h with h
    subst h
    exact ⟨fixN_lt ha, by rw [fixN_sq ha]; exact e, fixN_even ha⟩
  · split at h
    · rename_i e
      injection h with h
      subst h
      exact ⟨fixN_lt hb, by rw [fixN_sq hb]; exact e, fixN_even hb⟩
    · cases h
theorem rtG_none {a b x : Nat} (h : rtG a b x = none) : ¬ (a * a) % PP = x ∧ ¬ (b * b) % PP = x := by
  unfold rtG at h
  split at h
  · cases h
  · rename_i e1
    split at h
    · cases h
    · rename_i e2
      exact ⟨e1, e2⟩
def rootN (x : Nat) : Nat := (rtN x).getD 0
def isN (x : Nat) : Bool := (rtN x).isSome
theorem rt_some {x z : Nat} (h : rtN x = some z) : z < PP ∧ (z * z) % PP = x ∧ z % 2 = 0 := rtG_some (pwN_lt _ _) (mod_lt_PP _) h
theorem rt_none {x : Nat} (hx : x < PP) (h : rtN x = none) : ¬ F25519.IsSq (F25519.c x) := fun hs => by
  obtain ⟨e1, e2⟩ := rtG_none h
  have k := F25519.root_alg hs
  rw [show F25519.K + 1 = KP + 1 from rfl, ← c_pwN x (KP + 1), ← two_quarter, ← c_prod, ← c_prod, ← c_prod] at k
  rcases k with k | k
  · exact e1 (c_same (mod_lt_PP _) hx k)
  · exact e2 (c_same (mod_lt_PP _) hx k)
theorem rootN_lt (x : Nat) : rootN x < PP := by
  unfold rootN
  cases h : rtN x with
  | none => decide
  | some z => exact (rt_some h).1
theorem rootN_even (x : Nat) : rootN x % 2 = 0 := by
  unfold rootN
  cases h : rtN x with
  | none => rfl
  | some z => exact (rt_some h).2.2
theorem rootN_sq {x : Nat} (h : isN x = true) : (rootN x * rootN x) % PP = x := by
  unfold rootN
  unfold isN at h
  cases e : rtN x with
  | none => rw [e] at h; cases h
  | some z => exact (rt_some e).2.1
theorem rootN_none {x : Nat} (h : isN x = false) : rootN x = 0 := by
  unfold rootN
  unfold isN at h
  cases e : rtN x with
  | none => rfl
  | some z => rw [e] at h; cases h
theorem isN_iff {x : Nat} (hx : x < PP) : isN x = true ↔ F25519.IsSq (F25519.c x) := by
  constructor
  · intro h
    have e := congrArg F25519.c (rootN_sq h)
    rw [c_prod] at e
    exact ⟨_, e⟩
  · intro h
    unfold isN
    cases e : rtN x with
    | none => exact absurd h (rt_none hx e)
    | some z => rfl
theorem isN_sq (y : Nat) : isN ((y * y) % PP) = true := (isN_iff (mod_lt_PP _)).2 ⟨F25519.c y, (c_prod _ _).symm⟩
theorem root_is {x y : Nat} (hy : y < PP) (he : y % 2 = 0) (h : (y * y) % PP = x) : rootN x = y ∧ isN x = true := by
  have hi : isN x = true := by rw [← h]; exact isN_sq y
  refine ⟨?_, hi⟩
  have e := rootN_sq hi
  rw [← h] at e
  have e2 := congrArg F25519.c e
  rw [c_prod, c_prod] at e2
  apply c_same (rootN_lt _) hy
  refine F25519.even_root (by rw [← h]; exact e2) ?_ ?_
  · rw [F25519.c_val, show F25519.P = PP from rfl, Nat.mod_eq_of_lt (rootN_lt _)]; exact rootN_even _
  · rw [F25519.c_val, show F25519.P = PP from rfl, Nat.mod_eq_of_lt hy]; exact he
def ratN (u v : Nat) : Nat := if v = 0 then 0 else rootN ((u * invN v) % PP)
def fineN (u v : Nat) : Bool := if v = 0 then decide (u = 0) else isN ((u * invN v) % PP)
theorem ratN_lt (u v : Nat) : ratN u v < PP := by unfold ratN; split; decide; exact rootN_lt _
theorem ratN_even (u v : Nat) : ratN u v % 2 = 0 := by unfold ratN; split; rfl; exact rootN_even _
end Go.Proofs.Ytfejabfmhddepaa
namespace Go.Proofs.Ytfejabfmhddepaa
set_option linter.unusedVariables false
set_option maxRecDepth 100000
theorem leN_byte : ∀ (l : List UInt8) (j : Nat), leN l / 256 ^ j % 256 = (l.getD j 0).toNat
  | [], j => by simp [leN]
  | a :: l, 0 => by have := a.toNat_lt; rw [leN, Nat.pow_zero, Nat.div_one, List.getD_cons_zero]; omega
  | a :: l, j + 1 => by
    have ih := leN_byte l j
    have ha := a.toNat_lt
    have e : (a.toNat + 256 * leN l) / 256 = leN l := by omega
    rw [leN, List.getD_cons_succ, ← ih, Nat.pow_succ, Nat.mul_comm (256 ^ j) 256, ← Nat.div_div_eq_div_mul, e]
theorem fix_odd {z : Nat} (h : z % 2 = 1) : fixN z = (PP - z) % PP := if_pos h
theorem fix_even {z : Nat} (h : ¬ z % 2 = 1) : fixN z = z := if_neg h
end Go.Proofs.Ytfejabfmhddepaa
namespace Go.Proofs.Ytfejabfmhddepaa
set_option linter.unusedVariables false
set_option maxRecDepth 100000
open Pm Fl
theorem pwN_oneE {x : Nat} (hx : x < PP) : pwN x 1 = x := by
  have h := pwN_succ x 0
  rw [pwN_zero, Nat.one_mul, Nat.mod_eq_of_lt hx] at h
  exact h.symm
theorem pwN_sq {x : Nat} (hx : x < PP) : (x * x) % PP = pwN x 2 := by
  have h := pwN_succ x 1
  rwa [pwN_oneE hx] at h
theorem pwN_cube {x : Nat} (hx : x < PP) : ((x * x) % PP * x) % PP = pwN x 3 := by
  rw [pwN_sq hx, pwN_succ]
theorem pwN_nilP {n : Nat} (h : 0 < n) : pwN 0 n = 0 := by
  obtain ⟨m, rfl⟩ : ∃ m, n = m + 1 := ⟨n - 1, by omega⟩
  rw [← pwN_succ, Nat.mul_zero, Nat.zero_mod]
theorem pow2_next (x k : Nat) : (pwN x (2 ^ k) * pwN x (2 ^ k)) % PP = pwN x (2 ^ (k + 1)) := by
  rw [pwN_add, Nat.pow_succ]; congr 1; omega
theorem ones_even (x m : Nat) : (pwN (pwN x (2 ^ m - 1)) (2 ^ m) * pwN x (2 ^ m - 1)) % PP = pwN x (2 ^ (2 * m) - 1) := by
  have h1 : 1 ≤ 2 ^ m := Nat.one_le_two_pow
  rw [pwN_pw, pwN_add]
  congr 1
  rw [Nat.two_mul, Nat.pow_add, Nat.sub_mul]
  have h2 : 2 ^ m ≤ 2 ^ m * 2 ^ m := Nat.le_mul_of_pos_left _ h1
  omega
theorem ones_odd {x : Nat} (m : Nat) : ((pwN x (2 ^ (2 * m) - 1) * pwN x (2 ^ (2 * m) - 1)) % PP * x) % PP = pwN x (2 ^ (2 * m + 1) - 1) := by
  have h1 : 1 ≤ 2 ^ (2 * m) := Nat.one_le_two_pow
  rw [pwN_add, pwN_succ]
  congr 1
  rw [Nat.pow_succ]
  omega
theorem ones_eighth : (2 ^ 250 - 1) * 2 ^ 2 + 1 = KP := by decide +kernel
theorem inv_eighth : KP * 2 ^ 3 + 3 = PP - 2 := by decide +kernel
theorem K_pos : 0 < KP := by decide +kernel
theorem eighth_is {x : Nat} : (pwN (pwN x (2 ^ 250 - 1)) (2 ^ 2) * x) % PP = pwN x KP := by
  rw [← ones_eighth]
  generalize 2 ^ 250 - 1 = e
  rw [pwN_pw, pwN_succ]
theorem invert_is {x : Nat} (hx : x < PP) : (pwN (pwN x KP) (2 ^ 3) * (((x * x) % PP * x) % PP)) % PP = invN x := by
  unfold invN
  rw [pwN_cube hx, pwN_pw, pwN_add, ← inv_eighth]
def qI : Nat := 19681161376707505956807079304988542015446066515923890162744021073123829784752
theorem qI_c : F25519.c qI = F25519.iV := by apply Fin.ext; decide +kernel
theorem ratio_is {u v z : Nat} (hu : u < PP) (hv : v < PP) (hz : z < PP) (h : (v * ((z * z) % PP)) % PP = u) (h0 : v = 0 → z = 0) : ratN u v = fixN z ∧ fineN u v = true := by
  unfold ratN fineN
  by_cases e : v = 0
  · have hz0 := h0 e
    subst e hz0
    rw [Nat.zero_mul, Nat.zero_mod] at h
    rw [if_pos rfl, if_pos rfl, ← h]
    exact ⟨rfl, rfl⟩
  · rw [if_neg e, if_neg e]
    have i := congrArg F25519.c (inv_right hv e)
    rw [c_prod, c_one] at i
    have hzz : (fixN z * fixN z) % PP = (u * invN v) % PP := by
      rw [fixN_sq hz]
      apply c_same (mod_lt_PP _) (mod_lt_PP _)
      rw [c_prod u, ← h, c_prod v, c_modP (z * z)]
      generalize F25519.c (z * z) = q at *
      generalize F25519.c (invN v) = y at *
      generalize F25519.c v = t at *
      rw [mul_assoc_, mul_comm_ q y, ← mul_assoc_, i, one_mul_]
    exact root_is (fixN_lt hz) (fixN_even hz) hzz
theorem ratio_alg {N : Nat} [NeZero N] (k : Nat) (a b : Fin N) : b * ((a * (a * b) ^ k) * (a * (a * b) ^ k)) = a * (a * b) ^ (2 * k + 1) := by
  rw [F25519.pw_add, F25519.pw_one, Nat.two_mul, F25519.pw_add]
  generalize (a * b) ^ k = q
  grind
theorem times_negone {N : Nat} [NeZero N] (q : Fin N) : q * -1 = -q := by grind
theorem ratio_found {u v : Nat} : F25519.c ((v * (((u * pwN ((u * v) % PP) KP) % PP * ((u * pwN ((u * v) % PP) KP) % PP)) % PP)) % PP) = F25519.c u * (F25519.c u * F25519.c v) ^ (2 * KP + 1) := by
  rw [c_prod, c_prod, c_prod, c_pwN, c_prod, ratio_alg]
theorem ratio_zero {u : Nat} : (u * pwN ((u * 0) % PP) KP) % PP = 0 := by
  rw [Nat.mul_zero, Nat.zero_mod, pwN_nilP K_pos, Nat.mul_zero, Nat.zero_mod]
theorem ratio_none {u v f : Nat} (hu : u < PP) (hv : v < PP) (hf : F25519.c f = F25519.c u * (F25519.c u * F25519.c v) ^ (2 * KP + 1)) (hl : f < PP) (h1 : ¬ f = u) (h2 : ¬ f = (PP - u) % PP) : ratN u v = 0 ∧ fineN u v = false := by
  have hu0 : u ≠ 0 := by
    rintro rfl
    apply h1
    apply c_same hl hu
    rw [hf, c_zero, zero_mul_]
  have key : ¬ (v ≠ 0 ∧ F25519.IsSq (F25519.c ((u * invN v) % PP))) := by
    rintro ⟨hv0, s, hs⟩
    have i := congrArg F25519.c (inv_right hv hv0)
    rw [c_prod, c_one] at i
    rw [c_prod] at hs
    have eu : F25519.c u = F25519.c v * (s * s) := by
      rw [hs]
      generalize F25519.c (invN v) = y at *
      generalize F25519.c v = t at *
      generalize F25519.c u = q at *
      rw [mul_comm_ q y, ← mul_assoc_, i, one_mul_]
    have ew : F25519.c u * F25519.c v = (F25519.c v * s) * (F25519.c v * s) := by
      rw [eu]
      generalize F25519.c v = t
      grind
    have hcu : F25519.c u ≠ 0 := fun e => hu0 ((c_eq_zeroP hu).1 e)
    have ht : F25519.c v * s ≠ 0 := by
      intro e
      rw [e, mul_zero_] at ew
      rcases F25519.mul_zero_or ew with g | g
      · exact hcu g
      · exact hv0 ((c_eq_zeroP hv).1 g)
    have hh := F25519.half_sq ht
    rw [show 4 * F25519.K + 2 = 2 * KP + 1 + (2 * KP + 1) by show 4 * KP + 2 = _; omega, F25519.pw_add, ← F25519.mul_pw, ← ew] at hh
    rcases hh with g | g
    · rw [g, mul_one_] at hf
      exact h1 (c_same hl hu hf)
    · rw [g] at hf
      apply h2
      apply c_same hl (mod_lt_PP _)
      rw [hf, c_negP hu, times_negone]
  unfold ratN fineN
  by_cases e : v = 0
  · rw [if_pos e, if_pos e]
    exact ⟨rfl, decide_eq_false hu0⟩
  · rw [if_neg e, if_neg e]
    have hno : isN ((u * invN v) % PP) = false := by
      cases hh : isN ((u * invN v) % PP) with
      | false => rfl
      | true => exact absurd ⟨e, (isN_iff (mod_lt_PP _)).1 hh⟩ key
    exact ⟨rootN_none hno, hno⟩
theorem ratio_second {u v r : Nat} (hu : u < PP) (h : (v * ((r * r) % PP)) % PP = (PP - u) % PP) : (v * (((r * qI) % PP * ((r * qI) % PP)) % PP)) % PP = u := by
  apply c_same (mod_lt_PP _) hu
  have e := congrArg F25519.c h
  rw [c_prod, c_prod, c_negP hu] at e
  rw [c_prod, c_prod, c_prod, qI_c]
  have i := F25519.i_sq
  generalize F25519.iV = j at *
  generalize F25519.c r = q at *
  generalize F25519.c v = t at *
  have e2 : t * (q * j * (q * j)) = (t * (q * q)) * (j * j) := by grind
  rw [e2, e, i]
  grind
end Go.Proofs.Ytfejabfmhddepaa

namespace Go.Proofs.Ytfejabfmhddepaa
set_option linter.unusedVariables false
set_option maxRecDepth 100000
open Pm Fl
abbrev PtD : Type := Ed.Pt F25519.dV
abbrev padd (p q : PtD) : PtD := Ed.Pt.add F25519.full p q
abbrev pzero : PtD := Ed.Pt.zero F25519.dV
theorem c_plus (a b : Nat) : F25519.c ((a + b) % PP) = F25519.c a + F25519.c b := by rw [c_modP, F25519.c_add]
theorem c_less {a b : Nat} (h : b < PP) : F25519.c ((a + (PP - b)) % PP) = F25519.c a - F25519.c b := by rw [c_modP]; exact F25519.c_sub (Nat.le_of_lt h)
structure Co (X Y Z T : Nat) (p : PtD) : Prop where
  x : X < PP
  y : Y < PP
  z : Z < PP
  t : T < PP
  rep : Ed.Rep (F25519.c X) (F25519.c Y) (F25519.c Z) (F25519.c T) p
def edG (v : Nat) : Nat := ((PP - 121665) % PP * v) % PP
theorem edG_lt (v : Nat) : edG v < PP := by unfold edG; exact mod_lt_PP _
def edN : Nat := edG (invN 121666)
theorem edN_lt : edN < PP := edG_lt (invN 121666)
theorem c_num1 : F25519.c 121665 = (121665 : Fin F25519.P) := Fin.ext (by decide +kernel)
theorem c_num2 : F25519.c 121666 = (121666 : Fin F25519.P) := Fin.ext (by decide +kernel)
theorem num1_lt : 121665 < PP := by decide
theorem num2_lt : 121666 < PP := by decide
theorem num2_ne : (121666 : Fin F25519.P) ≠ 0 := by
  intro h
  have := congrArg Fin.val h
  revert this
  decide +kernel
theorem ed_alg {a b d : Fin F25519.P} (h : b * d = -a) (hb : b ≠ 0) : -a * inv b = d := by
  rw [← h, mul_comm_ b, mul_assoc_, mul_inv F25519.prP hb, mul_one_]
theorem c_edG (v : Nat) : F25519.c (edG v) = -F25519.c 121665 * F25519.c v := by
  unfold edG
  rw [c_prod, c_negP num1_lt]
theorem c_edN : F25519.c edN = F25519.dV := by
  have h := c_edG (invN 121666)
  rw [c_invN num2_lt, c_num1, c_num2, ed_alg F25519.d_def num2_ne] at h
  exact h
theorem c_edN2 : F25519.c ((edN + edN) % PP) = F25519.dV + F25519.dV := by rw [c_plus, c_edN]
theorem co_add {X1 Y1 Z1 T1 X2 Y2 Z2 T2 A B C D E F G H : Nat} {p q : PtD} (h1 : Co X1 Y1 Z1 T1 p) (h2 : Co X2 Y2 Z2 T2 q)
    (hA : ((Y1 + (PP - X1)) % PP * ((Y2 + (PP - X2)) % PP)) % PP = A) (hB : ((Y1 + X1) % PP * ((Y2 + X2) % PP)) % PP = B)
    (hC : ((T1 * T2) % PP * ((edN + edN) % PP)) % PP = C) (hD : ((Z1 + Z1) % PP * Z2) % PP = D)
    (hE : (B + (PP - A)) % PP = E) (hF : (D + (PP - C)) % PP = F) (hG : (D + C) % PP = G) (hH : (B + A) % PP = H) :
    Co ((E * F) % PP) ((G * H) % PP) ((F * G) % PP) ((E * H) % PP) (padd p q) := by
  refine ⟨mod_lt_PP _, mod_lt_PP _, mod_lt_PP _, mod_lt_PP _, ?_⟩
  have r := Ed.rep_add F25519.full h1.rep h2.rep
  have lA : A < PP := by rw [← hA]; exact mod_lt_PP _
  have lC : C < PP := by rw [← hC]; exact mod_lt_PP _
  have eA : F25519.c A = (F25519.c Y1 - F25519.c X1) * (F25519.c Y2 - F25519.c X2) := by rw [← hA, c_prod, c_less h1.x, c_less h2.x]
  have eB : F25519.c B = (F25519.c Y1 + F25519.c X1) * (F25519.c Y2 + F25519.c X2) := by rw [← hB, c_prod, c_plus, c_plus]
  have eC : F25519.c C = F25519.c T1 * F25519.c T2 * (F25519.dV + F25519.dV) := by rw [← hC, c_prod, c_prod, c_edN2]
  have eD : F25519.c D = (F25519.c Z1 + F25519.c Z1) * F25519.c Z2 := by rw [← hD, c_prod, c_plus]
  rw [c_prod, c_prod, c_prod, c_prod, ← hE, ← hF, ← hG, ← hH, c_less lA, c_less lC, c_plus, c_plus, eA, eB, eC, eD]
  exact r
theorem co_neg {X Y Z T : Nat} {p : PtD} (h : Co X Y Z T p) : Co ((PP - X) % PP) Y Z ((PP - T) % PP) p.neg :=
  ⟨mod_lt_PP _, h.y, h.z, mod_lt_PP _, by rw [c_negP h.x, c_negP h.t]; exact Ed.rep_neg h.rep⟩
theorem co_zero : Co 0 1 1 0 pzero := ⟨by decide, by decide, by decide, by decide, Ed.rep_zero F25519.prP _⟩
theorem co_of {x y : Nat} {p : PtD} (hx : p.x.val = x) (hy : p.y.val = y) : Co x y 1 ((x * y) % PP) p := by
  have ex : F25519.c x = p.x := by rw [← hx]; exact F25519.c_of _
  have ey : F25519.c y = p.y := by rw [← hy]; exact F25519.c_of _
  refine ⟨by rw [← hx]; exact p.x.isLt, by rw [← hy]; exact p.y.isLt, by decide, mod_lt_PP _, ?_⟩
  rw [c_prod, ex, ey, c_one]
  exact Ed.rep_one F25519.full p
theorem co_enc {X Y Z T : Nat} {p : PtD} (h : Co X Y Z T p) : (X * invN Z) % PP = p.x.val ∧ (Y * invN Z) % PP = p.y.val := by
  obtain ⟨hx, hy⟩ := Ed.rep_inv F25519.full h.rep
  constructor
  · exact c_same (mod_lt_PP _) p.x.isLt (by rw [c_prod, c_invN h.z, F25519.c_of]; exact hx)
  · exact c_same (mod_lt_PP _) p.y.isLt (by rw [c_prod, c_invN h.z, F25519.c_of]; exact hy)
theorem co_same {X1 Y1 Z1 T1 X2 Y2 Z2 T2 : Nat} {p q : PtD} (h1 : Co X1 Y1 Z1 T1 p) (h2 : Co X2 Y2 Z2 T2 q) :
    ((X1 * Z2) % PP = (X2 * Z1) % PP ∧ (Y1 * Z2) % PP = (Y2 * Z1) % PP) ↔ p = q := by
  rw [← Ed.rep_same F25519.full h1.rep h2.rep, ← F25519.c_mul, ← F25519.c_mul, ← F25519.c_mul, ← F25519.c_mul]
  constructor
  · rintro ⟨a, b⟩
    exact ⟨by rw [← c_modP (X1 * Z2), a, c_modP], by rw [← c_modP (Y1 * Z2), b, c_modP]⟩
  · rintro ⟨a, b⟩
    exact ⟨c_same (mod_lt_PP _) (mod_lt_PP _) (by rw [c_modP, c_modP]; exact a), c_same (mod_lt_PP _) (mod_lt_PP _) (by rw [c_modP, c_modP]; exact b)⟩
theorem enc_num (p : PtD) : F25519.encN p = p.y.val + p.x.val % 2 * TT := rfl
end Go.Proofs.Ytfejabfmhddepaa

namespace Go.Proofs.Ytfejabfmhddepaa
set_option linter.unusedVariables false
set_option maxRecDepth 100000
open Pm Fl
def upN (y : Nat) : Nat := ((y * y) % PP + (PP - 1)) % PP
def dnN (y : Nat) : Nat := ((edN * ((y * y) % PP)) % PP + 1) % PP
theorem dnN_lt (y : Nat) : dnN y < PP := by unfold dnN; exact mod_lt_PP _
theorem c_upN (y : Nat) : F25519.c (upN y) = F25519.c y * F25519.c y - 1 := by
  unfold upN
  rw [c_less (by decide), c_prod, c_one]
theorem c_dnN (y : Nat) : F25519.c (dnN y) = F25519.dV * (F25519.c y * F25519.c y) + 1 := by
  unfold dnN
  rw [c_plus, c_prod, c_prod, c_edN, c_one]
theorem dnN_ne (y : Nat) : dnN y ≠ 0 := fun h => by
  have e := c_dnN y
  rw [h, c_zero] at e
  exact Ed.den_ne F25519.full _ e.symm
theorem fine_is (y : Nat) : fineN (upN y) (dnN y) = isN ((upN y * invN (dnN y)) % PP) := by unfold fineN; rw [if_neg (dnN_ne y)]
theorem rat_is (y : Nat) : ratN (upN y) (dnN y) = rootN ((upN y * invN (dnN y)) % PP) := by unfold ratN; rw [if_neg (dnN_ne y)]
theorem c_quot (y : Nat) : F25519.c ((upN y * invN (dnN y)) % PP) = (F25519.c y * F25519.c y - 1) * inv (F25519.dV * (F25519.c y * F25519.c y) + 1) := by
  rw [c_prod, c_invN (dnN_lt y), c_upN, c_dnN]
theorem point_of {y : Nat} (hy : y < PP) (h : fineN (upN y) (dnN y) = true) (s : Bool) (hs : ratN (upN y) (dnN y) = 0 → s = false) :
    ∃ p : PtD, F25519.encN p = y + (if s then 1 else 0) * TT ∧ p.y.val = y ∧ p.x.val = (if s then (PP - ratN (upN y) (dnN y)) % PP else ratN (upN y) (dnN y)) := by
  have hl := ratN_lt (upN y) (dnN y)
  have he := ratN_even (upN y) (dnN y)
  have hq : F25519.c (ratN (upN y) (dnN y)) * F25519.c (ratN (upN y) (dnN y)) = (F25519.c y * F25519.c y - 1) * inv (F25519.dV * (F25519.c y * F25519.c y) + 1) := by
    rw [fine_is] at h
    rw [← c_quot, rat_is, ← c_prod, rootN_sq h]
  obtain ⟨r, hr⟩ : ∃ r, ratN (upN y) (dnN y) = r := ⟨_, rfl⟩
  rw [hr] at hl he hq hs ⊢
  have hv : (F25519.c r).val = r := by rw [F25519.c_val]; exact Nat.mod_eq_of_lt hl
  have hyv : (F25519.c y).val = y := by rw [F25519.c_val]; exact Nat.mod_eq_of_lt hy
  have ho := (Ed.x_of_y F25519.full).2 hq
  refine ⟨F25519.ptOf (F25519.c r) (F25519.c y) ho s, ?_, hyv, ?_⟩
  · have := F25519.enc_ptOf ho (by rw [hv]; exact he) s (fun g => hs ((c_eq_zeroP hl).1 g))
    rw [this, hyv]
  · cases s with
    | false => exact hv
    | true =>
      show (-F25519.c r).val = (PP - r) % PP
      have e : F25519.c ((PP - r) % PP) = -F25519.c r := c_negP hl
      rw [← e, F25519.c_val]
      exact Nat.mod_eq_of_lt (mod_lt_PP _)
end Go.Proofs.Ytfejabfmhddepaa

namespace Go.Proofs.Ytfejabfmhddepaa
set_option linter.unusedVariables false
set_option maxRecDepth 100000
open Pm Fl
def decS (l : List UInt8) : Bool := decide (127 < (l.getD 31 0).toNat)
theorem enc_set {y : Nat} (h : y < TT) : (leB 32 y).set 31 ((leB 32 y).getD 31 0 + 128) = leB 32 (y + TT) := by
  have hlen := leB_len 32 y
  have h2 := two256
  apply leN_inj (by rw [List.length_set, leB_len, leB_len])
  have hs := leN_set (leB 32 y) 31 ((leB 32 y).getD 31 0 + 128) (by rw [hlen]; omega)
  have hg := leB_get 32 y 31 (by omega)
  have hd : y / 256 ^ 31 < 128 := by rw [P31]; unfold TT at h; omega
  have ht : ((leB 32 y).getD 31 0).toNat = y / 256 ^ 31 := by rw [hg]; simp; omega
  have hx : ((leB 32 y).getD 31 0 + 128).toNat = y / 256 ^ 31 + 128 := by rw [UInt8.toNat_add, ht]; simp; omega
  rw [hx, ht, leN_leB 32 y (by omega)] at hs
  rw [leN_leB 32 (y + TT) (by omega)]
  rw [P31] at hs
  unfold TT
  omega
theorem enc_bytes (p : PtD) : leB 32 (F25519.encN p) = if p.x.val % 2 = 1 then (leB 32 p.y.val).set 31 ((leB 32 p.y.val).getD 31 0 + 128) else leB 32 p.y.val := by
  have hy : p.y.val < TT := Nat.lt_trans p.y.isLt F25519.P_lt
  rw [enc_num]
  by_cases g : p.x.val % 2 = 1
  · rw [if_pos g, g, enc_set hy, Nat.one_mul]
  · rw [if_neg g, show p.x.val % 2 = 0 by omega, Nat.zero_mul, Nat.add_zero]
end Go.Proofs.Ytfejabfmhddepaa

namespace Go.Proofs.Ytfejabfmhddepaa
set_option linter.unusedVariables false
set_option maxRecDepth 100000
open Pm Fl
theorem bY_lt : F25519.bY < PP := by decide +kernel
theorem bX_lt : F25519.bX < PP := by decide +kernel
theorem base_yv : F25519.base.y.val = F25519.bY := by
  show (F25519.c F25519.bY).val = F25519.bY
  rw [F25519.c_val]; exact Nat.mod_eq_of_lt bY_lt
theorem base_xv : F25519.base.x.val = F25519.bX := by
  show (F25519.c F25519.bX).val = F25519.bX
  rw [F25519.c_val]; exact Nat.mod_eq_of_lt bX_lt
theorem base_co : Co F25519.bX F25519.bY 1 ((F25519.bX * F25519.bY) % PP) F25519.base := co_of base_xv base_yv
end Go.Proofs.Ytfejabfmhddepaa

namespace Go.Proofs.Ytfejabfmhddepaa
open Go.RowKit
set_option linter.unusedVariables false
set_option maxRecDepth 100000
structure NormI (w wr : World) (g : Nat) (z0 T : Array Value) : Prop where
  t : wr.heap[g]? = some (.cells T 31 (0, 0))
  z : wr.heap[g + 1]? = some (.cells z0 31 (0, 0))
  below : Below g w wr
theorem NormI.lt {w wr : World} {g : Nat} {z0 T : Array Value} (h : NormI w wr g z0 T) : g + 1 < wr.heap.size := (Array.getElem?_eq_some_iff.1 h.z).1
theorem NormI.drew {w wr : World} {g : Nat} {z0 T : Array Value} (h : NormI w wr g z0 T) : NormI w wr.drew g z0 T := ⟨h.t, h.z, h.below.drew⟩
theorem NormI.cell {w wr : World} {g : Nat} {z0 T : Array Value} (h : NormI w wr g z0 T) (k : Nat) (v : Value) : NormI w (wr.setCell ⟨g, k, none⟩ v) g z0 (T.setIfInBounds k v) := by
  have e := setCell_eq_setRow wr g k _ _ _ v h.t
  exact ⟨by rw [e, setRow_heap _ _ _ _ _ _ h.t], by rw [e, setRow_other _ _ _ _ (by omega)]; exact h.z, h.below.setCell (p := ⟨g, k, none⟩) (Nat.le_refl _) _⟩
theorem NormI.call {w wr W : World} {g : Nat} {z0 T : Array Value} (h : NormI w wr g z0 T) (hb : Below wr.heap.size wr W) : NormI w W g z0 T := by
  have hl := h.lt
  exact ⟨by rw [hb.block _ (by omega)]; exact h.t, by rw [hb.block _ (by omega)]; exact h.z, h.below.trans (hb.mono (by omega))⟩
theorem NormI.row {w wr : World} {g : Nat} {z0 T : Array Value} (h : NormI w wr g z0 T) (o : Obj) (M : Array Value) : NormI w ((wr.alloc o).setRow wr.heap.size M) g z0 T := by
  have hl := h.lt
  refine ⟨?_, ?_, below_row (h.below.alloc (by omega) _) (by omega)⟩
  · rw [setRow_other _ _ _ _ (by omega), heap_alloc_old _ _ (by omega)]; exact h.t
  · rw [setRow_other _ _ _ _ (by omega), heap_alloc_old _ _ (by omega)]; exact h.z
theorem NormI.set {w wr : World} {g : Nat} {z0 T : Array Value} (h : NormI w wr g z0 T) (S : Array Value) : NormI w (wr.setRow (g + 1) S) g S T :=
  ⟨by rw [setRow_other _ _ _ _ (by omega)]; exact h.t, setRow_heap _ _ _ _ _ _ h.z, below_row h.below (by omega)⟩
end Go.Proofs.Ytfejabfmhddepaa
namespace Go.Proofs.Ytfejabfmhddepaa
open Go.RowKit
set_option linter.unusedVariables false
set_option maxRecDepth 100000
structure AddI (w wr : World) (g : Nat) (X Y z0 : Array Value) : Prop where
  x : wr.heap[g]? = some (.cells X 31 (0, 0))
  y : wr.heap[g + 1]? = some (.cells Y 31 (0, 0))
  z : wr.heap[g + 1 + 1]? = some (.cells z0 31 (0, 0))
  below : Below g w wr
theorem AddI.lt {w wr : World} {g : Nat} {X Y z0 : Array Value} (h : AddI w wr g X Y z0) : g + 1 + 1 < wr.heap.size := (Array.getElem?_eq_some_iff.1 h.z).1
theorem AddI.drew {w wr : World} {g : Nat} {X Y z0 : Array Value} (h : AddI w wr g X Y z0) : AddI w wr.drew g X Y z0 := ⟨h.x, h.y, h.z, h.below.drew⟩
theorem AddI.cell {w wr : World} {g : Nat} {X Y z0 : Array Value} (h : AddI w wr g X Y z0) (k : Nat) (v : Value) : AddI w (wr.setCell ⟨g, k, none⟩ v) g (X.setIfInBounds k v) Y z0 := by
  have e := setCell_eq_setRow wr g k _ _ _ v h.x
  exact ⟨by rw [e, setRow_heap _ _ _ _ _ _ h.x], by rw [e, setRow_other _ _ _ _ (by omega)]; exact h.y, by rw [e, setRow_other _ _ _ _ (by omega)]; exact h.z, h.below.setCell (p := ⟨g, k, none⟩) (Nat.le_refl _) _⟩
theorem AddI.call {w wr W : World} {g : Nat} {X Y z0 : Array Value} (h : AddI w wr g X Y z0) (hb : Below wr.heap.size wr W) : AddI w W g X Y z0 := by
  have hl := h.lt
  exact ⟨by rw [hb.block _ (by omega)]; exact h.x, by rw [hb.block _ (by omega)]; exact h.y, by rw [hb.block _ (by omega)]; exact h.z, h.below.trans (hb.mono (by omega))⟩
theorem AddI.row {w wr : World} {g : Nat} {X Y z0 : Array Value} (h : AddI w wr g X Y z0) (o : Obj) (M : Array Value) : AddI w ((wr.alloc o).setRow wr.heap.size M) g X Y z0 := by
  have hl := h.lt
  refine ⟨?_, ?_, ?_, below_row (h.below.alloc (by omega) _) (by omega)⟩
  · rw [setRow_other _ _ _ _ (by omega), heap_alloc_old _ _ (by omega)]; exact h.x
  · rw [setRow_other _ _ _ _ (by omega), heap_alloc_old _ _ (by omega)]; exact h.y
  · rw [setRow_other _ _ _ _ (by omega), heap_alloc_old _ _ (by omega)]; exact h.z
end Go.Proofs.Ytfejabfmhddepaa

namespace Go.Proofs.Ytfejabfmhddepaa
open Go.RowKit
set_option linter.unusedVariables false
set_option maxRecDepth 100000
def Us (w : World) (A : Option Addr) (l : List Nat) : Prop :=
  0 < l.length → ∃ b o, A = some ⟨b, o, none⟩ ∧ ∀ j, j < l.length → w.cell? ⟨b, o + j, none⟩ = some (.int .u64 ((l.getD j 0 : Nat) : Int))
theorem Us.nil_ (w : World) (A : Option Addr) : Us w A [] := fun h => absurd h (by simp)
theorem Us.at_ {w : World} {A : Option Addr} {l : List Nat} (h : Us w A l) {k : Nat} (hk : k < l.length) :
    ∃ b o, A = some ⟨b, o, none⟩ ∧ w.cell? ⟨b, o + k, none⟩ = some (.int .u64 ((l.getD k 0 : Nat) : Int)) := by
  obtain ⟨b, o, e, hc⟩ := h (by omega)
  exact ⟨b, o, e, hc k hk⟩
theorem Us.drewN {w : World} {A : Option Addr} {l : List Nat} (h : Us w A l) (n : Nat) : Us (w.drewN n) A l := h
theorem Us.below {w w' : World} {A : Option Addr} {l : List Nat} (h : Us w A l) (hb : Below w.heap.size w w') : Us w' A l := fun hl => by
  obtain ⟨b, o, e, hc⟩ := h hl
  refine ⟨b, o, e, fun j hj => ?_⟩
  have hcj := hc j hj
  have hlt := World.block_lt_of_cell? w _ hcj
  rw [hb.cell hlt]
  exact hcj
def uval (x : Nat) : Value := .int .u64 (x : Int)
def Uo (E : TypeId) (w : World) (base : Nat) (v : Value) (l : List Nat) : Prop := w.ownsRow base E 1 v l.length (l.map uval)
theorem Uo.nil_ (E : TypeId) (w : World) (base : Nat) : Uo E w base (.slice none 0 0) [] := World.ownsRow_nil w base E 1
theorem Uo.form {E : TypeId} {w : World} {base : Nat} {v : Value} {l : List Nat} (h : Uo E w base v l) :
    ∃ A c, v = .slice A l.length c ∧ Us w A l ∧ (A = none ∨ ∃ g, A = some ⟨g, 0, none⟩ ∧ base ≤ g ∧ g < w.heap.size) := by
  rcases h.2 with ⟨rfl, hn⟩ | ⟨g, cap, cur, rfl, hb, hg, hnc, hcm, hcs, htake⟩
  · have : l = [] := List.eq_nil_of_length_eq_zero hn
    subst this
    exact ⟨none, 0, rfl, Us.nil_ _ _, .inl rfl⟩
  · refine ⟨_, cap, rfl, fun hl => ⟨g, 0, rfl, fun j hj => ?_⟩, .inr ⟨g, rfl, hb, (Array.getElem?_eq_some_iff.1 hg).1⟩⟩
    have := World.ownsRow.cellAt h j (by omega)
    rw [Nat.zero_add, this, List.getElem?_map, List.getElem?_eq_getElem hj]
    simp [uval, List.getD, List.getElem?_eq_getElem hj]
theorem Uo.bs {E : TypeId} {w : World} {base : Nat} {A : Option Addr} {n c : Nat} {l : List Nat} (h : Uo E w base (.slice A n c) l) : Us w A l := by
  obtain ⟨A', c', e, hb, _⟩ := h.form
  injection e with e1 e2 e3
  subst e1
  exact hb
theorem Uo.below {E : TypeId} {w w' : World} {base : Nat} {v : Value} {l : List Nat} (h : Uo E w base v l) (hb : Below w.heap.size w w') : Uo E w' base v l := by
  refine ⟨h.1, ?_⟩
  rcases h.2 with hn | ⟨g, cap, cur, rfl, hb', hg, rest⟩
  · exact .inl hn
  · refine .inr ⟨g, cap, cur, rfl, hb', ?_, rest⟩
    rw [hb.block g (Array.getElem?_eq_some_iff.1 hg).1]
    exact hg
theorem Uo.drewN {E : TypeId} {w : World} {base : Nat} {v : Value} {l : List Nat} (h : Uo E w base v l) (n : Nat) : Uo E (w.drewN n) base v l := h
theorem Uo.low {E : TypeId} {w : World} {base base' : Nat} {v : Value} {l : List Nat} (h : Uo E w base v l) (hb : base' ≤ base) : Uo E w base' v l := by
  refine ⟨h.1, ?_⟩
  rcases h.2 with hn | ⟨g, cap, cur, rfl, hb', rest⟩
  · exact .inl hn
  · exact .inr ⟨g, cap, cur, rfl, by omega, rest⟩
theorem Uo.len {E : TypeId} {w : World} {base : Nat} {A : Option Addr} {n c : Nat} {l : List Nat} (h : Uo E w base (.slice A n c) l) : n = l.length := by
  obtain ⟨A', c', e, _, _⟩ := h.form
  injection e with e1 e2 e3
end Go.Proofs.Ytfejabfmhddepaa
namespace Go.Proofs.Ytfejabfmhddepaa
open Go.RowKit
set_option linter.unusedVariables false
set_option maxRecDepth 100000
set_option maxHeartbeats 1600000 in
theorem mul_any (x y : Nat) (hx : x < 18446744073709551616) (hy : y < 18446744073709551616) (w : World) :
    Calls Try.prog 90 #[.int .u64 x, .int .u64 y] w fun e w' => e = .returned (.tuple #[.int .u64 ((x * y / 18446744073709551616 : Nat) : Int), .int .u64 ((x * y % 18446744073709551616 : Nat) : Int)]) ∧ w' = w := by
  obtain ⟨bd, bt, bw, hhi⟩ := Lib.mul64_hi x y hx hy
  have ba := Lib.half_mul_le (a := x / 4294967296) (b := y / 4294967296) (by omega) (by omega)
  have bb := Lib.half_mul_le (a := x / 4294967296) (b := y % 4294967296) (by omega) (by omega)
  have bc := Lib.half_mul_le (a := x % 4294967296) (b := y / 4294967296) (by omega) (by omega)
  have ba' : x / 4294967296 * (y / 4294967296) < 18446744073709551616 := by omega
  have bb' : x / 4294967296 * (y % 4294967296) < 18446744073709551616 := by omega
  have bc' : x % 4294967296 * (y / 4294967296) < 18446744073709551616 := by omega
  have bh1 : x / 4294967296 * (y / 4294967296) + (x / 4294967296 * (y % 4294967296) + x % 4294967296 * (y % 4294967296) / 4294967296) / 4294967296 < 18446744073709551616 := by omega
  have bh : x / 4294967296 * (y / 4294967296) + (x / 4294967296 * (y % 4294967296) + x % 4294967296 * (y % 4294967296) / 4294967296) / 4294967296 + ((x / 4294967296 * (y % 4294967296) + x % 4294967296 * (y % 4294967296) / 4294967296) % 4294967296 + x % 4294967296 * (y / 4294967296)) / 4294967296 < 18446744073709551616 := by omega
  go_enter Try.func90, Try.ntmps90
  go_wp2
  simp only [Mul64.maskN x hx, Mul64.maskN y hy, Mul64.divN, Mul64.mulN, Mul64.addN, Mul64.wrapN _ bd, Mul64.wrapN _ bb', Mul64.wrapN _ bt, Mul64.maskN _ bt, Mul64.wrapN _ bc', Mul64.wrapN _ bw, Mul64.wrapN _ ba', Mul64.wrapN _ bh1, Mul64.wrapN _ bh, Mul64.wrapM (x * y)]
  rw [hhi]
  go_ret2
  exact ⟨rfl, rfl⟩
theorem mul_ex (x y : Nat) (hx : x < 18446744073709551616) (hy : y < 18446744073709551616) : ∃ h l : Nat,
    Hid (∀ w : World, Calls Try.prog 90 #[.int .u64 (x : Int), .int .u64 (y : Int)] w fun e w' => e = .returned (.tuple #[.int .u64 (h : Int), .int .u64 (l : Int)]) ∧ w' = w) ∧
    h * 18446744073709551616 + l = x * y ∧ l < 18446744073709551616 ∧ h < 18446744073709551616 := by
  have hxy : x * y ≤ 18446744073709551615 * 18446744073709551615 := Nat.mul_le_mul (by omega) (by omega)
  exact ⟨_, _, Lib.hid (mul_any x y hx hy), by omega, by omega, by omega⟩
theorem add_ex (x y c : Nat) (hc : c ≤ 1) : ∃ z d : Nat,
    (∀ w : World, (callFunc 91 #[.int .u64 (x : Int), .int .u64 (y : Int), .int .u64 (c : Int)]).run Try.prog w = .ok (.value (.tuple #[.int .u64 (z : Int), .int .u64 (d : Int)])) w) ∧
    z + d * 18446744073709551616 = x + y + c ∧ z < 18446744073709551616 := by
  refine ⟨(x + y + c) % 18446744073709551616, (x + y + c) / 18446744073709551616, fun w => ?_, by omega, by omega⟩
  rw [run_callFunc_extern Try.func91 (by kernel_rfl) (by kernel_rfl) (by kernel_rfl) (e := add64Entry) (by kernel_rfl), run_add64 x y c (by omega) (by omega) (by omega) (by omega)]
  simp only [Result.andThen]
  congr 5 <;> omega
theorem sub_ex (x y b : Nat) (hx : x < 18446744073709551616) (hy : y < 18446744073709551616) (hb : b ≤ 1) : ∃ z d : Nat,
    (∀ w : World, (callFunc 97 #[.int .u64 (x : Int), .int .u64 (y : Int), .int .u64 (b : Int)]).run Try.prog w = .ok (.value (.tuple #[.int .u64 (z : Int), .int .u64 (d : Int)])) w) ∧
    z + y + b = x + d * 18446744073709551616 ∧ z < 18446744073709551616 ∧ d ≤ 1 := by
  refine ⟨(x + 18446744073709551616 - y - b) % 18446744073709551616, if x < y + b then 1 else 0, fun w => ?_, by split <;> omega, by omega, by split <;> omega⟩
  rw [run_callFunc_extern Try.func97 (by kernel_rfl) (by kernel_rfl) (by kernel_rfl) (e := sub64Entry) (by kernel_rfl), run_sub64 x y b hb]
  rfl
end Go.Proofs.Ytfejabfmhddepaa
namespace Go.Proofs.Ytfejabfmhddepaa
set_option linter.unusedVariables false
set_option maxRecDepth 100000
def grt (F : Nat → Bool) : Nat → Nat → Nat
  | 0, r => r
  | k + 1, r => grt F k (if F (r + 2 ^ k) then r + 2 ^ k else r)
def sc (c : Bool) : Nat := if c then 6277101735386680763835789423207666416102355444464034512896 else 340282366920938463463374607431768211456
def ex (c : Bool) (a x : Nat) : Nat :=
  if c then ((3 * a * 18446744073709551616 + x) * x + 3 * a * a * 340282366920938463463374607431768211456) * x else (2 * a * 18446744073709551616 + x) * x
def fr (c : Bool) (a rest : Nat) : Nat := grt (fun x => decide (ex c a x ≤ rest * sc c)) 64 0
end Go.Proofs.Ytfejabfmhddepaa
namespace Go.Proofs.Ytfejabfmhddepaa
open Go.RowKit
set_option linter.unusedVariables false
set_option maxRecDepth 100000
def hb : Nat → Nat | 0 => 0 | j + 1 => 2 ^ j
end Go.Proofs.Ytfejabfmhddepaa
namespace Go.Proofs.Ytfejabfmhddepaa
open Go.RowKit
set_option linter.unusedVariables false
set_option maxRecDepth 100000
theorem below_next {w w1 w2 : World} (h : Below w.heap.size w w1) (h2 : Below w1.heap.size w1 w2) : Below w.heap.size w w2 := h.trans (h2.mono h.size)
theorem below_alloc {w w1 : World} (h : Below w.heap.size w w1) (o : Obj) : Below w.heap.size w (w1.alloc o) := h.alloc h.size o
end Go.Proofs.Ytfejabfmhddepaa
namespace Go.Proofs.Ytfejabfmhddepaa
open Go.RowKit
set_option linter.unusedVariables false
set_option maxRecDepth 100000
theorem AddI.far {w wr : World} {g gt : Nat} {X Y z0 T : Array Value} {ty : TypeId} (h : AddI w wr g X Y z0) (ht : wr.heap[gt]? = some (.cells T ty (0, 0))) (hg : g + 1 + 1 < gt) (k : Nat) (v : Value) : AddI w (wr.setCell ⟨gt, k, none⟩ v) g X Y z0 := by
  have e := setCell_eq_setRow wr gt k _ _ _ v ht
  exact ⟨by rw [e, setRow_other _ _ _ _ (by omega)]; exact h.x, by rw [e, setRow_other _ _ _ _ (by omega)]; exact h.y, by rw [e, setRow_other _ _ _ _ (by omega)]; exact h.z, h.below.setCell (p := ⟨gt, k, none⟩) (by show g ≤ gt; omega) _⟩
end Go.Proofs.Ytfejabfmhddepaa
namespace Go.Proofs.Ytfejabfmhddepaa
open Go.RowKit
set_option linter.unusedVariables false
set_option maxRecDepth 100000
structure Tri (t0 t1 t2 : TypeId) (w wr : World) (g : Nat) (X Y Z : Array Value) : Prop where
  x : wr.heap[g]? = some (.cells X t0 (0, 0))
  y : wr.heap[g + 1]? = some (.cells Y t1 (0, 0))
  z : wr.heap[g + 1 + 1]? = some (.cells Z t2 (0, 0))
  below : Below g w wr
section
variable {t0 t1 t2 : TypeId} {w wr W : World} {g : Nat} {X Y Z : Array Value}
theorem Tri.lt (h : Tri t0 t1 t2 w wr g X Y Z) : g + 1 + 1 < wr.heap.size := (Array.getElem?_eq_some_iff.1 h.z).1
theorem Tri.drew (h : Tri t0 t1 t2 w wr g X Y Z) : Tri t0 t1 t2 w wr.drew g X Y Z := ⟨h.x, h.y, h.z, h.below.drew⟩
theorem Tri.set (h : Tri t0 t1 t2 w wr g X Y Z) (k : Nat) (v : Value) : Tri t0 t1 t2 w (wr.setCell ⟨g + 1 + 1, k, none⟩ v) g X Y (Z.setIfInBounds k v) := by
  have e := setCell_eq_setRow wr (g + 1 + 1) k _ _ _ v h.z
  exact ⟨by rw [e, setRow_other _ _ _ _ (by omega)]; exact h.x, by rw [e, setRow_other _ _ _ _ (by omega)]; exact h.y, by rw [e, setRow_heap _ _ _ _ _ _ h.z], h.below.setCell (p := ⟨g + 1 + 1, k, none⟩) (by show g ≤ g + 1 + 1; omega) _⟩
theorem Tri.call (h : Tri t0 t1 t2 w wr g X Y Z) (hb : Below wr.heap.size wr W) : Tri t0 t1 t2 w W g X Y Z := by
  have hl := h.lt
  exact ⟨by rw [hb.block _ (by omega)]; exact h.x, by rw [hb.block _ (by omega)]; exact h.y, by rw [hb.block _ (by omega)]; exact h.z, h.below.trans (hb.mono (by omega))⟩
theorem tri_two (w : World) (X Y : Array Value) (t0 t1 : TypeId) : ((w.alloc (.cells X t0)).alloc (.cells Y t1)).heap.size = w.heap.size + 1 + 1 := by rw [World.size_alloc, World.size_alloc]
theorem tri_new (w : World) (X Y Z0 : Array Value) (t0 t1 t2 : TypeId) : (((w.alloc (.cells X t0)).alloc (.cells Y t1)).alloc (.cells Z0 t2)).heap[w.heap.size + 1 + 1]? = some (.cells Z0 t2 (0, 0)) := by
  rw [← tri_two w X Y t0 t1]; exact heap_alloc_new _ _
theorem Tri.fz (h : Tri t0 t1 t2 w wr g X Y Z) (k : Nat) : wr.frozen? ⟨g + 1 + 1, k, none⟩ = false := by have := h.z; simp [World.frozen?, this]
end
end Go.Proofs.Ytfejabfmhddepaa
namespace Go.Proofs.Ytfejabfmhddepaa
open Go.RowKit
set_option linter.unusedVariables false
set_option maxRecDepth 100000
def RetV (W : World) (v : Value) (e : Ending) (w' : World) : Prop := e = .returned v ∧ Below W.heap.size W w'
end Go.Proofs.Ytfejabfmhddepaa

namespace Go.Proofs.Ytfejabfmhddepaa
open Go.RowKit
set_option linter.unusedVariables false
set_option maxRecDepth 100000
def bytT (x : Nat) : Array Value := arrB (leB 32 x)
def RetFe (R : Array Value → Nat → Prop) (W : World) (x : Nat) (e : Ending) (w' : World) : Prop := ∃ c, e = .returned (.agg c) ∧ R c x ∧ Below W.heap.size W w'
structure FeB (R : Array Value → Nat → Prop) : Prop where
  lt : ∀ {c x}, R c x → x < PP
  info : ∀ {c x}, R c x → (Try.prog.info? 26).map (·.size) = some c.size
  one : ∀ {c x}, R c x → c.all (·.oneCell') = true
  zero : ∃ Z, (∀ u, (zeroValue 26).run Try.prog u = .ok (.agg Z) u) ∧ R Z 0
abbrev FeFromC (R : Array Value → Nat → Prop) : Prop := ∀ (l : List UInt8), l.length = 32 → ∀ W : World, Calls Try.prog 65 #[.agg (arrB l)] W (RetFe R W (feN l))
abbrev FeSmallC (R : Array Value → Nat → Prop) : Prop := ∀ (n : Nat), n < 18446744073709551616 → ∀ W : World, Calls Try.prog 59 #[.int .u64 (n : Int)] W (RetFe R W n)
abbrev FeCanC (R : Array Value → Nat → Prop) : Prop := ∀ (l : List UInt8), l.length = 32 → ∀ W : World, Calls Try.prog 67 #[.agg (arrB l)] W (RetV W (.bool (canN l)))
abbrev FeBytesC (R : Array Value → Nat → Prop) : Prop := ∀ {c x}, R c x → ∀ W : World, Calls Try.prog 39 #[.agg c] W (RetV W (.agg (bytT x)))
abbrev FeAddC (R : Array Value → Nat → Prop) : Prop := ∀ {c x d y}, R c x → R d y → ∀ W : World, Calls Try.prog 54 #[.agg c, .agg d] W (RetFe R W ((x + y) % PP))
abbrev FeSubC (R : Array Value → Nat → Prop) : Prop := ∀ {c x d y}, R c x → R d y → ∀ W : World, Calls Try.prog 53 #[.agg c, .agg d] W (RetFe R W ((x + (PP - y)) % PP))
abbrev FeMulC (R : Array Value → Nat → Prop) : Prop := ∀ {c x d y}, R c x → R d y → ∀ W : World, Calls Try.prog 38 #[.agg c, .agg d] W (RetFe R W ((x * y) % PP))
abbrev FeSquareC (R : Array Value → Nat → Prop) : Prop := ∀ {c x}, R c x → ∀ W : World, Calls Try.prog 66 #[.agg c] W (RetFe R W ((x * x) % PP))
abbrev FeNegC (R : Array Value → Nat → Prop) : Prop := ∀ {c x}, R c x → ∀ W : World, Calls Try.prog 57 #[.agg c] W (RetFe R W ((PP - x) % PP))
abbrev FeEqualC (R : Array Value → Nat → Prop) : Prop := ∀ {c x d y}, R c x → R d y → ∀ W : World, Calls Try.prog 52 #[.agg c, .agg d] W (RetV W (.bool (decide (x = y))))
abbrev FeIsZeroC (R : Array Value → Nat → Prop) : Prop := ∀ {c x}, R c x → ∀ W : World, Calls Try.prog 69 #[.agg c] W (RetV W (.bool (decide (x = 0))))
abbrev FeOddC (R : Array Value → Nat → Prop) : Prop := ∀ {c x}, R c x → ∀ W : World, Calls Try.prog 40 #[.agg c] W (RetV W (.bool (decide (x % 2 = 1))))
structure FeC (R : Array Value → Nat → Prop) : Prop where
  base : FeB R
  from_ : FeFromC R
  small : FeSmallC R
  can : FeCanC R
  bytes : FeBytesC R
  add : FeAddC R
  sub : FeSubC R
  mul : FeMulC R
  square : FeSquareC R
  neg : FeNegC R
  equal : FeEqualC R
  isZero : FeIsZeroC R
  odd : FeOddC R
def refT (x : Nat) : Array Value := tabI (dgN 16 (x : Int))
theorem bytT_info (x : Nat) : (Try.prog.info? 22).map (·.size) = some (bytT x).size := by unfold bytT; rw [arrB_size, leB_len]; kernel_rfl
theorem bytT_one (x : Nat) : (bytT x).all (·.oneCell') = true := arrB_one _
theorem arr32_info {l : List UInt8} (h : l.length = 32) : (Try.prog.info? 22).map (·.size) = some (arrB l).size := by rw [arrB_size, h]; kernel_rfl
theorem arr32_zero (u : World) : (zeroValue 22).run Try.prog u = .ok (.agg (arrB (List.replicate 32 0))) u := zero_arr 22 (arrB (List.replicate 32 0)) 32 (by kernel_rfl) u
def zero32 : Array Value := arrB (List.replicate 32 0)
theorem zero32_zero (u : World) : (zeroValue 22).run Try.prog u = .ok (.agg zero32) u := arr32_zero u
theorem zero32_size {l : List UInt8} (h : l.length = 32) : zero32.size = (arrB l).size := by unfold zero32; rw [arrB_size, arrB_size, h]; simp
theorem zero32_byt (x : Nat) : zero32.size = (bytT x).size := by unfold zero32 bytT; rw [arrB_size, arrB_size, leB_len]; simp
theorem FeB.size {R : Array Value → Nat → Prop} (C : FeB R) {c d : Array Value} {x y : Nat} (h : R c x) (k : R d y) : c.size = d.size := by
  have a := C.info h
  rw [C.info k] at a
  injection a with a
  exact a.symm
theorem arr_at {l : List UInt8} (h : l.length = 32) (i : Nat) (hi : i < 32) (u : World) : (Instr.index 22 (.agg (arrB l)) (.int .i64 (i : Int))).run Try.prog u = .ok (.int .u8 ((l.getD i 0).toNat : Int)) u := by
  have hu : Try.prog.underlying 22 = some (.array 32 5) := by kernel_rfl
  have h1 : (0 : Int) ≤ (i : Int) ∧ (i : Int) < ((32 : Nat) : Int) := ⟨by omega, by omega⟩
  have hs : (sizeOf 5).run Try.prog u = .ok 1 u := by kernel_rfl
  have hv := arrB_get l i (by omega)
  simp [Instr.index, run_underlying hu, asIntOf, h1, hi, go_sem, hs, hv]
theorem bytT_get (x i : Nat) (h : i < 32) : (bytT x)[i]? = some (.int .u8 (((leB 32 x).getD i 0).toNat : Int)) := arrB_get _ _ (by rw [leB_len]; exact h)
end Go.Proofs.Ytfejabfmhddepaa

namespace Go.Proofs.Ytfejabfmhddepaa
open Go.RowKit
set_option linter.unusedVariables false
set_option maxRecDepth 100000
def refP (X Y Z T : Nat) : Array Value := quad (refT X) (refT Y) (refT Z) (refT T)
theorem refP_zero (u : World) : (zeroValue 33).run Try.prog u = .ok (.agg (refP 0 0 0 0)) u := by kernel_rfl
def RetPt (R : Array Value → PtD → Prop) (W : World) (p : PtD) (e : Ending) (w' : World) : Prop := ∃ c, e = .returned (.agg c) ∧ R c p ∧ Below W.heap.size W w'
def RetPtB (R : Array Value → PtD → Prop) (W : World) (p : PtD) (b : Bool) (e : Ending) (w' : World) : Prop := ∃ c, e = .returned (.tuple #[.agg c, .bool b]) ∧ R c p ∧ Below W.heap.size W w'
end Go.Proofs.Ytfejabfmhddepaa

namespace Go.Proofs.Ytfejabfmhddepaa
set_option linter.unusedVariables false
set_option maxRecDepth 100000
def vs (f : Nat → Nat) : Nat → Nat
  | 0 => 0
  | n + 1 => vs f n + f n * 65536 ^ n
def dg (l : List Nat) (j : Nat) : Nat := l.getD j 0
theorem dg_rep (n j : Nat) : dg (List.replicate n 0) j = 0 := by
  unfold dg
  simp only [List.getD, List.getElem?_replicate]
  split <;> rfl
def Dig (l : List Nat) : Prop := ∀ j, dg l j < 65536
theorem Dig.rep (n : Nat) : Dig (List.replicate n 0) := fun j => by rw [dg_rep]; omega
theorem Dig.two {x y : Nat} (hx : x < 65536) (hy : y < 65536) : Dig [x, y] := by
  intro k
  rcases k with _ | _ | k
  · exact hx
  · exact hy
  · simp [dg, List.getD]
end Go.Proofs.Ytfejabfmhddepaa
namespace Go.Proofs.Ytfejabfmhddepaa
section
variable {P : Program} {ops : Array Oper} {Q : Exit → Act → World → Prop} {md : Region.Mode} {S : World → Prop}
theorem skip_at (i : Nat) {d : Nat} {op : Op} {ty : TypeId} {pos : String} {after : Array Edge} {guard : Option (Nat × Bool)} {fuel : Nat} {listed : Array Bool} {l l' : List Value} {df : List Deferred} {w : World}
    (hi : ops[i]? = some ⟨some d, op, ty, pos, after, guard⟩)
    (hs : Region.noSelect ops = true) (hf : Region.free md ops listed i = true) (hr : (Region.ready md ops listed).contains i = true)
    (hQ : ∀ c a w, Q (.panic c) (a.put (some d) undef) w → Q (.panic c) a w)
    (hw : Region.wanted ⟨some d, op, ty, pos, after, guard⟩ (yielded ops l.toArray) = false) (hS : S w)
    (hl : l.set d undef = l')
    (h : wpAnyH P md ops Q S fuel (listed.setIfInBounds i true) ⟨l'.toArray, df⟩ w) : wpAnyH P md ops Q S (fuel + 1) listed ⟨l.toArray, df⟩ w := by
  refine wpAnyH_take (v := undef) hi hs hf hr hQ (.inr ⟨hw, rfl⟩) hS ?_
  subst hl
  simpa [Act.put] using h
end
end Go.Proofs.Ytfejabfmhddepaa

namespace Go.Proofs.Ytfejabfmhddepaa
open Go.RowKit
set_option linter.unusedVariables false
set_option maxRecDepth 100000
theorem wpList_runs {P : Program} {ops : Array Oper} {rest : List Oper} {o : Oper} {a : Act} {w : World} {Q : Exit → Act → World → Prop} (hgd : o.guard = none) (v : Value)
    (hrun : (execOp (Act.eval a) o).run P w = .ok (.value v) w) (h : wpList P ops Q rest (a.put o.dst v) w) : wpList P ops Q (o :: rest) a w := by
  refine wpList_plain hgd fun K hK => ?_
  unfold Oper.wp
  rw [hrun]
  exact hK _ _ h
end Go.Proofs.Ytfejabfmhddepaa

namespace Go.Proofs.Ytfejabfmhddepaa
set_option linter.unusedVariables false
set_option maxRecDepth 100000
open Pm Fl
def decF (l : List UInt8) : Bool := canN l && (fineN (upN (feN l)) (dnN (feN l)) && !(decide (ratN (upN (feN l)) (dnN (feN l)) = 0) && decS l))
def decX (l : List UInt8) : Nat := if decS l then (PP - ratN (upN (feN l)) (dnN (feN l))) % PP else ratN (upN (feN l)) (dnN (feN l))
theorem decF_parts {l : List UInt8} (h : decF l = true) : canN l = true ∧ fineN (upN (feN l)) (dnN (feN l)) = true ∧ (ratN (upN (feN l)) (dnN (feN l)) = 0 → decS l = false) := by
  unfold decF at h
  rw [Bool.and_eq_true, Bool.and_eq_true] at h
  refine ⟨h.1, h.2.1, fun e => ?_⟩
  have k := h.2.2
  rw [decide_eq_true e, Bool.true_and] at k
  cases hs : decS l
  · rfl
  · rw [hs] at k; cases k
theorem decF_of {l : List UInt8} (hc : canN l = true) (hf : fineN (upN (feN l)) (dnN (feN l)) = true) (hs : ratN (upN (feN l)) (dnN (feN l)) = 0 → decS l = false) : decF l = true := by
  unfold decF
  rw [hc, hf, Bool.true_and, Bool.true_and]
  by_cases e : ratN (upN (feN l)) (dnN (feN l)) = 0
  · rw [hs e, Bool.and_false]; rfl
  · rw [decide_eq_false e]; rfl
theorem decF_can {l : List UInt8} (h : canN l = false) : decF l = false := by unfold decF; rw [h]; rfl
theorem decF_fine {l : List UInt8} (h : fineN (upN (feN l)) (dnN (feN l)) = false) : decF l = false := by unfold decF; rw [h, Bool.false_and, Bool.and_false]
theorem decF_sign {l : List UInt8} (h : ratN (upN (feN l)) (dnN (feN l)) = 0) (hs : decS l = true) : decF l = false := by
  unfold decF; rw [decide_eq_true h, hs, Bool.true_and]; simp
theorem dec_on {l : List UInt8} (h : decF l = true) : Ed.On F25519.dV (F25519.c (decX l)) (F25519.c (feN l)) := by
  obtain ⟨hc, hf, hs⟩ := decF_parts h
  obtain ⟨p, h1, h2, h3⟩ := point_of (feN_lt l) hf (decS l) hs
  have ex : F25519.c (decX l) = p.x := by unfold decX; rw [← h3]; exact F25519.c_of _
  have ey : F25519.c (feN l) = p.y := by rw [← h2]; exact F25519.c_of _
  rw [ex, ey]
  exact p.on
def decP (l : List UInt8) : PtD := if h : decF l = true then ⟨F25519.c (decX l), F25519.c (feN l), dec_on h⟩ else pzero
theorem decP_no {l : List UInt8} (h : decF l = false) : decP l = pzero := by unfold decP; rw [dif_neg (by rw [h]; decide)]
theorem decX_lt (l : List UInt8) : decX l < PP := by unfold decX; split; exact mod_lt_PP _; exact ratN_lt _ _
theorem c_valP {a : Nat} (h : a < PP) : (F25519.c a).val = a := by rw [F25519.c_val]; exact Nat.mod_eq_of_lt h
theorem decP_xy {l : List UInt8} (h : decF l = true) : (decP l).x.val = decX l ∧ (decP l).y.val = feN l := by
  unfold decP
  rw [dif_pos h]
  exact ⟨c_valP (decX_lt l), c_valP (feN_lt l)⟩
def ptEq (p q : PtD) : Bool := decide (F25519.encN p = F25519.encN q)
theorem ptEq_iff {p q : PtD} : ptEq p q = true ↔ p = q := by
  unfold ptEq
  constructor
  · intro h; exact F25519.encN_inj (of_decide_eq_true h)
  · rintro rfl; exact decide_eq_true rfl
theorem ptEq_ne {p q : PtD} (h : ¬ p = q) : ptEq p q = false := by
  cases e : ptEq p q with
  | false => rfl
  | true => exact absurd (ptEq_iff.1 e) h
theorem co_alike {X1 Y1 Z1 T1 X2 Y2 Z2 T2 : Nat} {p q : PtD} (h1 : Co X1 Y1 Z1 T1 p) (h2 : Co X2 Y2 Z2 T2 q) (ha : (X1 * Z2) % PP = (X2 * Z1) % PP) (hb : (Y1 * Z2) % PP = (Y2 * Z1) % PP) : ptEq p q = true :=
  ptEq_iff.2 ((co_same h1 h2).1 ⟨ha, hb⟩)
theorem co_alikeX {X1 Y1 Z1 T1 X2 Y2 Z2 T2 : Nat} {p q : PtD} (h1 : Co X1 Y1 Z1 T1 p) (h2 : Co X2 Y2 Z2 T2 q) (ha : ¬ (X1 * Z2) % PP = (X2 * Z1) % PP) : ptEq p q = false :=
  ptEq_ne fun e => ha ((co_same h1 h2).2 e).1
theorem co_alikeY {X1 Y1 Z1 T1 X2 Y2 Z2 T2 : Nat} {p q : PtD} (h1 : Co X1 Y1 Z1 T1 p) (h2 : Co X2 Y2 Z2 T2 q) (ha : ¬ (Y1 * Z2) % PP = (Y2 * Z1) % PP) : ptEq p q = false :=
  ptEq_ne fun e => ha ((co_same h1 h2).2 e).2
end Go.Proofs.Ytfejabfmhddepaa

namespace Go.Proofs.Ytfejabfmhddepaa
open Go.RowKit
set_option linter.unusedVariables false
set_option maxRecDepth 100000
structure PtB (R : Array Value → PtD → Prop) : Prop where
  info : ∀ {c p}, R c p → (Try.prog.info? 28).map (·.size) = some c.size
  one : ∀ {c p}, R c p → c.all (·.oneCell') = true
  zero : ∃ Z, (∀ u, (zeroValue 28).run Try.prog u = .ok (.agg Z) u) ∧ ∀ {c p}, R c p → Z.size = c.size
abbrev PtZeroC (R : Array Value → PtD → Prop) : Prop := ∀ W : World, Calls Try.prog 22 #[] W (RetPt R W pzero)
abbrev PtBaseC (R : Array Value → PtD → Prop) : Prop := ∀ W : World, Calls Try.prog 27 #[] W (RetPt R W F25519.base)
abbrev PtDecodeC (R : Array Value → PtD → Prop) : Prop := ∀ (l : List UInt8), l.length = 32 → ∀ W : World, Calls Try.prog 29 #[.agg (arrB l)] W (RetPtB R W (decP l) (decF l))
abbrev PtEncodeC (R : Array Value → PtD → Prop) : Prop := ∀ {c p}, R c p → ∀ W : World, Calls Try.prog 11 #[.agg c] W (RetV W (.agg (bytT (F25519.encN p))))
abbrev PtDoubleC (R : Array Value → PtD → Prop) : Prop := ∀ {c p}, R c p → ∀ W : World, Calls Try.prog 28 #[.agg c] W (RetPt R W (padd p p))
abbrev PtAddC (R : Array Value → PtD → Prop) : Prop := ∀ {c p d q}, R c p → R d q → ∀ W : World, Calls Try.prog 19 #[.agg c, .agg d] W (RetPt R W (padd p q))
abbrev PtNegC (R : Array Value → PtD → Prop) : Prop := ∀ {c p}, R c p → ∀ W : World, Calls Try.prog 21 #[.agg c] W (RetPt R W (Ed.Pt.neg p))
abbrev PtEqualC (R : Array Value → PtD → Prop) : Prop := ∀ {c p d q}, R c p → R d q → ∀ W : World, Calls Try.prog 18 #[.agg c, .agg d] W (RetV W (.bool (ptEq p q)))
structure PtC (R : Array Value → PtD → Prop) : Prop where
  base : PtB R
  zero : PtZeroC R
  basep : PtBaseC R
  decode : PtDecodeC R
  encode : PtEncodeC R
  double : PtDoubleC R
  add : PtAddC R
  neg : PtNegC R
  equal : PtEqualC R
theorem pz_add (p : PtD) : padd pzero p = p := Ed.Pt.zero_add (hf := F25519.full) p
theorem padd_z (p : PtD) : padd p pzero = p := Ed.Pt.add_zero (hf := F25519.full) p
theorem padd_comm (p q : PtD) : padd p q = padd q p := Ed.Pt.add_comm (hf := F25519.full) p q
theorem padd_assoc (p q r : PtD) : padd (padd p q) r = padd p (padd q r) := Ed.Pt.add_assoc (hf := F25519.full) p q r
def dblP : Nat → PtD → PtD
  | 0, p => p
  | k + 1, p => padd (dblP k p) (dblP k p)
theorem RowsW.new2 {W : World} {L : List RowT} (h : RowsW W L) (z cs y ds : Array Value) (t s : TypeId) : RowsW ((((W.alloc (.cells z t)).alloc (.cells y s)).setRow W.heap.size cs).setRow (W.heap.size + 1) ds) ((W.heap.size + 1, ds, s) :: (W.heap.size, cs, t) :: L) := by
  have a0 : (W.alloc (.cells z t)).heap[W.heap.size]? = some (.cells z t (0, 0)) := heap_alloc_new _ _
  have a1 : ((W.alloc (.cells z t)).alloc (.cells y s)).heap[W.heap.size]? = some (.cells z t (0, 0)) := by
    have hb := ((Below.refl (W.alloc (.cells z t)).heap.size (W.alloc (.cells z t))).alloc (Nat.le_refl _) (.cells y s)).block W.heap.size (by rw [World.size_alloc]; omega)
    rw [hb]; exact a0
  have b1 : ((W.alloc (.cells z t)).alloc (.cells y s)).heap[W.heap.size + 1]? = some (.cells y s (0, 0)) := by
    have := heap_alloc_new (W.alloc (.cells z t)) (.cells y s)
    rwa [World.size_alloc] at this
  have a2 := setRow_heap _ _ _ cs _ _ a1
  have b2 : (((W.alloc (.cells z t)).alloc (.cells y s)).setRow W.heap.size cs).heap[W.heap.size + 1]? = some (.cells y s (0, 0)) := by rw [setRow_other _ _ _ _ (by omega)]; exact b1
  refine ⟨setRow_heap _ _ _ _ _ _ b2, by rw [setRow_other _ _ _ _ (by omega)]; exact a2, h.below ?_⟩
  exact below_row (below_row (((Below.refl _ W).alloc (Nat.le_refl _) _).alloc (by rw [World.size_alloc]; omega) _) (Nat.le_refl _)) (by omega)
theorem below_new2 {w W : World} (h : Below w.heap.size w W) (z cs y ds : Array Value) (t s : TypeId) : Below w.heap.size w ((((W.alloc (.cells z t)).alloc (.cells y s)).setRow W.heap.size cs).setRow (W.heap.size + 1) ds) := by
  have hs := h.size
  exact below_row (below_row ((h.alloc hs _).alloc (by rw [World.size_alloc]; omega) _) hs) (by omega)
theorem heap_new2a (W : World) (z y : Array Value) (t s : TypeId) : ((W.alloc (.cells z t)).alloc (.cells y s)).heap[W.heap.size]? = some (.cells z t (0, 0)) := by
  have hb := ((Below.refl (W.alloc (.cells z t)).heap.size (W.alloc (.cells z t))).alloc (Nat.le_refl _) (.cells y s)).block W.heap.size (by rw [World.size_alloc]; omega)
  rw [hb]; exact heap_alloc_new _ _
theorem heap_new2b (W : World) (z y cs : Array Value) (t s : TypeId) : (((W.alloc (.cells z t)).alloc (.cells y s)).setRow W.heap.size cs).heap[W.heap.size + 1]? = some (.cells y s (0, 0)) := by
  rw [setRow_other _ _ _ _ (by omega)]
  have := heap_alloc_new (W.alloc (.cells z t)) (.cells y s)
  rwa [World.size_alloc] at this
end Go.Proofs.Ytfejabfmhddepaa

namespace Go.Proofs.Ytfejabfmhddepaa
set_option linter.unusedVariables false
set_option maxRecDepth 100000
open Pm Fl
def pmul (n : Nat) (p : PtD) : PtD := Ed.Pt.mul F25519.full n p
theorem pmul_zero (p : PtD) : pmul 0 p = pzero := Ed.Pt.mul_zero (hf := F25519.full) p
theorem pmul_succ (n : Nat) (p : PtD) : pmul (n + 1) p = padd (pmul n p) p := Ed.Pt.mul_succ (hf := F25519.full) n p
theorem pmul_one (p : PtD) : pmul 1 p = p := Ed.Pt.mul_one (hf := F25519.full) p
theorem pmul_add (m n : Nat) (p : PtD) : padd (pmul m p) (pmul n p) = pmul (m + n) p := (Ed.Pt.mul_add (hf := F25519.full) m n p).symm
theorem pmul_two (p : PtD) : pmul 2 p = padd p p := by rw [pmul_succ, pmul_one]
theorem pmul_dbl (n : Nat) (p : PtD) : padd (pmul n p) (pmul n p) = pmul (2 * n) p := (Ed.Pt.mul_double (hf := F25519.full) n p).symm
theorem pmul_mul (m n : Nat) (p : PtD) : pmul n (pmul m p) = pmul (m * n) p := (Ed.Pt.mul_mul (hf := F25519.full) m n p).symm
theorem pmul_padd (n : Nat) (p q : PtD) : pmul n (padd p q) = padd (pmul n p) (pmul n q) := Ed.Pt.mul_of_add (hf := F25519.full) n p q
theorem base_mod (n : Nat) : pmul (n % F25519.L) F25519.base = pmul n F25519.base := Ed.Pt.mul_mod (hf := F25519.full) F25519.base_order n
theorem base_L : pmul F25519.L F25519.base = pzero := F25519.base_order
end Go.Proofs.Ytfejabfmhddepaa

namespace Go.Proofs.Ytfejabfmhddepaa
set_option linter.unusedVariables false
set_option maxRecDepth 100000
abbrev LL : Nat := 7237005577332262213973186563042994240857116359379907606001950938285454250989
end Go.Proofs.Ytfejabfmhddepaa

namespace Go.Proofs.Ytfejabfmhddepaa
open Go.RowKit
set_option linter.unusedVariables false
set_option maxRecDepth 100000
abbrev MuMultC (R : Array Value → PtD → Prop) : Prop := ∀ (l : List UInt8), l.length = 32 → ∀ {c p}, R c p → ∀ W : World, Calls Try.prog 12 #[.agg (arrB l), .agg c] W (RetPt R W (pmul (leN l) p))
abbrev MuBaseC (R : Array Value → PtD → Prop) : Prop := ∀ (l : List UInt8), l.length = 32 → ∀ W : World, Calls Try.prog 15 #[.agg (arrB l)] W (RetPt R W (pmul (leN l) F25519.base))
abbrev MuTwoC (R : Array Value → PtD → Prop) : Prop := ∀ (l m : List UInt8), l.length = 32 → m.length = 32 → ∀ {c p}, R c p → ∀ W : World, Calls Try.prog 26 #[.agg (arrB l), .agg c, .agg (arrB m)] W (RetPt R W (padd (pmul (leN l) p) (pmul (leN m) F25519.base)))
structure MuC (R : Array Value → PtD → Prop) : Prop where
  mult : MuMultC R
  base : MuBaseC R
  two : MuTwoC R
abbrev ScOrderC : Prop := ∀ W : World, Calls Try.prog 24 #[] W (RetV W (.agg (bytT LL)))
abbrev ScAddC : Prop := ∀ l m : List UInt8, l.length = 32 → m.length = 32 → ∀ W : World, Calls Try.prog 23 #[.agg (arrB l), .agg (arrB m)] W (RetV W (.agg (bytT ((leN l + leN m) % LL))))
abbrev ScMulAddC : Prop := ∀ l m n : List UInt8, l.length = 32 → m.length = 32 → n.length = 32 → ∀ W : World, Calls Try.prog 25 #[.agg (arrB l), .agg (arrB m), .agg (arrB n)] W (RetV W (.agg (bytT ((leN l * leN m + leN n) % LL))))
structure Sc13C : Prop where
  order : ScOrderC
  add : ScAddC
  mulAdd : ScMulAddC
theorem LL_is : LL = F25519.L := by decide +kernel
theorem LL_lt : LL < 256 ^ 32 := by decide
theorem modLL_lt (x : Nat) : x % LL < 256 ^ 32 := Nat.lt_trans (Nat.mod_lt _ (by decide)) LL_lt
theorem base_modLL (n : Nat) : pmul (n % LL) F25519.base = pmul n F25519.base := by rw [LL_is]; exact base_mod n
theorem base_LL : pmul LL F25519.base = pzero := by rw [LL_is]; exact base_L
theorem run_emp {a : Act} {o : Oper} (ho : o.op = .build 22 #[]) (W : World) : (execOp (Act.eval a) o).run Try.prog W = .ok (.value (.agg (bytT 0))) W := by
  unfold execOp
  simp only [ho]
  kernel_rfl
theorem run_one {a : Act} {o : Oper} (ho : o.op = .build 22 #[(0, .const (.int .u8 1))]) (W : World) : (execOp (Act.eval a) o).run Try.prog W = .ok (.value (.agg (bytT 1))) W := by
  have h : (Instr.build 22 #[(0, .int .u8 1)]).run Try.prog W = .ok (.agg (bytT 1)) W := by kernel_rfl
  unfold execOp
  simp only [ho]
  simp [Act.eval, h]
theorem run_two {a : Act} {o : Oper} (ho : o.op = .build 22 #[(0, .const (.int .u8 2))]) (W : World) : (execOp (Act.eval a) o).run Try.prog W = .ok (.value (.agg (bytT 2))) W := by
  have h : (Instr.build 22 #[(0, .int .u8 2)]).run Try.prog W = .ok (.agg (bytT 2)) W := by kernel_rfl
  unfold execOp
  simp only [ho]
  simp [Act.eval, h]
end Go.Proofs.Ytfejabfmhddepaa

namespace Go.Proofs.Ytfejabfmhddepaa
open Go.RowKit
set_option linter.unusedVariables false
set_option maxRecDepth 100000
set_option maxHeartbeats 6400000 in
theorem alive13_any {R : Array Value → PtD → Prop} (D : PtC R) (M : MuC R) (w : World) : Calls Try.prog 8 #[] w fun e w' => e = .returned (.bool true) ∧ Below w.heap.size w w' := by
  obtain ⟨Z, hZ, sZ⟩ := D.base.zero
  have hz32 := zero32_zero
  have hzP := refP_zero
  have HR0 := Lib.hid (RowsW.nil w)
  have HB0 := Lib.hid (Below.refl w.heap.size w)
  go_enter Try.func8, Try.ntmps8
  go_wp2_with (refine wpList_runs (o := ⟨some 1, _, _, _, _, _⟩) rfl (.agg (bytT 1)) (run_one rfl _) ?_)
  obtain ⟨p1, hp1⟩ : ∃ y_ : PtD, pmul (1) F25519.base = y_ := ⟨_, rfl⟩
  have Hp1 := Lib.hid hp1
  clear hp1
  have o2 : ∀ W : World, Calls Try.prog 15 #[.agg (bytT 1)] W (RetPt R W (pmul (1) F25519.base)) := fun W => by have h := (M.base (leB 32 1) (leB_len 32 1)) W; rw [leN_leB 32 1 (by decide)] at h; exact h
  with_reducible refine ((fun W => o2 W) _).mono ?_
  rintro e vq2 ⟨cq2, rfl, rq2, hbq2⟩
  rw [Hp1.out] at rq2
  have Rq2 := Lib.hid rq2
  clear rq2
  have HRq2 := Lib.hid (HR0.out.below hbq2)
  have HBq2 := Lib.hid (below_next HB0.out hbq2)
  clear hbq2
  go_wp2_with fail
  with_reducible refine ((fun W => D.basep W) _).mono ?_
  rintro e vq3 ⟨cq3, rfl, rq3, hbq3⟩
  have Rq3 := Lib.hid rq3
  clear rq3
  have HRq3 := Lib.hid (HRq2.out.below hbq3)
  have HBq3 := Lib.hid (below_next HBq2.out hbq3)
  clear hbq3
  go_wp2_with fail
  have kq4 := fun W : World => (D.equal Rq2.out Rq3.out) W
  rw [show ptEq p1 F25519.base = true from (ptEq_iff.2 (by rw [← Hp1.out]; exact pmul_one _))] at kq4
  have Kq4 := Lib.hid kq4
  clear kq4
  with_reducible refine (Kq4.out _).mono ?_
  rintro e vq4 ⟨rfl, hbq4⟩
  have HRq4 := Lib.hid (HRq3.out.below hbq4)
  have HBq4 := Lib.hid (below_next HBq3.out hbq4)
  clear hbq4
  go_wp2_with (refine wpList_runsV (o := ⟨some 6, _, _, _, _, _⟩) rfl (.agg (bytT 2)) (run_two rfl _) ?_)
  with_reducible refine ((fun W => D.basep W) _).mono ?_
  rintro e vq5 ⟨cq5, rfl, rq5, hbq5⟩
  have Rq5 := Lib.hid rq5
  clear rq5
  have HRq5 := Lib.hid (HRq4.out.below hbq5)
  have HBq5 := Lib.hid (below_next HBq4.out hbq5)
  clear hbq5
  go_wp2_with fail
  obtain ⟨p6, hp6⟩ : ∃ y_ : PtD, pmul (2) F25519.base = y_ := ⟨_, rfl⟩
  have Hp6 := Lib.hid hp6
  clear hp6
  have o8 : ∀ W : World, Calls Try.prog 12 #[.agg (bytT 2), .agg cq5] W (RetPt R W (pmul (2) F25519.base)) := fun W => by have h := (M.mult (leB 32 2) (leB_len 32 2) Rq5.out) W; rw [leN_leB 32 2 (by decide)] at h; exact h
  with_reducible refine ((fun W => o8 W) _).mono ?_
  rintro e vq7 ⟨cq7, rfl, rq7, hbq7⟩
  rw [Hp6.out] at rq7
  have Rq7 := Lib.hid rq7
  clear rq7
  have HRq7 := Lib.hid (HRq5.out.below hbq7)
  have HBq7 := Lib.hid (below_next HBq5.out hbq7)
  clear hbq7
  go_wp2_with fail
  with_reducible refine ((fun W => D.basep W) _).mono ?_
  rintro e vq8 ⟨cq8, rfl, rq8, hbq8⟩
  have Rq8 := Lib.hid rq8
  clear rq8
  have HRq8 := Lib.hid (HRq7.out.below hbq8)
  have HBq8 := Lib.hid (below_next HBq7.out hbq8)
  clear hbq8
  go_wp2_with fail
  obtain ⟨p9, hp9⟩ : ∃ y_ : PtD, padd F25519.base F25519.base = y_ := ⟨_, rfl⟩
  have Hp9 := Lib.hid hp9
  clear hp9
  with_reducible refine ((D.double Rq8.out) _).mono ?_
  rintro e vq10 ⟨cq10, rfl, rq10, hbq10⟩
  rw [Hp9.out] at rq10
  have Rq10 := Lib.hid rq10
  clear rq10
  have HRq10 := Lib.hid (HRq8.out.below hbq10)
  have HBq10 := Lib.hid (below_next HBq8.out hbq10)
  clear hbq10
  go_wp2_with fail
  have kq11 := fun W : World => (D.equal Rq7.out Rq10.out) W
  rw [show ptEq p6 p9 = true from (ptEq_iff.2 (by rw [← Hp6.out, ← Hp9.out]; exact pmul_two _))] at kq11
  have Kq11 := Lib.hid kq11
  clear kq11
  with_reducible refine (Kq11.out _).mono ?_
  rintro e vq11 ⟨rfl, hbq11⟩
  have HRq11 := Lib.hid (HRq10.out.below hbq11)
  have HBq11 := Lib.hid (below_next HBq10.out hbq11)
  clear hbq11
  go_wp2_with fail
  go_ret
  exact ⟨rfl, HBq11.out⟩
end Go.Proofs.Ytfejabfmhddepaa

namespace Go.Proofs.Ytfejabfmhddepaa
open Go.RowKit Go.ChangeShapes Go.WideShapes
set_option linter.unusedVariables false
set_option maxRecDepth 100000
def byteOf : Value → UInt8
  | .int _ a => UInt8.ofNat a.toNat
  | _ => 0
theorem byteOf_int {a : Int} (h0 : 0 ≤ a) (h1 : a < 256) : bval (byteOf (.int .u8 a)) = .int .u8 a := by
  unfold byteOf bval
  congr 1
  simp
  omega
theorem bytes_of {H : Type} {enc : TypeId × Value → H} {P : Program} {W : World} {base : Nat} {spare : Nat → Bool} {held : Bool} {r : Reach} {b0 : Nat} {v : Value} {d : DataW H} {p : List MemPlace} {T e : TypeId} {n : Nat}
    (hT : P.underlying T = some (.array n e)) (hU : P.underlying e = some (.int .u8)) (hc : P.cellsOf e = 1) (hn : P.cellsOf T = n)
    (hv : Value.okWide P W r b0 T v) (h : DataW.Trod enc P W base spare held T v d p) : ∃ l : List UInt8, l.length = n ∧ v = .agg (arrB l) := by
  simp only [Value.okWide, hT] at hv
  obtain ⟨cs, rfl, hs, -⟩ := hv
  rw [hn] at hs
  obtain ⟨fuel, h⟩ := h
  obtain ⟨xs, m, -, -, -, hl, hel⟩ := DataW.trod_array hT h
  refine ⟨cs.toList.map byteOf, by simpa using hs, ?_⟩
  congr 1
  unfold arrB
  apply Array.ext
  · simp
  · intro i h1 h2
    have hi : i < n := by omega
    have hE := hel i hi
    rw [hc, Nat.mul_one, List.getElem?_eq_getElem (by omega)] at hE
    obtain ⟨z, e1, -, hw⟩ := DataW.trod_int hU hE
    have e2 : cs[i] = .int .u8 z := by
      have h0 : ((cs.toList.drop i).take 1)[0]? = some (.int .u8 z) := by simp only [Value.cells] at e1; rw [e1]; rfl
      have h3 : cs[i]? = some (.int .u8 z) := by simpa using h0
      rw [Array.getElem?_eq_getElem h1] at h3
      injection h3
    have hb : 0 ≤ z ∧ z < 256 := by
      simp [Lit.wf, IntKind.min, IntKind.max, IntKind.signed, IntKind.bits] at hw
      omega
    simp [e2, byteOf_int hb.1 hb.2]
end Go.Proofs.Ytfejabfmhddepaa
namespace Go.Proofs.Ytfejabfmhddepaa
open Go.RowKit
set_option linter.unusedVariables false
set_option maxRecDepth 100000
set_option maxHeartbeats 6400000 in
theorem law13Order {R : Array Value → PtD → Prop} (D : PtC R) (M : MuC R) (SC : Sc13C) (n : List UInt8) (hn : n.length = 32) (m : List UInt8) (hm : m.length = 32) (w : World) : Calls Try.prog 6 #[.agg (arrB n), .agg (arrB m)] w fun e w' => e = .returned (.bool true) ∧ Below w.heap.size w w' := by
  have HAL : Hid (∀ W : World, Calls Try.prog 8 #[] W fun e w' => e = .returned (.bool true) ∧ Below W.heap.size W w') := Lib.hid (fun W => alive13_any D M W)
  obtain ⟨Z, hZ, sZ⟩ := D.base.zero
  have hz32 := zero32_zero
  have hzP := refP_zero
  have Hn := Lib.hid hn
  have Hm := Lib.hid hm
  clear hn hm
  go_enter Try.func6, Try.ntmps6
  go_wp2_with fail
  have HR0 := Lib.hid (((RowsW.nil w).box (arrB n) 22).box (arrB m) 22)
  have HB0 := Lib.hid (below_box (below_box (Below.refl w.heap.size w) (arrB n) 22) (arrB m) 22)
  rw [World.size_alloc] at HR0
  obtain ⟨W0, hW0⟩ : ∃ W, ((w.alloc (.cells (arrB n) 22)).alloc (.cells (arrB m) 22)) = W := ⟨_, rfl⟩
  obtain ⟨g0, hg0⟩ : ∃ g, w.heap.size = g := ⟨_, rfl⟩
  rw [hW0] at HR0 HB0
  rw [hg0] at HR0
  rw [hW0, hg0]
  have HG0 := Lib.hid hg0
  clear hW0 hg0
  with_reducible refine (HAL.out _).mono ?_
  rintro e v1 ⟨rfl, hb1⟩
  have HR1 := Lib.hid (HR0.out.below hb1)
  have HB1 := Lib.hid (below_next HB0.out hb1)
  clear hb1
  go_upto_region 2 with fail
  have h0q1 : (v1.alloc (.cells zero32 22)).heap[v1.heap.size]? = some (.cells zero32 22 (0, 0)) := heap_alloc_new _ _
  have HRq1 := Lib.hid (HR1.out.new zero32 (bytT 0) 22)
  have HBq1 := Lib.hid (below_new HB1.out zero32 (bytT 0) 22)
  have HNq1 := Lib.hid HR1.out.ne
  have HGq1 := Lib.hid HB1.out.size
  go_upto_region 3 with (first
      | (refine wpList_runs (o := ⟨some 9, _, _, _, _, _⟩) rfl (.agg (bytT 0)) (run_emp rfl _) ?_)
      | (refine wpList_store_row rfl 22 (.tmp 6) (.tmp 9) rfl v1.heap.size (bytT 0) rfl rfl 22 zero32 h0q1 (bytT_info _) (zero32_byt _) (bytT_one _) ?_))
  obtain ⟨Wq1, hWq1⟩ : ∃ W, (v1.alloc (.cells zero32 22)).setRow v1.heap.size (bytT 0) = W := ⟨_, rfl⟩
  obtain ⟨gq1, hgq1⟩ : ∃ g, v1.heap.size = g := ⟨_, rfl⟩
  rw [hWq1, hgq1] at HRq1
  rw [hWq1] at HBq1
  rw [hgq1] at HNq1 HGq1
  rw [hWq1, hgq1]
  clear hWq1 hgq1 h0q1
  have NEq1_0 : Hid (g0 ≠ gq1) := Lib.hid (HNq1.out (g0, (arrB n), 22) (by simp))
  have NEq1_1 : Hid ((g0 + 1) ≠ gq1) := Lib.hid (HNq1.out ((g0 + 1), (arrB m), 22) (by simp))
  have l2 := HRq1.out.tail.tail.head
  have l3 := HRq1.out.head
  go_wp2_with (first
      | (refine wpList_load_row rfl 22 (.tmp 2) rfl g0 rfl 22 (arrB n) (0, 0) _ l2 Try.underlying22 rfl (arr32_info Hn.out) ?_)
      | (refine wpList_load_row rfl 22 (.tmp 6) rfl gq1 rfl 22 (bytT 0) (0, 0) _ l3 Try.underlying22 rfl (bytT_info _) ?_))
  have o12 : ∀ W : World, Calls Try.prog 23 #[.agg (arrB n), .agg (bytT 0)] W (RetV W (.agg (bytT ((leN n) % LL)))) := fun W => by have h := (SC.add n (leB 32 0) Hn.out (leB_len 32 0)) W; rw [leN_leB 32 0 (by decide), Nat.add_zero] at h; exact h
  with_reducible refine ((fun W => o12 W) _).mono ?_
  rintro e vq4 ⟨rfl, hbq4⟩
  have HRq4 := Lib.hid (HRq1.out.below hbq4)
  have HBq4 := Lib.hid (below_next HBq1.out hbq4)
  clear hbq4
  have h0q5 : (vq4.alloc (.cells zero32 22)).heap[vq4.heap.size]? = some (.cells zero32 22 (0, 0)) := heap_alloc_new _ _
  have HRq5 := Lib.hid (HRq4.out.new zero32 (bytT ((leN n) % LL)) 22)
  have HBq5 := Lib.hid (below_new HBq4.out zero32 (bytT ((leN n) % LL)) 22)
  have HNq5 := Lib.hid HRq4.out.ne
  have HGq5 := Lib.hid HBq4.out.size
  go_upto_region 4 with (refine wpList_store_row rfl 22 (.tmp 7) (.tmp 12) rfl vq4.heap.size (bytT ((leN n) % LL)) rfl rfl 22 zero32 h0q5 (bytT_info _) (zero32_byt _) (bytT_one _) ?_)
  obtain ⟨Wq5, hWq5⟩ : ∃ W, (vq4.alloc (.cells zero32 22)).setRow vq4.heap.size (bytT ((leN n) % LL)) = W := ⟨_, rfl⟩
  obtain ⟨gq5, hgq5⟩ : ∃ g, vq4.heap.size = g := ⟨_, rfl⟩
  rw [hWq5, hgq5] at HRq5
  rw [hWq5] at HBq5
  rw [hgq5] at HNq5 HGq5
  rw [hWq5, hgq5]
  clear hWq5 hgq5 h0q5
  have NEq5_0 : Hid (g0 ≠ gq5) := Lib.hid (HNq5.out (g0, (arrB n), 22) (by simp))
  have NEq5_1 : Hid ((g0 + 1) ≠ gq5) := Lib.hid (HNq5.out ((g0 + 1), (arrB m), 22) (by simp))
  have NEq5_2 : Hid (gq1 ≠ gq5) := Lib.hid (HNq5.out (gq1, (bytT 0), 22) (by simp))
  refine wp_region_noPanic ?_
  refine wp_region_held_drew (S := fun W => Below Wq5.heap.size Wq5 W) (by kernel_rfl) (by exact (Below.refl _ _).drew) (fun hS => ?_)
  refine' take_at 0 rfl (by kernel_rfl) (by kernel_rfl) (by kernel_rfl) (fun _ _ _ h => h) (by rfl) hS ?_ ?_ ?_
  rotate_left 2
  · intro W hSW; go_simp; try with_reducible rfl
  · simp only [List.set_cons_succ, List.set_cons_zero]; rfl
  refine' take_at 1 rfl (by kernel_rfl) (by kernel_rfl) (by kernel_rfl) (fun _ _ _ h => h) (by rfl) hS ?_ ?_ ?_
  rotate_left 2
  · intro W hSW; go_simp; try with_reducible rfl
  · simp only [List.set_cons_succ, List.set_cons_zero]; rfl
  refine call_at 2 rfl (by kernel_rfl) (by rfl) (fun K hK => ?_)
  go_simp
  with_reducible refine ((fun W => SC.order W) _).mono ?_
  rintro e vq6 ⟨rfl, hbq6⟩
  have kbq6 := below_next hS hbq6
  clear hS hbq6
  refine hK.out _ _ (by exact kbq6) (fun hS => ?_)
  clear hK K
  refine call_at 3 rfl (by kernel_rfl) (by rfl) (fun K hK => ?_)
  go_simp
  obtain ⟨p7, hp7⟩ : ∃ y_ : PtD, pmul (LL) F25519.base = y_ := ⟨_, rfl⟩
  have Hp7 := Lib.hid hp7
  clear hp7
  have o16 : ∀ W : World, Calls Try.prog 15 #[.agg (bytT LL)] W (RetPt R W (pmul (LL) F25519.base)) := fun W => by have h := (M.base (leB 32 LL) (leB_len 32 LL)) W; rw [leN_leB 32 LL LL_lt] at h; exact h
  with_reducible refine ((fun W => o16 W) _).mono ?_
  rintro e vq8 ⟨cq8, rfl, rq8, hbq8⟩
  rw [Hp7.out] at rq8
  have Rq8 := Lib.hid rq8
  clear rq8
  have kbq8 := below_next kbq6 hbq8
  clear hS hbq8
  refine hK.out _ _ (by exact kbq8) (fun hS => ?_)
  clear hK K
  refine call_at 4 rfl (by kernel_rfl) (by rfl) (fun K hK => ?_)
  go_simp
  with_reducible refine ((fun W => D.zero W) _).mono ?_
  rintro e vq9 ⟨cq9, rfl, rq9, hbq9⟩
  have Rq9 := Lib.hid rq9
  clear rq9
  have kbq9 := below_next kbq8 hbq9
  clear hS hbq9
  refine hK.out _ _ (by exact kbq9) (fun hS => ?_)
  clear hK K
  refine call_at 5 rfl (by kernel_rfl) (by rfl) (fun K hK => ?_)
  go_simp
  have kq10 := fun W : World => (D.equal Rq8.out Rq9.out) W
  rw [show ptEq p7 pzero = true from (ptEq_iff.2 (by rw [← Hp7.out]; exact base_LL))] at kq10
  have Kq10 := Lib.hid kq10
  clear kq10
  with_reducible refine (Kq10.out _).mono ?_
  rintro e vq10 ⟨rfl, hbq10⟩
  have kbq10 := below_next kbq9 hbq10
  clear hS hbq10
  refine hK.out _ _ (by exact kbq10) (fun hS => ?_)
  clear hK K
  refine' take_at 6 rfl (by kernel_rfl) (by kernel_rfl) (by kernel_rfl) (fun _ _ _ h => h) (by rfl) hS ?_ ?_ ?_
  rotate_left 2
  · intro W hSW; go_simp; try with_reducible rfl
  · simp only [List.set_cons_succ, List.set_cons_zero]; rfl
  refine' take_at 7 rfl (by kernel_rfl) (by kernel_rfl) (by kernel_rfl) (fun _ _ _ h => h) (by rfl) hS ?_ ?_ ?_
  rotate_left 2
  · intro W hSW; go_simp; try with_reducible rfl
  · simp only [List.set_cons_succ, List.set_cons_zero]; rfl
  refine' take_at 8 rfl (by kernel_rfl) (by kernel_rfl) (by kernel_rfl) (fun _ _ _ h => h) (by rfl) hS ?_ ?_ ?_
  rotate_left 2
  · intro W hSW; exact run_loadR rfl rfl (HRq5.out.below hSW).tail.tail.tail.head Try.underlying22 rfl (arr32_info Hn.out)
  · simp only [List.set_cons_succ, List.set_cons_zero]; rfl
  refine' take_at 10 rfl (by kernel_rfl) (by kernel_rfl) (by kernel_rfl) (fun _ _ _ h => h) (by rfl) hS ?_ ?_ ?_
  rotate_left 2
  · intro W hSW; exact run_loadR rfl rfl (HRq5.out.below hSW).head Try.underlying22 rfl (bytT_info _)
  · simp only [List.set_cons_succ, List.set_cons_zero]; rfl
  refine call_at 9 rfl (by kernel_rfl) (by rfl) (fun K hK => ?_)
  go_simp
  obtain ⟨p11, hp11⟩ : ∃ y_ : PtD, pmul (leN n) F25519.base = y_ := ⟨_, rfl⟩
  have Hp11 := Lib.hid hp11
  clear hp11
  with_reducible refine ((M.base n Hn.out) _).mono ?_
  rintro e vq12 ⟨cq12, rfl, rq12, hbq12⟩
  rw [Hp11.out] at rq12
  have Rq12 := Lib.hid rq12
  clear rq12
  have kbq12 := below_next kbq10 hbq12
  clear hS hbq12
  refine hK.out _ _ (by exact kbq12) (fun hS => ?_)
  clear hK K
  refine call_at 11 rfl (by kernel_rfl) (by rfl) (fun K hK => ?_)
  go_simp
  obtain ⟨p13, hp13⟩ : ∃ y_ : PtD, pmul (((leN n) % LL)) F25519.base = y_ := ⟨_, rfl⟩
  have Hp13 := Lib.hid hp13
  clear hp13
  have o24 : ∀ W : World, Calls Try.prog 15 #[.agg (bytT ((leN n) % LL))] W (RetPt R W (pmul (((leN n) % LL)) F25519.base)) := fun W => by have h := (M.base (leB 32 ((leN n) % LL)) (leB_len 32 ((leN n) % LL))) W; rw [leN_leB 32 ((leN n) % LL) (modLL_lt _)] at h; exact h
  with_reducible refine ((fun W => o24 W) _).mono ?_
  rintro e vq14 ⟨cq14, rfl, rq14, hbq14⟩
  rw [Hp13.out] at rq14
  have Rq14 := Lib.hid rq14
  clear rq14
  have kbq14 := below_next kbq12 hbq14
  clear hS hbq14
  refine hK.out _ _ (by exact kbq14) (fun hS => ?_)
  clear hK K
  refine call_at 12 rfl (by kernel_rfl) (by rfl) (fun K hK => ?_)
  go_simp
  have kq15 := fun W : World => (D.equal Rq12.out Rq14.out) W
  rw [show ptEq p11 p13 = true from (ptEq_iff.2 (by rw [← Hp11.out, ← Hp13.out, base_modLL]))] at kq15
  have Kq15 := Lib.hid kq15
  clear kq15
  with_reducible refine (Kq15.out _).mono ?_
  rintro e vq15 ⟨rfl, hbq15⟩
  have kbq15 := below_next kbq14 hbq15
  clear hS hbq15
  refine hK.out _ _ (by exact kbq15) (fun hS => ?_)
  clear hK K
  refine' take_at 13 rfl (by kernel_rfl) (by kernel_rfl) (by kernel_rfl) (fun _ _ _ h => h) (by rfl) hS ?_ ?_ ?_
  rotate_left 2
  · intro W hSW; go_simp; try with_reducible rfl
  · simp only [List.set_cons_succ, List.set_cons_zero]; rfl
  refine' take_at 14 rfl (by kernel_rfl) (by kernel_rfl) (by kernel_rfl) (fun _ _ _ h => h) (by rfl) hS ?_ ?_ ?_
  rotate_left 2
  · intro W hSW; go_simp; try with_reducible rfl
  · simp only [List.set_cons_succ, List.set_cons_zero]; rfl
  refine' take_at 15 rfl (by kernel_rfl) (by kernel_rfl) (by kernel_rfl) (fun _ _ _ h => h) (by rfl) hS ?_ ?_ ?_
  rotate_left 2
  · intro W hSW; exact run_loadR rfl rfl (HRq5.out.below hSW).tail.tail.tail.head Try.underlying22 rfl (arr32_info Hn.out)
  · simp only [List.set_cons_succ, List.set_cons_zero]; rfl
  refine' take_at 17 rfl (by kernel_rfl) (by kernel_rfl) (by kernel_rfl) (fun _ _ _ h => h) (by rfl) hS ?_ ?_ ?_
  rotate_left 2
  · intro W hSW; exact run_loadR rfl rfl (HRq5.out.below hSW).tail.tail.head Try.underlying22 rfl (arr32_info Hm.out)
  · simp only [List.set_cons_succ, List.set_cons_zero]; rfl
  refine' take_at 20 rfl (by kernel_rfl) (by kernel_rfl) (by kernel_rfl) (fun _ _ _ h => h) (by rfl) hS ?_ ?_ ?_
  rotate_left 2
  · intro W hSW; exact run_loadR rfl rfl (HRq5.out.below hSW).tail.tail.tail.head Try.underlying22 rfl (arr32_info Hn.out)
  · simp only [List.set_cons_succ, List.set_cons_zero]; rfl
  refine' take_at 21 rfl (by kernel_rfl) (by kernel_rfl) (by kernel_rfl) (fun _ _ _ h => h) (by rfl) hS ?_ ?_ ?_
  rotate_left 2
  · intro W hSW; exact run_loadR rfl rfl (HRq5.out.below hSW).tail.tail.head Try.underlying22 rfl (arr32_info Hm.out)
  · simp only [List.set_cons_succ, List.set_cons_zero]; rfl
  refine call_at 16 rfl (by kernel_rfl) (by rfl) (fun K hK => ?_)
  go_simp
  with_reducible refine ((M.base n Hn.out) _).mono ?_
  rintro e vq16 ⟨cq16, rfl, rq16, hbq16⟩
  rw [Hp11.out] at rq16
  have Rq16 := Lib.hid rq16
  clear rq16
  have kbq16 := below_next kbq15 hbq16
  clear hS hbq16
  refine hK.out _ _ (by exact kbq16) (fun hS => ?_)
  clear hK K
  refine call_at 18 rfl (by kernel_rfl) (by rfl) (fun K hK => ?_)
  go_simp
  obtain ⟨p17, hp17⟩ : ∃ y_ : PtD, pmul (leN m) F25519.base = y_ := ⟨_, rfl⟩
  have Hp17 := Lib.hid hp17
  clear hp17
  with_reducible refine ((M.base m Hm.out) _).mono ?_
  rintro e vq18 ⟨cq18, rfl, rq18, hbq18⟩
  rw [Hp17.out] at rq18
  have Rq18 := Lib.hid rq18
  clear rq18
  have kbq18 := below_next kbq16 hbq18
  clear hS hbq18
  refine hK.out _ _ (by exact kbq18) (fun hS => ?_)
  clear hK K
  refine call_at 19 rfl (by kernel_rfl) (by rfl) (fun K hK => ?_)
  go_simp
  obtain ⟨p19, hp19⟩ : ∃ y_ : PtD, padd p11 p17 = y_ := ⟨_, rfl⟩
  have Hp19 := Lib.hid hp19
  clear hp19
  with_reducible refine ((D.add Rq16.out Rq18.out) _).mono ?_
  rintro e vq20 ⟨cq20, rfl, rq20, hbq20⟩
  rw [Hp19.out] at rq20
  have Rq20 := Lib.hid rq20
  clear rq20
  have kbq20 := below_next kbq18 hbq20
  clear hS hbq20
  refine hK.out _ _ (by exact kbq20) (fun hS => ?_)
  clear hK K
  refine call_at 22 rfl (by kernel_rfl) (by rfl) (fun K hK => ?_)
  go_simp
  have o35 : ∀ W : World, Calls Try.prog 23 #[.agg (arrB n), .agg (arrB m)] W (RetV W (.agg (bytT ((leN n + leN m) % LL)))) := fun W => by have h := (SC.add n m Hn.out Hm.out) W; exact h
  with_reducible refine ((fun W => o35 W) _).mono ?_
  rintro e vq21 ⟨rfl, hbq21⟩
  have kbq21 := below_next kbq20 hbq21
  clear hS hbq21
  refine hK.out _ _ (by exact kbq21) (fun hS => ?_)
  clear hK K
  refine call_at 23 rfl (by kernel_rfl) (by rfl) (fun K hK => ?_)
  go_simp
  obtain ⟨p22, hp22⟩ : ∃ y_ : PtD, pmul (((leN n + leN m) % LL)) F25519.base = y_ := ⟨_, rfl⟩
  have Hp22 := Lib.hid hp22
  clear hp22
  have o36 : ∀ W : World, Calls Try.prog 15 #[.agg (bytT ((leN n + leN m) % LL))] W (RetPt R W (pmul (((leN n + leN m) % LL)) F25519.base)) := fun W => by have h := (M.base (leB 32 ((leN n + leN m) % LL)) (leB_len 32 ((leN n + leN m) % LL))) W; rw [leN_leB 32 ((leN n + leN m) % LL) (modLL_lt _)] at h; exact h
  with_reducible refine ((fun W => o36 W) _).mono ?_
  rintro e vq23 ⟨cq23, rfl, rq23, hbq23⟩
  rw [Hp22.out] at rq23
  have Rq23 := Lib.hid rq23
  clear rq23
  have kbq23 := below_next kbq21 hbq23
  clear hS hbq23
  refine hK.out _ _ (by exact kbq23) (fun hS => ?_)
  clear hK K
  refine call_at 24 rfl (by kernel_rfl) (by rfl) (fun K hK => ?_)
  go_simp
  have kq24 := fun W : World => (D.equal Rq20.out Rq23.out) W
  rw [show ptEq p19 p22 = true from (ptEq_iff.2 (by rw [← Hp19.out, ← Hp11.out, ← Hp17.out, ← Hp22.out, pmul_add, base_modLL]))] at kq24
  have Kq24 := Lib.hid kq24
  clear kq24
  with_reducible refine (Kq24.out _).mono ?_
  rintro e vq24 ⟨rfl, hbq24⟩
  have kbq24 := below_next kbq23 hbq24
  clear hS hbq24
  refine hK.out _ _ (by exact kbq24) (fun hS => ?_)
  clear hK K
  refine' take_at 25 rfl (by kernel_rfl) (by kernel_rfl) (by kernel_rfl) (fun _ _ _ h => h) (by rfl) hS ?_ ?_ ?_
  rotate_left 2
  · intro W hSW; go_simp; try with_reducible rfl
  · simp only [List.set_cons_succ, List.set_cons_zero]; rfl
  refine' take_at 26 rfl (by kernel_rfl) (by kernel_rfl) (by kernel_rfl) (fun _ _ _ h => h) (by rfl) hS ?_ ?_ ?_
  rotate_left 2
  · intro W hSW; go_simp; try with_reducible rfl
  · simp only [List.set_cons_succ, List.set_cons_zero]; rfl
  refine' take_at 27 rfl (by kernel_rfl) (by kernel_rfl) (by kernel_rfl) (fun _ _ _ h => h) (by rfl) hS ?_ ?_ ?_
  rotate_left 2
  · intro W hSW; exact run_loadR rfl rfl (HRq5.out.below hSW).tail.tail.head Try.underlying22 rfl (arr32_info Hm.out)
  · simp only [List.set_cons_succ, List.set_cons_zero]; rfl
  refine' take_at 28 rfl (by kernel_rfl) (by kernel_rfl) (by kernel_rfl) (fun _ _ _ h => h) (by rfl) hS ?_ ?_ ?_
  rotate_left 2
  · intro W hSW; exact run_loadR rfl rfl (HRq5.out.below hSW).tail.tail.tail.head Try.underlying22 rfl (arr32_info Hn.out)
  · simp only [List.set_cons_succ, List.set_cons_zero]; rfl
  refine' take_at 31 rfl (by kernel_rfl) (by kernel_rfl) (by kernel_rfl) (fun _ _ _ h => h) (by rfl) hS ?_ ?_ ?_
  rotate_left 2
  · intro W hSW; exact run_loadR rfl rfl (HRq5.out.below hSW).tail.tail.tail.head Try.underlying22 rfl (arr32_info Hn.out)
  · simp only [List.set_cons_succ, List.set_cons_zero]; rfl
  refine' take_at 32 rfl (by kernel_rfl) (by kernel_rfl) (by kernel_rfl) (fun _ _ _ h => h) (by rfl) hS ?_ ?_ ?_
  rotate_left 2
  · intro W hSW; exact run_loadR rfl rfl (HRq5.out.below hSW).tail.tail.head Try.underlying22 rfl (arr32_info Hm.out)
  · simp only [List.set_cons_succ, List.set_cons_zero]; rfl
  refine' take_at 33 rfl (by kernel_rfl) (by kernel_rfl) (by kernel_rfl) (fun _ _ _ h => h) (by rfl) hS ?_ ?_ ?_
  rotate_left 2
  · intro W hSW; exact run_loadR rfl rfl (HRq5.out.below hSW).tail.head Try.underlying22 rfl (bytT_info _)
  · simp only [List.set_cons_succ, List.set_cons_zero]; rfl
  refine call_at 29 rfl (by kernel_rfl) (by rfl) (fun K hK => ?_)
  go_simp
  with_reducible refine ((M.base n Hn.out) _).mono ?_
  rintro e vq25 ⟨cq25, rfl, rq25, hbq25⟩
  rw [Hp11.out] at rq25
  have Rq25 := Lib.hid rq25
  clear rq25
  have kbq25 := below_next kbq24 hbq25
  clear hS hbq25
  refine hK.out _ _ (by exact kbq25) (fun hS => ?_)
  clear hK K
  refine call_at 30 rfl (by kernel_rfl) (by rfl) (fun K hK => ?_)
  go_simp
  obtain ⟨p26, hp26⟩ : ∃ y_ : PtD, pmul (leN m) p11 = y_ := ⟨_, rfl⟩
  have Hp26 := Lib.hid hp26
  clear hp26
  with_reducible refine ((M.mult m Hm.out Rq25.out) _).mono ?_
  rintro e vq27 ⟨cq27, rfl, rq27, hbq27⟩
  rw [Hp26.out] at rq27
  have Rq27 := Lib.hid rq27
  clear rq27
  have kbq27 := below_next kbq25 hbq27
  clear hS hbq27
  refine hK.out _ _ (by exact kbq27) (fun hS => ?_)
  clear hK K
  refine call_at 34 rfl (by kernel_rfl) (by rfl) (fun K hK => ?_)
  go_simp
  have o47 : ∀ W : World, Calls Try.prog 25 #[.agg (arrB n), .agg (arrB m), .agg (bytT 0)] W (RetV W (.agg (bytT ((leN n * leN m) % LL)))) := fun W => by have h := (SC.mulAdd n m (leB 32 0) Hn.out Hm.out (leB_len 32 0)) W; rw [leN_leB 32 0 (by decide), Nat.add_zero] at h; exact h
  with_reducible refine ((fun W => o47 W) _).mono ?_
  rintro e vq28 ⟨rfl, hbq28⟩
  have kbq28 := below_next kbq27 hbq28
  clear hS hbq28
  refine hK.out _ _ (by exact kbq28) (fun hS => ?_)
  clear hK K
  refine call_at 35 rfl (by kernel_rfl) (by rfl) (fun K hK => ?_)
  go_simp
  obtain ⟨p29, hp29⟩ : ∃ y_ : PtD, pmul (((leN n * leN m) % LL)) F25519.base = y_ := ⟨_, rfl⟩
  have Hp29 := Lib.hid hp29
  clear hp29
  have o48 : ∀ W : World, Calls Try.prog 15 #[.agg (bytT ((leN n * leN m) % LL))] W (RetPt R W (pmul (((leN n * leN m) % LL)) F25519.base)) := fun W => by have h := (M.base (leB 32 ((leN n * leN m) % LL)) (leB_len 32 ((leN n * leN m) % LL))) W; rw [leN_leB 32 ((leN n * leN m) % LL) (modLL_lt _)] at h; exact h
  with_reducible refine ((fun W => o48 W) _).mono ?_
  rintro e vq30 ⟨cq30, rfl, rq30, hbq30⟩
  rw [Hp29.out] at rq30
  have Rq30 := Lib.hid rq30
  clear rq30
  have kbq30 := below_next kbq28 hbq30
  clear hS hbq30
  refine hK.out _ _ (by exact kbq30) (fun hS => ?_)
  clear hK K
  refine call_at 36 rfl (by kernel_rfl) (by rfl) (fun K hK => ?_)
  go_simp
  have kq31 := fun W : World => (D.equal Rq27.out Rq30.out) W
  rw [show ptEq p26 p29 = true from (ptEq_iff.2 (by rw [← Hp26.out, ← Hp11.out, ← Hp29.out, pmul_mul, base_modLL]))] at kq31
  have Kq31 := Lib.hid kq31
  clear kq31
  with_reducible refine (Kq31.out _).mono ?_
  rintro e vq31 ⟨rfl, hbq31⟩
  have kbq31 := below_next kbq30 hbq31
  clear hS hbq31
  refine hK.out _ _ (by exact kbq31) (fun hS => ?_)
  clear hK K
  refine' take_at 37 rfl (by kernel_rfl) (by kernel_rfl) (by kernel_rfl) (fun _ _ _ h => h) (by rfl) hS ?_ ?_ ?_
  rotate_left 2
  · intro W hSW; go_simp; try with_reducible rfl
  · simp only [List.set_cons_succ, List.set_cons_zero]; rfl
  refine' take_at 38 rfl (by kernel_rfl) (by kernel_rfl) (by kernel_rfl) (fun _ _ _ h => h) (by rfl) hS ?_ ?_ ?_
  rotate_left 2
  · intro W hSW; go_simp; try with_reducible rfl
  · simp only [List.set_cons_succ, List.set_cons_zero]; rfl
  refine wpAnyH_done (by kernel_rfl) ?_ _
  refine NoPanic.normal ?_
  clear hS
  (try simp only [Act.put])
  have HRq32 := Lib.hid (HRq5.out.below kbq31)
  have HBq32 := Lib.hid (below_next HBq5.out kbq31)
  go_wp2_with fail
  go_ret
  exact ⟨rfl, HBq32.out⟩
end Go.Proofs.Ytfejabfmhddepaa

namespace Go.Proofs.Ytfejabfmhddepaa
set_option linter.unusedVariables false
set_option maxRecDepth 100000
open Pm Fl
namespace Ed
section
variable {N : Nat} [NeZero N]
theorem dbl1 (x y u : Fin N) : (x * u + y * u) * (x * u + y * u) - (x * u * (x * u) + y * u * (y * u)) = u * u * (x * y + x * y) := by grind
theorem dbl2 {d x y : Fin N} (u : Fin N) (h : y * y - x * x = 1 + d * (x * x) * (y * y)) : y * u * (y * u) - x * u * (x * u) = u * u * (1 + d * x * x * y * y) := by
  have e : y * u * (y * u) - x * u * (x * u) = u * u * (y * y - x * x) := by grind
  rw [e, h]
  grind
theorem dbl3 (d x y u : Fin N) : u * u + u * u - u * u * (1 + d * x * x * y * y) = u * u * (1 - d * x * x * y * y) := by grind
theorem dbl4 (x y u : Fin N) : x * u * (x * u) + y * u * (y * u) = u * u * (y * y + x * x) := by grind
theorem dbl5 (a b c u : Fin N) : u * u * (a * b) * (u * u * c) = a * (u * u * c * (u * u * b)) := by grind
theorem dbl6 (a b c u : Fin N) : u * u * b * (u * u * (a * c)) = a * (u * u * c * (u * u * b)) := by grind
theorem dbl7 (a b c e u : Fin N) : u * u * (a * b) * (u * u * (e * c)) = a * e * (u * u * c * (u * u * b)) := by grind
theorem rep_dbl {d i : Fin N} (hf : Full d i) {X Y Z T : Fin N} {p : Pt d} (hp : Rep X Y Z T p) :
    Rep (((X + Y) * (X + Y) - (X * X + Y * Y)) * (Z * Z + Z * Z - (Y * Y - X * X))) ((Y * Y - X * X) * (X * X + Y * Y)) ((Z * Z + Z * Z - (Y * Y - X * X)) * (Y * Y - X * X)) (((X + Y) * (X + Y) - (X * X + Y * Y)) * (X * X + Y * Y)) (p.add hf p) := by
  obtain ⟨z, rfl, rfl, rfl⟩ := hp
  have pr := hf.pr
  obtain ⟨hB, hD⟩ := full_ne hf p.on p.on
  have hu : (p.add hf p).x * (1 + d * p.x * p.x * p.y * p.y) = p.x * p.y + p.x * p.y := inv_right pr hB
  have hv : (p.add hf p).y * (1 - d * p.x * p.x * p.y * p.y) = p.y * p.y + p.x * p.x := inv_right pr hD
  have hz := mul_ne pr z z
  rw [dbl1, dbl2 Z p.on, dbl3, dbl4, ← hu, ← hv]
  exact ⟨mul_ne pr (mul_ne pr hz hD) (mul_ne pr hz hB), dbl5 _ _ _ _, dbl6 _ _ _ _, dbl7 _ _ _ _ _⟩
end
end Ed
theorem co_dbl {X Y Z T a b z h g s ss e zz f : Nat} {p : PtD} (hp : Co X Y Z T p) (ha : (X * X) % PP = a) (hb : (Y * Y) % PP = b) (hz : (Z * Z) % PP = z) (hh : (a + b) % PP = h) (hg : (b + (PP - a)) % PP = g)
    (hs : (X + Y) % PP = s) (hss : (s * s) % PP = ss) (he : (ss + (PP - h)) % PP = e) (hzz : (z + z) % PP = zz) (hf : (zz + (PP - g)) % PP = f) :
    Co ((e * f) % PP) ((g * h) % PP) ((f * g) % PP) ((e * h) % PP) (padd p p) := by
  refine ⟨mod_lt_PP _, mod_lt_PP _, mod_lt_PP _, mod_lt_PP _, ?_⟩
  have r := Ed.rep_dbl F25519.full hp.rep
  have la : a < PP := by rw [← ha]; exact mod_lt_PP _
  have lh : h < PP := by rw [← hh]; exact mod_lt_PP _
  have lg : g < PP := by rw [← hg]; exact mod_lt_PP _
  have ea : F25519.c a = F25519.c X * F25519.c X := by rw [← ha, c_prod]
  have eb : F25519.c b = F25519.c Y * F25519.c Y := by rw [← hb, c_prod]
  have ez : F25519.c z = F25519.c Z * F25519.c Z := by rw [← hz, c_prod]
  have eh : F25519.c h = F25519.c X * F25519.c X + F25519.c Y * F25519.c Y := by rw [← hh, c_plus, ea, eb]
  have eg : F25519.c g = F25519.c Y * F25519.c Y - F25519.c X * F25519.c X := by rw [← hg, c_less la, ea, eb]
  have ee : F25519.c e = (F25519.c X + F25519.c Y) * (F25519.c X + F25519.c Y) - (F25519.c X * F25519.c X + F25519.c Y * F25519.c Y) := by rw [← he, c_less lh, ← hss, c_prod, ← hs, c_plus, eh]
  have ef : F25519.c f = F25519.c Z * F25519.c Z + F25519.c Z * F25519.c Z - (F25519.c Y * F25519.c Y - F25519.c X * F25519.c X) := by rw [← hf, c_less lg, ← hzz, c_plus, ez, eg]
  rw [c_prod, c_prod, c_prod, c_prod, ee, ef, eg, eh]
  exact r
theorem twice_mod (x d m : Nat) : (x * ((d + d) % m)) % m = ((x * d) % m + (x * d) % m) % m := by
  rw [← Nat.add_mod, Nat.mul_mod, Nat.mod_mod, ← Nat.mul_mod, Nat.mul_add]
theorem twice_mod2 (x d m : Nat) : ((x + x) % m * d) % m = ((x * d) % m + (x * d) % m) % m := by
  rw [← Nat.add_mod, Nat.mul_mod, Nat.mod_mod, ← Nat.mul_mod, Nat.add_mul]
theorem co_add2 {X1 Y1 Z1 T1 X2 Y2 Z2 T2 A B t c C z D E F G H : Nat} {p q : PtD} (h1 : Co X1 Y1 Z1 T1 p) (h2 : Co X2 Y2 Z2 T2 q)
    (hA : ((Y1 + (PP - X1)) % PP * ((Y2 + (PP - X2)) % PP)) % PP = A) (hB : ((Y1 + X1) % PP * ((Y2 + X2) % PP)) % PP = B)
    (ht : (T1 * T2) % PP = t) (hc : (t * edN) % PP = c) (hC : (c + c) % PP = C) (hz : (Z1 * Z2) % PP = z) (hD : (z + z) % PP = D)
    (hE : (B + (PP - A)) % PP = E) (hF : (D + (PP - C)) % PP = F) (hG : (D + C) % PP = G) (hH : (B + A) % PP = H) :
    Co ((E * F) % PP) ((G * H) % PP) ((F * G) % PP) ((E * H) % PP) (padd p q) :=
  co_add h1 h2 hA hB (by rw [ht, twice_mod, hc, hC]) (by rw [twice_mod2, hz, hD]) hE hF hG hH
def Pq (X Y Z T : Nat) (p : PtD) : Prop := Co X Y Z T p ∨ (X = 0 ∧ Y = 0 ∧ Z = 0 ∧ T = 0 ∧ p = pzero)
theorem co_zne {X Y Z T : Nat} {p : PtD} (h : Co X Y Z T p) : ¬ Z = 0 := fun e => h.rep.z (by rw [e]; rfl)
theorem Pq.no {X Y Z T : Nat} {p : PtD} (h : Pq X Y Z T p) (hz : ¬ Z = 0) : Co X Y Z T p := h.elim id fun e => absurd e.2.2.1 hz
theorem Pq.yes {X Y Z T : Nat} {p : PtD} (h : Pq X Y Z T p) (hz : Z = 0) : p = pzero := h.elim (fun e => absurd hz (co_zne e)) fun e => e.2.2.2.2
theorem pq_zero : Pq 0 0 0 0 pzero := .inr ⟨rfl, rfl, rfl, rfl, rfl⟩
theorem neg0 (m : Nat) : (m - 0) % m = 0 := by rw [Nat.sub_zero, Nat.mod_self]
theorem sub0 (m : Nat) : (0 + (m - 0)) % m = 0 := by rw [Nat.zero_add, neg0]
theorem pneg_zero : Ed.Pt.neg pzero = pzero := Ed.Pt.ext_ (by show -(0 : Fin F25519.P) = 0; grind) rfl
theorem pq_neg {X Y Z T : Nat} {p : PtD} (h : Pq X Y Z T p) : Pq ((PP - X) % PP) Y Z ((PP - T) % PP) p.neg := by
  rcases h with h | ⟨rfl, rfl, rfl, rfl, rfl⟩
  · exact .inl (co_neg h)
  · rw [neg0, pneg_zero]; exact pq_zero
theorem pq_dbl {X Y Z T a b z h g s ss e zz f : Nat} {p : PtD} (hp : Pq X Y Z T p) (ha : (X * X) % PP = a) (hb : (Y * Y) % PP = b) (hz : (Z * Z) % PP = z) (hh : (a + b) % PP = h) (hg : (b + (PP - a)) % PP = g)
    (hs : (X + Y) % PP = s) (hss : (s * s) % PP = ss) (he : (ss + (PP - h)) % PP = e) (hzz : (z + z) % PP = zz) (hf : (zz + (PP - g)) % PP = f) :
    Pq ((e * f) % PP) ((g * h) % PP) ((f * g) % PP) ((e * h) % PP) (padd p p) := by
  rcases hp with hp | ⟨rfl, rfl, rfl, rfl, rfl⟩
  · exact .inl (co_dbl hp ha hb hz hh hg hs hss he hzz hf)
  · rw [Nat.zero_mul, Nat.zero_mod] at ha hb hz
    subst ha hb hz
    rw [sub0] at hg
    rw [Nat.zero_add, Nat.zero_mod] at hh hs hzz
    subst hg hh hs hzz
    rw [Nat.zero_mul, Nat.zero_mod] at hss
    subst hss
    rw [sub0] at he hf
    subst he hf
    rw [Nat.zero_mul, Nat.zero_mod]
    refine .inr ⟨rfl, rfl, rfl, rfl, ?_⟩
    exact Ed.Pt.zero_add (hf := F25519.full) pzero
def bD : List UInt8 := [0xa3, 0x78, 0x59, 0x13, 0xca, 0x4d, 0xeb, 0x75, 0xab, 0xd8, 0x41, 0x41, 0x4d, 0x0a, 0x70, 0x00, 0x98, 0xe8, 0x79, 0x77, 0x79, 0x40, 0xc7, 0x8c, 0x73, 0xfe, 0x6f, 0x2b, 0xee, 0x6c, 0x03, 0x52]
def bBX : List UInt8 := [0x1a, 0xd5, 0x25, 0x8f, 0x60, 0x2d, 0x56, 0xc9, 0xb2, 0xa7, 0x25, 0x95, 0x60, 0xc7, 0x2c, 0x69, 0x5c, 0xdc, 0xd6, 0xfd, 0x31, 0xe2, 0xa4, 0xc0, 0xfe, 0x53, 0x6e, 0xcd, 0xd3, 0x36, 0x69, 0x21]
def bBY : List UInt8 := [0x58, 0x66, 0x66, 0x66, 0x66, 0x66, 0x66, 0x66, 0x66, 0x66, 0x66, 0x66, 0x66, 0x66, 0x66, 0x66, 0x66, 0x66, 0x66, 0x66, 0x66, 0x66, 0x66, 0x66, 0x66, 0x66, 0x66, 0x66, 0x66, 0x66, 0x66, 0x66]
theorem bD_len : bD.length = 32 := rfl
theorem bBX_len : bBX.length = 32 := rfl
theorem bBY_len : bBY.length = 32 := rfl
theorem edN_val : edN = F25519.dV.val := by
  have h := congrArg Fin.val c_edN
  rwa [c_valP edN_lt] at h
theorem bD_fe : feN bD = edN := by
  rw [edN_val]
  show feN bD = 37095705934669439343138083508754565189542113879843219016388785533085940283555
  decide +kernel
theorem bBX_fe : feN bBX = F25519.bX := by decide +kernel
theorem bBY_fe : feN bBY = F25519.bY := by decide +kernel
end Go.Proofs.Ytfejabfmhddepaa

namespace Go.Proofs.Ytfejabfmhddepaa
open Go.RowKit
set_option linter.unusedVariables false
set_option maxRecDepth 100000
def RetFeB (R : Array Value → Nat → Prop) (W : World) (x : Nat) (b : Bool) (e : Ending) (w' : World) : Prop := ∃ c, e = .returned (.tuple #[.agg c, .bool b]) ∧ R c x ∧ Below W.heap.size W w'
end Go.Proofs.Ytfejabfmhddepaa

namespace Go.Proofs.Ytfejabfmhddepaa
set_option linter.unusedVariables false
set_option maxRecDepth 100000
abbrev M51 : Nat := 2251799813685248
abbrev M102 : Nat := 5070602400912917605986812821504
abbrev M153 : Nat := 11417981541647679048466287755595961091061972992
abbrev M204 : Nat := 25711008708143844408671393477458601640355247900524685364822016
def val5 (a b c d e : Nat) : Nat := a + b * M51 + c * M102 + d * M153 + e * M204
theorem val5_carry (a b c d e : Nat) : val5 (a % M51 + 19 * (e / M51)) (b % M51 + a / M51) (c % M51 + b / M51) (d % M51 + c / M51) (e % M51 + d / M51) + (e / M51) * PP = val5 a b c d e := by
  unfold val5
  unfold M51 M102 M153 M204 PP
  omega
theorem val5_mod {a b c d e : Nat} : val5 (a % M51 + 19 * (e / M51)) (b % M51 + a / M51) (c % M51 + b / M51) (d % M51 + c / M51) (e % M51 + d / M51) % PP = val5 a b c d e % PP := by
  rw [← val5_carry a b c d e, Nat.add_mul_mod_self_right]
theorem val5_add (a b c d e a' b' c' d' e' : Nat) : val5 (a + a') (b + b') (c + c') (d + d') (e + e') = val5 a b c d e + val5 a' b' c' d' e' := by
  unfold val5; unfold M51 M102 M153 M204; omega
abbrev L51 : Nat := 2251799813947392
theorem val5_lt {a b c d e : Nat} (ha : a < L51) (hb : b < L51) (hc : c < L51) (hd : d < L51) (he : e < L51) : val5 a b c d e + 38 < 2 * TT := by
  unfold val5 M51 M102 M153 M204 TT
  unfold L51 at *
  omega
theorem sub_mod {x y s : Nat} (h : s + y = x + 2 * PP) : s % PP = (x % PP + (PP - y % PP)) % PP := by
  unfold PP at *; omega
theorem add_mod5 (x y : Nat) : (x + y) % PP = (x % PP + y % PP) % PP := Nat.add_mod x y PP
theorem mul_id (x0 x1 x2 x3 x4 y0 y1 y2 y3 y4 m t : Nat) (h : m * m * m * m * m = t + 19) :
    (x0 + x1 * m + x2 * (m * m) + x3 * (m * m * m) + x4 * (m * m * m * m)) * (y0 + y1 * m + y2 * (m * m) + y3 * (m * m * m) + y4 * (m * m * m * m)) =
    (x0 * y0 + x1 * (19 * y4) + x2 * (19 * y3) + x3 * (19 * y2) + x4 * (19 * y1)) + (x0 * y1 + x1 * y0 + x2 * (19 * y4) + x3 * (19 * y3) + x4 * (19 * y2)) * m +
    (x0 * y2 + x1 * y1 + x2 * y0 + x3 * (19 * y4) + x4 * (19 * y3)) * (m * m) + (x0 * y3 + x1 * y2 + x2 * y1 + x3 * y0 + x4 * (19 * y4)) * (m * m * m) +
    (x0 * y4 + x1 * y3 + x2 * y2 + x3 * y1 + x4 * y0) * (m * m * m * m) +
    (x1 * y4 + x2 * y3 + x3 * y2 + x4 * y1 + (x2 * y4 + x3 * y3 + x4 * y2) * m + (x3 * y4 + x4 * y3) * (m * m) + x4 * y4 * (m * m * m)) * t := by
  have ht : ∀ k : Nat, k * t + k * 19 = k * (m * m * m * m * m) := fun k => by rw [h, Nat.mul_add]
  grind
theorem val5_mul (x0 x1 x2 x3 x4 y0 y1 y2 y3 y4 : Nat) :
    val5 (x0 * y0 + x1 * (19 * y4) + x2 * (19 * y3) + x3 * (19 * y2) + x4 * (19 * y1)) (x0 * y1 + x1 * y0 + x2 * (19 * y4) + x3 * (19 * y3) + x4 * (19 * y2))
      (x0 * y2 + x1 * y1 + x2 * y0 + x3 * (19 * y4) + x4 * (19 * y3)) (x0 * y3 + x1 * y2 + x2 * y1 + x3 * y0 + x4 * (19 * y4)) (x0 * y4 + x1 * y3 + x2 * y2 + x3 * y1 + x4 * y0) % PP =
    (val5 x0 x1 x2 x3 x4 % PP * (val5 y0 y1 y2 y3 y4 % PP)) % PP := by
  have h := mul_id x0 x1 x2 x3 x4 y0 y1 y2 y3 y4 M51 PP (by decide)
  have e2 : M51 * M51 = M102 := by decide
  have e3 : M51 * M51 * M51 = M153 := by decide
  have e4 : M51 * M51 * M51 * M51 = M204 := by decide
  rw [e4, e3, e2] at h
  rw [← Nat.mul_mod]
  unfold val5
  rw [h, Nat.add_mul_mod_self_right]
theorem reduced_val {a b c d e : Nat} (ha : a < L51) (hb : b < L51) (hc : c < L51) (hd : d < L51) (he : e < L51) {o1 o2 o3 o4 o5 l0 l1 l2 l3 l4 : Nat}
    (h1 : o1 = (a + 19) / M51) (h2 : o2 = (b + o1) / M51) (h3 : o3 = (c + o2) / M51) (h4 : o4 = (d + o3) / M51) (h5 : o5 = (e + o4) / M51)
    (k0 : l0 = a + 19 * o5) (k1 : l1 = b + l0 / M51) (k2 : l2 = c + l1 / M51) (k3 : l3 = d + l2 / M51) (k4 : l4 = e + l3 / M51) :
    val5 (l0 % M51) (l1 % M51) (l2 % M51) (l3 % M51) (l4 % M51) = val5 a b c d e % PP := by
  have hv := val5_lt ha hb hc hd he
  have e1 : val5 a b c d e + 19 = (val5 ((a + 19) % M51) ((b + o1) % M51) ((c + o2) % M51) ((d + o3) % M51) ((e + o4) % M51)) + o5 * TT := by
    unfold val5 M102 M153 M204 TT
    unfold M51 at *
    omega
  have b1 : val5 ((a + 19) % M51) ((b + o1) % M51) ((c + o2) % M51) ((d + o3) % M51) ((e + o4) % M51) < TT := by
    have := Nat.mod_lt (a + 19) (show M51 > 0 by decide)
    have := Nat.mod_lt (b + o1) (show M51 > 0 by decide)
    have := Nat.mod_lt (c + o2) (show M51 > 0 by decide)
    have := Nat.mod_lt (d + o3) (show M51 > 0 by decide)
    have := Nat.mod_lt (e + o4) (show M51 > 0 by decide)
    generalize (a + 19) % M51 = r0 at *
    generalize (b + o1) % M51 = r1 at *
    generalize (c + o2) % M51 = r2 at *
    generalize (d + o3) % M51 = r3 at *
    generalize (e + o4) % M51 = r4 at *
    clear h1 h2 h3 h4 h5 k0 k1 k2 k3 k4 e1
    unfold val5 M102 M153 M204 TT
    unfold M51 at *
    omega
  have e2 : val5 (l0 % M51) (l1 % M51) (l2 % M51) (l3 % M51) (l4 % M51) + (l4 / M51) * TT = val5 a b c d e + 19 * o5 := by
    clear h1 h2 h3 h4 h5 e1 b1 hv
    unfold val5 M102 M153 M204 TT
    unfold M51 at *
    omega
  have b2 : val5 (l0 % M51) (l1 % M51) (l2 % M51) (l3 % M51) (l4 % M51) < TT := by
    have := Nat.mod_lt l0 (show M51 > 0 by decide)
    have := Nat.mod_lt l1 (show M51 > 0 by decide)
    have := Nat.mod_lt l2 (show M51 > 0 by decide)
    have := Nat.mod_lt l3 (show M51 > 0 by decide)
    have := Nat.mod_lt l4 (show M51 > 0 by decide)
    generalize l0 % M51 = r0 at *
    generalize l1 % M51 = r1 at *
    generalize l2 % M51 = r2 at *
    generalize l3 % M51 = r3 at *
    generalize l4 % M51 = r4 at *
    clear h1 h2 h3 h4 h5 k0 k1 k2 k3 k4 e1 e2 b1
    unfold val5 M102 M153 M204 TT
    unfold M51 at *
    omega
  generalize val5 (l0 % M51) (l1 % M51) (l2 % M51) (l3 % M51) (l4 % M51) = R at *
  generalize val5 ((a + 19) % M51) ((b + o1) % M51) ((c + o2) % M51) ((d + o3) % M51) ((e + o4) % M51) = S at *
  generalize val5 a b c d e = V at *
  generalize l4 / M51 = q at *
  clear h1 h2 h3 h4 h5 k0 k1 k2 k3 k4 ha hb hc hd he
  unfold TT at *
  unfold PP
  have : o5 = 0 ∨ o5 = 1 := by omega
  rcases this with rfl | rfl
  · have : q = 0 := by omega
    subst this
    omega
  · have : q = 1 := by omega
    subst this
    omega
theorem val5_lim {a b c d e : Nat} (ha : a < M51) (hb : b < M51) (hc : c < M51) (hd : d < M51) (he : e < M51) : val5 a b c d e < TT := by
  unfold val5 M102 M153 M204 TT; unfold M51 at *; omega
theorem val5_inj {a b c d e a' b' c' d' e' : Nat} (ha : a < M51) (hb : b < M51) (hc : c < M51) (hd : d < M51) (ha' : a' < M51) (hb' : b' < M51) (hc' : c' < M51) (hd' : d' < M51)
    (h : val5 a b c d e = val5 a' b' c' d' e') : a = a' ∧ b = b' ∧ c = c' ∧ d = d' ∧ e = e' := by
  unfold val5 M102 M153 M204 at h; unfold M51 at *; omega
theorem val5_bits (v : Nat) : val5 (v % M51) (v / M51 % M51) (v / M102 % M51) (v / M153 % M51) (v / M204 % M51) = v % TT := by
  unfold val5 M51 M102 M153 M204 TT; omega
end Go.Proofs.Ytfejabfmhddepaa
namespace Go.Proofs.Ytfejabfmhddepaa
set_option linter.unusedVariables false
set_option maxRecDepth 100000
abbrev Q64 : Nat := 18446744073709551616
def wq (n d : Nat) : Nat := n / Q64 ^ d % Q64
theorem wq_lt (n d : Nat) : wq n d < Q64 := Nat.mod_lt _ (by decide)
theorem byte_of (V i : Nat) (hi : i < 32) : wq V (i / 8) / 2 ^ (i % 8 * 8) % 256 = V / 256 ^ i % 256 := by
  unfold wq Q64
  have h : i = 0 ∨ i = 1 ∨ i = 2 ∨ i = 3 ∨ i = 4 ∨ i = 5 ∨ i = 6 ∨ i = 7 ∨ i = 8 ∨ i = 9 ∨ i = 10 ∨ i = 11 ∨ i = 12 ∨ i = 13 ∨ i = 14 ∨ i = 15 ∨ i = 16 ∨ i = 17 ∨ i = 18 ∨ i = 19 ∨ i = 20 ∨ i = 21 ∨ i = 22 ∨ i = 23 ∨ i = 24 ∨ i = 25 ∨ i = 26 ∨ i = 27 ∨ i = 28 ∨ i = 29 ∨ i = 30 ∨ i = 31 := by omega
  rcases h with rfl | rfl | rfl | rfl | rfl | rfl | rfl | rfl | rfl | rfl | rfl | rfl | rfl | rfl | rfl | rfl | rfl | rfl | rfl | rfl | rfl | rfl | rfl | rfl | rfl | rfl | rfl | rfl | rfl | rfl | rfl | rfl <;>
    (simp only [Nat.reduceDiv, Nat.reduceMod, Nat.reduceMul, Nat.reducePow]; omega)
theorem word_step (n b k : Nat) (hk : k < 32) (hn : n < 256 ^ k) (hb : b < 256) : wq n (k / 8) < 2 ^ (k % 8 * 8) ∧ 2 ^ (k % 8 * 8) * b < Q64 ∧ wq (n + b * 256 ^ k) (k / 8) = wq n (k / 8) + 2 ^ (k % 8 * 8) * b ∧
    ∀ j, j < 4 → j ≠ k / 8 → wq (n + b * 256 ^ k) j = wq n j := by
  unfold wq Q64
  have h : k = 0 ∨ k = 1 ∨ k = 2 ∨ k = 3 ∨ k = 4 ∨ k = 5 ∨ k = 6 ∨ k = 7 ∨ k = 8 ∨ k = 9 ∨ k = 10 ∨ k = 11 ∨ k = 12 ∨ k = 13 ∨ k = 14 ∨ k = 15 ∨ k = 16 ∨ k = 17 ∨ k = 18 ∨ k = 19 ∨ k = 20 ∨ k = 21 ∨ k = 22 ∨ k = 23 ∨ k = 24 ∨ k = 25 ∨ k = 26 ∨ k = 27 ∨ k = 28 ∨ k = 29 ∨ k = 30 ∨ k = 31 := by omega
  rcases h with rfl | rfl | rfl | rfl | rfl | rfl | rfl | rfl | rfl | rfl | rfl | rfl | rfl | rfl | rfl | rfl | rfl | rfl | rfl | rfl | rfl | rfl | rfl | rfl | rfl | rfl | rfl | rfl | rfl | rfl | rfl | rfl <;>
    (simp only [Nat.reduceDiv, Nat.reduceMod, Nat.reduceMul, Nat.reducePow] at hn ⊢
     refine ⟨by omega, by omega, by omega, fun j hj hne => ?_⟩
     have hj' : j = 0 ∨ j = 1 ∨ j = 2 ∨ j = 3 := by omega
     rcases hj' with rfl | rfl | rfl | rfl <;> first | exact absurd rfl hne | (simp only [Nat.reducePow]; omega))
theorem or_low (p z k : Nat) (hp : p < 2 ^ k) (hp2 : p < 18446744073709551616) (hm : 2 ^ k * z < 18446744073709551616) : bits .or .u64 (p : Int) ((2 ^ k * z : Nat) : Int) = ((p + 2 ^ k * z : Nat) : Int) := by
  rw [u64_or_nat p (2 ^ k * z) hp2 hm, Nat.or_comm, ← Nat.two_pow_add_eq_or_of_lt hp, Nat.add_comm]
def wdA (n : Nat) : Array Value := ((List.range 4).map fun d => Value.int .u64 (wq n d : Int)).toArray
theorem wdA_get (n d : Nat) (h : d < 4) : (wdA n)[d]? = some (.int .u64 (wq n d : Int)) := by
  have : d = 0 ∨ d = 1 ∨ d = 2 ∨ d = 3 := by omega
  rcases this with rfl | rfl | rfl | rfl <;> rfl
theorem wdA_set (n m d : Nat) (hd : d < 4) (h : ∀ j, j < 4 → j ≠ d → wq m j = wq n j) : (wdA n).setIfInBounds d (.int .u64 (wq m d : Int)) = wdA m := by
  have h0 := h 0; have h1 := h 1; have h2 := h 2; have h3 := h 3
  have e : ∀ k, wdA k = #[.int .u64 (wq k 0 : Int), .int .u64 (wq k 1 : Int), .int .u64 (wq k 2 : Int), .int .u64 (wq k 3 : Int)] := fun _ => rfl
  rw [e n, e m]
  have : d = 0 ∨ d = 1 ∨ d = 2 ∨ d = 3 := by omega
  rcases this with rfl | rfl | rfl | rfl
  · rw [h1 (by omega) (by omega), h2 (by omega) (by omega), h3 (by omega) (by omega)]; rfl
  · rw [h0 (by omega) (by omega), h2 (by omega) (by omega), h3 (by omega) (by omega)]; rfl
  · rw [h0 (by omega) (by omega), h1 (by omega) (by omega), h3 (by omega) (by omega)]; rfl
  · rw [h0 (by omega) (by omega), h1 (by omega) (by omega), h2 (by omega) (by omega)]; rfl
theorem wdA_zero : wdA 0 = #[.int .u64 0, .int .u64 0, .int .u64 0, .int .u64 0] := rfl
theorem leN_take (l : List UInt8) (k : Nat) (h : k < l.length) : leN (l.take (k + 1)) = leN (l.take k) + (l.getD k 0).toNat * 256 ^ k := by
  have e : l.take (k + 1) = l.take k ++ [l.getD k 0] := by
    rw [List.take_succ_eq_append_getElem h]
    simp [List.getD, List.getElem?_eq_getElem h]
  rw [e, leN_snoc, List.length_take, Nat.min_eq_left (by omega)]
theorem leN_take_lt (l : List UInt8) (k : Nat) (h : k ≤ l.length) : leN (l.take k) < 256 ^ k := by
  have := leN_lt (l.take k)
  rwa [List.length_take, Nat.min_eq_left h] at this
theorem from_limbs (V : Nat) (hV : V < 256 ^ 32) : (wq V 0 % M51 = V % M51) ∧ ((wq V 0 / M51 + 2 ^ 13 * (wq V 1 % 2251799813685248)) % M51 = V / M51 % M51) ∧
    ((wq V 1 / 274877906944 + 2 ^ 26 * (wq V 2 % 274877906944)) % M51 = V / M102 % M51) ∧ ((wq V 2 / 33554432 + 2 ^ 39 * (wq V 3 % 33554432)) % M51 = V / M153 % M51) ∧ (wq V 3 / 4096 % M51 = V / M204 % M51) := by
  unfold wq Q64 M51 M102 M153 M204
  simp only [Nat.reducePow] at hV ⊢
  refine ⟨by omega, by omega, by omega, by omega, by omega⟩
theorem bytes_words (r0 r1 r2 r3 r4 V : Nat) (h0 : r0 < M51) (h1 : r1 < M51) (h2 : r2 < M51) (h3 : r3 < M51) (h4 : r4 < M51) (h : val5 r0 r1 r2 r3 r4 = V) :
    r0 + 2 ^ 51 * (r1 % 8192) = wq V 0 ∧ r1 / 8192 + 2 ^ 38 * (r2 % 67108864) = wq V 1 ∧ r2 / 67108864 + 2 ^ 25 * (r3 % 549755813888) = wq V 2 ∧ r3 / 549755813888 + 2 ^ 12 * r4 = wq V 3 := by
  subst h
  unfold wq Q64 val5 M102 M153 M204
  unfold M51 at *
  simp only [Nat.reducePow]
  refine ⟨by omega, by omega, by omega, by omega⟩
end Go.Proofs.Ytfejabfmhddepaa

namespace Go.Proofs.Ytfejabfmhddepaa
open Go.RowKit
set_option linter.unusedVariables false
set_option maxRecDepth 100000
def limb5 (a b c d e : Nat) : Array Value := #[.int .u64 (a : Int), .int .u64 (b : Int), .int .u64 (c : Int), .int .u64 (d : Int), .int .u64 (e : Int)]
def feR (cs : Array Value) (x : Nat) : Prop := ∃ a b c d e : Nat, cs = limb5 a b c d e ∧ a < L51 ∧ b < L51 ∧ c < L51 ∧ d < L51 ∧ e < L51 ∧ val5 a b c d e % PP = x
def wide2 (v : Nat) : Array Value := #[.int .u64 ((v / 18446744073709551616 : Nat) : Int), .int .u64 ((v % 18446744073709551616 : Nat) : Int)]
theorem and51 (n : Nat) (h : n < 18446744073709551616) : bits .and .u64 (n : Int) 2251799813685247 = ((n % 2251799813685248 : Nat) : Int) := by
  have h := u64_and_nat n 2251799813685247 h (by omega)
  rw [show (2251799813685247 : Nat) = 2 ^ 51 - 1 by decide, Nat.and_two_pow_sub_one_eq_mod] at h
  exact h
theorem limb5_info (a b c d e : Nat) : (Try.prog.info? 26).map (·.size) = some (limb5 a b c d e).size := by kernel_rfl
theorem limb5_one (a b c d e : Nat) : (limb5 a b c d e).all (·.oneCell') = true := by simp [limb5, Value.oneCell']
set_option maxHeartbeats 1600000 in
theorem carried_any (l0 l1 l2 l3 l4 : Nat) (h0 : l0 < 18446744073709551616) (h1 : l1 < 18446744073709551616) (h2 : l2 < 18446744073709551616) (h3 : l3 < 18446744073709551616) (h4 : l4 < 18446744073709551616) (W : World) :
    Calls Try.prog 82 #[.int .u64 (l0 : Int), .int .u64 (l1 : Int), .int .u64 (l2 : Int), .int .u64 (l3 : Int), .int .u64 (l4 : Int)] W
      (RetV W (.agg (limb5 (l0 % M51 + 19 * (l4 / M51)) (l1 % M51 + l0 / M51) (l2 % M51 + l1 / M51) (l3 % M51 + l2 / M51) (l4 % M51 + l3 / M51)))) := by
  have a0 := and51 l0 h0
  have a1 := and51 l1 h1
  have a2 := and51 l2 h2
  have a3 := and51 l3 h3
  have a4 := and51 l4 h4
  have d0 : (l0 : Int) / 2251799813685248 = ((l0 / 2251799813685248 : Nat) : Int) := by omega
  have d1 : (l1 : Int) / 2251799813685248 = ((l1 / 2251799813685248 : Nat) : Int) := by omega
  have d2 : (l2 : Int) / 2251799813685248 = ((l2 / 2251799813685248 : Nat) : Int) := by omega
  have d3 : (l3 : Int) / 2251799813685248 = ((l3 / 2251799813685248 : Nat) : Int) := by omega
  have d4 : (l4 : Int) / 2251799813685248 = ((l4 / 2251799813685248 : Nat) : Int) := by omega
  have q4 : l4 / 2251799813685248 < 8192 := by omega
  have q3 : l3 / 2251799813685248 < 8192 := by omega
  have q2 : l2 / 2251799813685248 < 8192 := by omega
  have q1 : l1 / 2251799813685248 < 8192 := by omega
  have q0 : l0 / 2251799813685248 < 8192 := by omega
  have r4 : l4 % 2251799813685248 < 2251799813685248 := by omega
  have r3 : l3 % 2251799813685248 < 2251799813685248 := by omega
  have r2 : l2 % 2251799813685248 < 2251799813685248 := by omega
  have r1 : l1 % 2251799813685248 < 2251799813685248 := by omega
  have r0 : l0 % 2251799813685248 < 2251799813685248 := by omega
  unfold M51
  generalize l0 / 2251799813685248 = u0 at *
  generalize l1 / 2251799813685248 = u1 at *
  generalize l2 / 2251799813685248 = u2 at *
  generalize l3 / 2251799813685248 = u3 at *
  generalize l4 / 2251799813685248 = u4 at *
  generalize l0 % 2251799813685248 = v0 at *
  generalize l1 % 2251799813685248 = v1 at *
  generalize l2 % 2251799813685248 = v2 at *
  generalize l3 % 2251799813685248 = v3 at *
  generalize l4 % 2251799813685248 = v4 at *
  clear h0 h1 h2 h3 h4
  unfold limb5
  go_enter Try.func82, Try.ntmps82
  go_wp2
  refine bodyPost_ret (v := .agg #[.int .u64 ((v0 + 19 * u4 : Nat) : Int), .int .u64 ((v1 + u0 : Nat) : Int), .int .u64 ((v2 + u1 : Nat) : Int), .int .u64 ((v3 + u2 : Nat) : Int), .int .u64 ((v4 + u3 : Nat) : Int)]) (by simp [results, Try.results82, go_sem]) rfl ⟨rfl, (Below.refl _ _).alloc (Nat.le_refl _) _⟩
end Go.Proofs.Ytfejabfmhddepaa
namespace Go.Proofs.Ytfejabfmhddepaa
open Go.RowKit
set_option linter.unusedVariables false
set_option maxRecDepth 100000
abbrev carr0 (a e : Nat) : Nat := a % M51 + 19 * (e / M51)
abbrev carr1 (a b : Nat) : Nat := a % M51 + b / M51
theorem feR_carr {a b c d e x : Nat} (ha : a < 18446744073709551616) (hb : b < 18446744073709551616) (hc : c < 18446744073709551616) (hd : d < 18446744073709551616) (he : e < 18446744073709551616) (h : val5 a b c d e % PP = x) :
    feR (limb5 (carr0 a e) (carr1 b a) (carr1 c b) (carr1 d c) (carr1 e d)) x :=
  ⟨_, _, _, _, _, rfl, by unfold carr0 M51 L51; omega, by unfold carr1 M51 L51; omega, by unfold carr1 M51 L51; omega, by unfold carr1 M51 L51; omega, by unfold carr1 M51 L51; omega, by rw [← h]; exact val5_mod⟩
set_option maxHeartbeats 1600000 in
theorem feadd_any {c d : Array Value} {x y : Nat} (hx : feR c x) (hy : feR d y) (W : World) : Calls Try.prog 54 #[.agg c, .agg d] W (RetFe feR W ((x + y) % PP)) := by
  obtain ⟨a0, a1, a2, a3, a4, rfl, ha0, ha1, ha2, ha3, ha4, rfl⟩ := hx
  obtain ⟨b0, b1, b2, b3, b4, rfl, hb0, hb1, hb2, hb3, hb4, rfl⟩ := hy
  unfold L51 at *
  have hR : feR (limb5 (carr0 (a0 + b0) (a4 + b4)) (carr1 (a1 + b1) (a0 + b0)) (carr1 (a2 + b2) (a1 + b1)) (carr1 (a3 + b3) (a2 + b2)) (carr1 (a4 + b4) (a3 + b3))) ((val5 a0 a1 a2 a3 a4 % PP + val5 b0 b1 b2 b3 b4 % PP) % PP) :=
    feR_carr (by omega) (by omega) (by omega) (by omega) (by omega) (by rw [val5_add, add_mod5])
  have HC : Hid (∀ W' : World, Calls Try.prog 82 #[.int .u64 ((a0 + b0 : Nat) : Int), .int .u64 ((a1 + b1 : Nat) : Int), .int .u64 ((a2 + b2 : Nat) : Int), .int .u64 ((a3 + b3 : Nat) : Int), .int .u64 ((a4 + b4 : Nat) : Int)] W'
      (RetV W' (.agg (limb5 (carr0 (a0 + b0) (a4 + b4)) (carr1 (a1 + b1) (a0 + b0)) (carr1 (a2 + b2) (a1 + b1)) (carr1 (a3 + b3) (a2 + b2)) (carr1 (a4 + b4) (a3 + b3)))))) := Lib.hid fun W' => carried_any _ _ _ _ _ (by omega) (by omega) (by omega) (by omega) (by omega) W'
  have w0 : (a0 : Int) + (b0 : Int) = ((a0 + b0 : Nat) : Int) := (Int.natCast_add _ _).symm
  have w1 : (a1 : Int) + (b1 : Int) = ((a1 + b1 : Nat) : Int) := (Int.natCast_add _ _).symm
  have w2 : (a2 : Int) + (b2 : Int) = ((a2 + b2 : Nat) : Int) := (Int.natCast_add _ _).symm
  have w3 : (a3 : Int) + (b3 : Int) = ((a3 + b3 : Nat) : Int) := (Int.natCast_add _ _).symm
  have w4 : (a4 : Int) + (b4 : Int) = ((a4 + b4 : Nat) : Int) := (Int.natCast_add _ _).symm
  have l0 : a0 + b0 < 18446744073709551616 := by omega
  have l1 : a1 + b1 < 18446744073709551616 := by omega
  have l2 : a2 + b2 < 18446744073709551616 := by omega
  have l3 : a3 + b3 < 18446744073709551616 := by omega
  have l4 : a4 + b4 < 18446744073709551616 := by omega
  obtain ⟨S, hS⟩ : ∃ S, limb5 (carr0 (a0 + b0) (a4 + b4)) (carr1 (a1 + b1) (a0 + b0)) (carr1 (a2 + b2) (a1 + b1)) (carr1 (a3 + b3) (a2 + b2)) (carr1 (a4 + b4) (a3 + b3)) = S := ⟨_, rfl⟩
  rw [hS] at HC hR
  have iS : (Try.prog.info? 26).map (·.size) = some S.size := by rw [← hS]; exact limb5_info _ _ _ _ _
  have sS : (#[.int .u64 0, .int .u64 0, .int .u64 0, .int .u64 0, .int .u64 0] : Array Value).size = S.size := by rw [← hS]; rfl
  have oS : S.all (·.oneCell') = true := by rw [← hS]; exact limb5_one _ _ _ _ _
  have HP : Hid (∀ w', Below W.heap.size W w' → RetFe feR W ((val5 a0 a1 a2 a3 a4 % PP + val5 b0 b1 b2 b3 b4 % PP) % PP) (.returned (.agg S)) w') := Lib.hid fun w' hb => ⟨S, rfl, hR, hb⟩
  clear hS hR
  generalize a0 + b0 = s0 at *
  generalize a1 + b1 = s1 at *
  generalize a2 + b2 = s2 at *
  generalize a3 + b3 = s3 at *
  generalize a4 + b4 = s4 at *
  unfold limb5
  have z0 : ((W.alloc (.cells #[.int .u64 (a0 : Int), .int .u64 (a1 : Int), .int .u64 (a2 : Int), .int .u64 (a3 : Int), .int .u64 (a4 : Int)] 26)).alloc (.cells #[.int .u64 (b0 : Int), .int .u64 (b1 : Int), .int .u64 (b2 : Int), .int .u64 (b3 : Int), .int .u64 (b4 : Int)] 26)).heap.size = W.heap.size + 1 + 1 := by (try simp only [World.size_alloc])
  obtain ⟨W1, hW1⟩ : ∃ W1, ((W.alloc (.cells #[.int .u64 (a0 : Int), .int .u64 (a1 : Int), .int .u64 (a2 : Int), .int .u64 (a3 : Int), .int .u64 (a4 : Int)] 26)).alloc (.cells #[.int .u64 (b0 : Int), .int .u64 (b1 : Int), .int .u64 (b2 : Int), .int .u64 (b3 : Int), .int .u64 (b4 : Int)] 26)).alloc (.cells #[.int .u64 0, .int .u64 0, .int .u64 0, .int .u64 0, .int .u64 0] 26) = W1 := ⟨_, rfl⟩
  have hb1 : Below W.heap.size W W1 := by rw [← hW1]; exact below_alloc (below_alloc (below_alloc (Below.refl _ _) _) _) _
  have hrow : W1.heap[W.heap.size + 1 + 1]? = some (.cells #[.int .u64 0, .int .u64 0, .int .u64 0, .int .u64 0, .int .u64 0] 26 (0, 0)) := by rw [← hW1, ← z0]; exact heap_alloc_new _ _
  have HB1 := Lib.hid hb1
  have HR := Lib.hid hrow
  have HW1 := Lib.hid hW1
  clear hb1 hrow hW1 z0
  clear ha0 hb0
  clear ha1 hb1
  clear ha2 hb2
  clear ha3 hb3
  clear ha4 hb4
  go_enter Try.func54, Try.ntmps54
  go_wp2_with fail
  rw [HW1.out]
  with_reducible refine (HC.out _).mono ?_
  rintro e w2 ⟨rfl, hb2⟩
  have hr2 : w2.heap[W.heap.size + 1 + 1]? = some (.cells #[.int .u64 0, .int .u64 0, .int .u64 0, .int .u64 0, .int .u64 0] 26 (0, 0)) := by rw [hb2.block _ (Array.getElem?_eq_some_iff.1 HR.out).1]; exact HR.out
  have HE : Hid (Below W.heap.size W (w2.setRow (W.heap.size + 1 + 1) S)) := Lib.hid (below_row (below_next HB1.out hb2) (by omega))
  clear hb2
  go_wp2_with (refine wpList_store_row rfl 26 (.tmp 4) (.tmp 30) rfl (W.heap.size + 1 + 1) S rfl rfl 26 #[.int .u64 0, .int .u64 0, .int .u64 0, .int .u64 0, .int .u64 0] hr2 iS sS oS ?_)
  (try simp only [Exit.inBlock, Exit.then])
  refine bodyPost_ret (results_cell_row rfl _ _ (W.heap.size + 1 + 1) _ S _ _ rfl (setRow_heap w2 _ _ _ _ _ hr2) Try.underlying26 rfl iS) rfl ?_
  exact HP.out _ HE.out
theorem val5_sub2 {a b c d e a' b' c' d' e' s0 s1 s2 s3 s4 : Nat} (h0 : s0 + a' = a + 4503599627370458) (h1 : s1 + b' = b + 4503599627370494) (h2 : s2 + c' = c + 4503599627370494) (h3 : s3 + d' = d + 4503599627370494) (h4 : s4 + e' = e + 4503599627370494) :
    val5 s0 s1 s2 s3 s4 + val5 a' b' c' d' e' = val5 a b c d e + 2 * PP := by
  unfold val5 M51 M102 M153 M204 PP
  omega
set_option maxHeartbeats 1600000 in
theorem fesub_any {c d : Array Value} {x y : Nat} (hx : feR c x) (hy : feR d y) (W : World) : Calls Try.prog 53 #[.agg c, .agg d] W (RetFe feR W ((x + (PP - y)) % PP)) := by
  obtain ⟨a0, a1, a2, a3, a4, rfl, ha0, ha1, ha2, ha3, ha4, rfl⟩ := hx
  obtain ⟨b0, b1, b2, b3, b4, rfl, hb0, hb1, hb2, hb3, hb4, rfl⟩ := hy
  unfold L51 at *
  obtain ⟨k0, w0, l0, m0⟩ : ∃ k : Nat, (a0 : Int) + 4503599627370458 = (k : Int) ∧ k < 18446744073709551616 ∧ k = a0 + 4503599627370458 := ⟨a0 + 4503599627370458, by omega, by omega, rfl⟩
  obtain ⟨k1, w1, l1, m1⟩ : ∃ k : Nat, (a1 : Int) + 4503599627370494 = (k : Int) ∧ k < 18446744073709551616 ∧ k = a1 + 4503599627370494 := ⟨a1 + 4503599627370494, by omega, by omega, rfl⟩
  obtain ⟨k2, w2, l2, m2⟩ : ∃ k : Nat, (a2 : Int) + 4503599627370494 = (k : Int) ∧ k < 18446744073709551616 ∧ k = a2 + 4503599627370494 := ⟨a2 + 4503599627370494, by omega, by omega, rfl⟩
  obtain ⟨k3, w3, l3, m3⟩ : ∃ k : Nat, (a3 : Int) + 4503599627370494 = (k : Int) ∧ k < 18446744073709551616 ∧ k = a3 + 4503599627370494 := ⟨a3 + 4503599627370494, by omega, by omega, rfl⟩
  obtain ⟨k4, w4, l4, m4⟩ : ∃ k : Nat, (a4 : Int) + 4503599627370494 = (k : Int) ∧ k < 18446744073709551616 ∧ k = a4 + 4503599627370494 := ⟨a4 + 4503599627370494, by omega, by omega, rfl⟩
  obtain ⟨s0, v0, n0, j0⟩ : ∃ s : Nat, (k0 : Int) - (b0 : Int) = (s : Int) ∧ s < 18446744073709551616 ∧ s + b0 = a0 + 4503599627370458 := ⟨k0 - b0, by omega, by omega, by omega⟩
  obtain ⟨s1, v1, n1, j1⟩ : ∃ s : Nat, (k1 : Int) - (b1 : Int) = (s : Int) ∧ s < 18446744073709551616 ∧ s + b1 = a1 + 4503599627370494 := ⟨k1 - b1, by omega, by omega, by omega⟩
  obtain ⟨s2, v2, n2, j2⟩ : ∃ s : Nat, (k2 : Int) - (b2 : Int) = (s : Int) ∧ s < 18446744073709551616 ∧ s + b2 = a2 + 4503599627370494 := ⟨k2 - b2, by omega, by omega, by omega⟩
  obtain ⟨s3, v3, n3, j3⟩ : ∃ s : Nat, (k3 : Int) - (b3 : Int) = (s : Int) ∧ s < 18446744073709551616 ∧ s + b3 = a3 + 4503599627370494 := ⟨k3 - b3, by omega, by omega, by omega⟩
  obtain ⟨s4, v4, n4, j4⟩ : ∃ s : Nat, (k4 : Int) - (b4 : Int) = (s : Int) ∧ s < 18446744073709551616 ∧ s + b4 = a4 + 4503599627370494 := ⟨k4 - b4, by omega, by omega, by omega⟩
  have hR : feR (limb5 (carr0 s0 s4) (carr1 s1 s0) (carr1 s2 s1) (carr1 s3 s2) (carr1 s4 s3)) ((val5 a0 a1 a2 a3 a4 % PP + (PP - val5 b0 b1 b2 b3 b4 % PP)) % PP) := feR_carr n0 n1 n2 n3 n4 (sub_mod (val5_sub2 j0 j1 j2 j3 j4))
  have HC : Hid (∀ W' : World, Calls Try.prog 82 #[.int .u64 (s0 : Int), .int .u64 (s1 : Int), .int .u64 (s2 : Int), .int .u64 (s3 : Int), .int .u64 (s4 : Int)] W' (RetV W' (.agg (limb5 (carr0 s0 s4) (carr1 s1 s0) (carr1 s2 s1) (carr1 s3 s2) (carr1 s4 s3))))) := Lib.hid fun W' => carried_any _ _ _ _ _ n0 n1 n2 n3 n4 W'
  clear j0 j1 j2 j3 j4 m0 m1 m2 m3 m4
  obtain ⟨S, hS⟩ : ∃ S, limb5 (carr0 s0 s4) (carr1 s1 s0) (carr1 s2 s1) (carr1 s3 s2) (carr1 s4 s3) = S := ⟨_, rfl⟩
  rw [hS] at HC hR
  have iS : (Try.prog.info? 26).map (·.size) = some S.size := by rw [← hS]; exact limb5_info _ _ _ _ _
  have sS : (#[.int .u64 0, .int .u64 0, .int .u64 0, .int .u64 0, .int .u64 0] : Array Value).size = S.size := by rw [← hS]; rfl
  have oS : S.all (·.oneCell') = true := by rw [← hS]; exact limb5_one _ _ _ _ _
  obtain ⟨n, hn⟩ : ∃ n, (val5 a0 a1 a2 a3 a4 % PP + (PP - val5 b0 b1 b2 b3 b4 % PP)) % PP = n := ⟨_, rfl⟩
  rw [hn] at hR ⊢
  have HP : Hid (∀ w', Below W.heap.size W w' → RetFe feR W n (.returned (.agg S)) w') := Lib.hid fun w' hb => ⟨S, rfl, hR, hb⟩
  clear hS hR hn
  unfold limb5
  have z0 : ((W.alloc (.cells #[.int .u64 (a0 : Int), .int .u64 (a1 : Int), .int .u64 (a2 : Int), .int .u64 (a3 : Int), .int .u64 (a4 : Int)] 26)).alloc (.cells #[.int .u64 (b0 : Int), .int .u64 (b1 : Int), .int .u64 (b2 : Int), .int .u64 (b3 : Int), .int .u64 (b4 : Int)] 26)).heap.size = W.heap.size + 1 + 1 := by (try simp only [World.size_alloc])
  obtain ⟨W1, hW1⟩ : ∃ W1, ((W.alloc (.cells #[.int .u64 (a0 : Int), .int .u64 (a1 : Int), .int .u64 (a2 : Int), .int .u64 (a3 : Int), .int .u64 (a4 : Int)] 26)).alloc (.cells #[.int .u64 (b0 : Int), .int .u64 (b1 : Int), .int .u64 (b2 : Int), .int .u64 (b3 : Int), .int .u64 (b4 : Int)] 26)).alloc (.cells #[.int .u64 0, .int .u64 0, .int .u64 0, .int .u64 0, .int .u64 0] 26) = W1 := ⟨_, rfl⟩
  have hb1 : Below W.heap.size W W1 := by rw [← hW1]; exact below_alloc (below_alloc (below_alloc (Below.refl _ _) _) _) _
  have hrow : W1.heap[W.heap.size + 1 + 1]? = some (.cells #[.int .u64 0, .int .u64 0, .int .u64 0, .int .u64 0, .int .u64 0] 26 (0, 0)) := by rw [← hW1, ← z0]; exact heap_alloc_new _ _
  have HB1 := Lib.hid hb1
  have HR := Lib.hid hrow
  have HW1 := Lib.hid hW1
  clear hb1 hrow hW1 z0
  clear ha0 hb0
  clear ha1 hb1
  clear ha2 hb2
  clear ha3 hb3
  clear ha4 hb4
  go_enter Try.func53, Try.ntmps53
  go_wp2_with fail
  rw [HW1.out]
  with_reducible refine (HC.out _).mono ?_
  rintro e w2 ⟨rfl, hb2⟩
  have hr2 : w2.heap[W.heap.size + 1 + 1]? = some (.cells #[.int .u64 0, .int .u64 0, .int .u64 0, .int .u64 0, .int .u64 0] 26 (0, 0)) := by rw [hb2.block _ (Array.getElem?_eq_some_iff.1 HR.out).1]; exact HR.out
  have HE : Hid (Below W.heap.size W (w2.setRow (W.heap.size + 1 + 1) S)) := Lib.hid (below_row (below_next HB1.out hb2) (by omega))
  clear hb2
  go_wp2_with (refine wpList_store_row rfl 26 (.tmp 4) (.tmp 35) rfl (W.heap.size + 1 + 1) S rfl rfl 26 #[.int .u64 0, .int .u64 0, .int .u64 0, .int .u64 0, .int .u64 0] hr2 iS sS oS ?_)
  (try simp only [Exit.inBlock, Exit.then])
  refine bodyPost_ret (results_cell_row rfl _ _ (W.heap.size + 1 + 1) _ S _ _ rfl (setRow_heap w2 _ _ _ _ _ hr2) Try.underlying26 rfl iS) rfl ?_
  exact HP.out _ HE.out
theorem feR_zero : feR (#[.int .u64 0, .int .u64 0, .int .u64 0, .int .u64 0, .int .u64 0]) 0 := ⟨0, 0, 0, 0, 0, rfl, by decide, by decide, by decide, by decide, by decide, by decide⟩
theorem feR_info {c : Array Value} {x : Nat} (h : feR c x) : (Try.prog.info? 26).map (·.size) = some c.size := by
  obtain ⟨a, b, c, d, e, rfl, -⟩ := h; exact limb5_info _ _ _ _ _
theorem feR_one {c : Array Value} {x : Nat} (h : feR c x) : c.all (·.oneCell') = true := by
  obtain ⟨a, b, c, d, e, rfl, -⟩ := h; exact limb5_one _ _ _ _ _
theorem feR_size {c : Array Value} {x : Nat} (h : feR c x) : (#[.int .u64 0, .int .u64 0, .int .u64 0, .int .u64 0, .int .u64 0] : Array Value).size = c.size := by
  obtain ⟨a, b, c, d, e, rfl, -⟩ := h; rfl
set_option maxHeartbeats 1600000 in
theorem feneg_any {c : Array Value} {x : Nat} (hx : feR c x) (W : World) : Calls Try.prog 57 #[.agg c] W (RetFe feR W ((PP - x) % PP)) := by
  have HC : Hid (∀ W' : World, Calls Try.prog 53 #[.agg (#[.int .u64 0, .int .u64 0, .int .u64 0, .int .u64 0, .int .u64 0]), .agg c] W' (RetFe feR W' ((PP - x) % PP))) := Lib.hid fun W' => by
    have h := fesub_any feR_zero hx W'
    rwa [Nat.zero_add] at h
  have ic := feR_info hx
  have oc := feR_one hx
  have hrc : (W.alloc (.cells c 26)).heap[W.heap.size]? = some (.cells c 26 (0, 0)) := heap_alloc_new _ _
  generalize (PP - x) % PP = n at *
  clear hx
  have z0 : (W.alloc (.cells c 26)).heap.size = W.heap.size + 1 := by (try simp only [World.size_alloc])
  obtain ⟨W1, hW1⟩ : ∃ W1, (W.alloc (.cells c 26)).alloc (.cells #[.int .u64 0, .int .u64 0, .int .u64 0, .int .u64 0, .int .u64 0] 26) = W1 := ⟨_, rfl⟩
  have hb1 : Below W.heap.size W W1 := by rw [← hW1]; exact below_alloc (below_alloc (Below.refl _ _) _) _
  have hrow : W1.heap[W.heap.size + 1]? = some (.cells #[.int .u64 0, .int .u64 0, .int .u64 0, .int .u64 0, .int .u64 0] 26 (0, 0)) := by rw [← hW1, ← z0]; exact heap_alloc_new _ _
  have HB1 := Lib.hid hb1
  have HR := Lib.hid hrow
  have hc1 : ((W.alloc (.cells c 26)).alloc (.cells #[.int .u64 0, .int .u64 0, .int .u64 0, .int .u64 0, .int .u64 0] 26)).heap[W.heap.size]? = some (.cells c 26 (0, 0)) := by rw [heap_alloc_old _ _ (by rw [World.size_alloc]; omega)]; exact hrc
  have HW1 := Lib.hid hW1
  clear hb1 hrow hW1 z0 hrc
  go_enter Try.func57, Try.ntmps57
  go_wp2_with (refine wpList_load_row rfl 26 (.tmp 1) rfl W.heap.size rfl 26 c (0, 0) _ hc1 Try.underlying26 rfl ic ?_)
  rw [HW1.out]
  with_reducible refine (HC.out _).mono ?_
  rintro e w2 ⟨S, rfl, hR, hb2⟩
  have iS := feR_info hR
  have sS := feR_size hR
  have oS := feR_one hR
  have HP : Hid (∀ w', Below W.heap.size W w' → RetFe feR W n (.returned (.agg S)) w') := Lib.hid fun w' hb => ⟨S, rfl, hR, hb⟩
  clear hR
  have hr2 : w2.heap[W.heap.size + 1]? = some (.cells #[.int .u64 0, .int .u64 0, .int .u64 0, .int .u64 0, .int .u64 0] 26 (0, 0)) := by rw [hb2.block _ (Array.getElem?_eq_some_iff.1 HR.out).1]; exact HR.out
  have HE : Hid (Below W.heap.size W (w2.setRow (W.heap.size + 1) S)) := Lib.hid (below_row (below_next HB1.out hb2) (by omega))
  clear hb2
  go_wp2_with (refine wpList_store_row rfl 26 (.tmp 2) (.tmp 5) rfl (W.heap.size + 1) S rfl rfl 26 #[.int .u64 0, .int .u64 0, .int .u64 0, .int .u64 0, .int .u64 0] hr2 iS sS oS ?_)
  (try simp only [Exit.inBlock, Exit.then])
  refine bodyPost_ret (results_cell_row rfl _ _ (W.heap.size + 1) _ S _ _ rfl (setRow_heap w2 _ _ _ _ _ hr2) Try.underlying26 rfl iS) rfl ?_
  exact HP.out _ HE.out
set_option maxHeartbeats 1600000 in
theorem fesmall_any (n : Nat) (hn : n < 18446744073709551616) (W : World) : Calls Try.prog 59 #[.int .u64 (n : Int)] W (RetFe feR W n) := by
  have a0 := and51 n hn
  have d0 : (n : Int) / 2251799813685248 = ((n / 2251799813685248 : Nat) : Int) := by omega
  have hR : feR (limb5 (n % 2251799813685248) (n / 2251799813685248) 0 0 0) n := ⟨_, _, _, _, _, rfl, by unfold L51; omega, by unfold L51; omega, by decide, by decide, by decide, by
    unfold val5 M51 M102 M153 M204 PP; omega⟩
  have HP : Hid (∀ w', Below W.heap.size W w' → RetFe feR W n (.returned (.agg #[.int .u64 ((n % 2251799813685248 : Nat) : Int), .int .u64 ((n / 2251799813685248 : Nat) : Int), .int .u64 0, .int .u64 0, .int .u64 0])) w') := Lib.hid fun w' hb => ⟨_, rfl, hR, hb⟩
  have q0 : n / 2251799813685248 < 8192 := by omega
  have r0 : n % 2251799813685248 < 2251799813685248 := by omega
  clear hR
  generalize n / 2251799813685248 = u at *
  generalize n % 2251799813685248 = v at *
  clear hn
  go_enter Try.func59, Try.ntmps59
  go_wp2
  refine bodyPost_ret (v := .agg #[.int .u64 (v : Int), .int .u64 (u : Int), .int .u64 0, .int .u64 0, .int .u64 0]) (by simp [results, Try.results59, go_sem]) rfl (HP.out _ ?_)
  exact (Below.refl _ _).alloc (Nat.le_refl _) _
end Go.Proofs.Ytfejabfmhddepaa
namespace Go.Proofs.Ytfejabfmhddepaa
open Go.RowKit
set_option linter.unusedVariables false
set_option maxRecDepth 100000
theorem or_add13 (h q : Nat) (hq : q < 8192) (hh : h * 8192 < 18446744073709551616) : bits .or .u64 ((h * 8192 : Nat) : Int) (q : Int) = ((h * 8192 + q : Nat) : Int) := by
  have e := u64_or_nat (h * 8192) q hh (by omega)
  rw [e, show h * 8192 = 2 ^ 13 * h by rw [Nat.mul_comm], ← Nat.two_pow_add_eq_or_of_lt (show q < 2 ^ 13 from hq)]
theorem wide2_info (v : Nat) : (Try.prog.info? 92).map (·.size) = some (wide2 v).size := by kernel_rfl
theorem wide2_one (v : Nat) : (wide2 v).all (·.oneCell') = true := by simp [wide2, Value.oneCell']
set_option maxHeartbeats 1600000 in
theorem product_any (x y : Nat) (hx : x < 18446744073709551616) (hy : y < 18446744073709551616) (W : World) :
    Calls Try.prog 75 #[.int .u64 (x : Int), .int .u64 (y : Int)] W (RetV W (.agg (wide2 (x * y)))) := by
  have HM : Hid (∀ W' : World, Calls Try.prog 90 #[.int .u64 (x : Int), .int .u64 (y : Int)] W' fun e w' => e = .returned (.tuple #[.int .u64 ((x * y / 18446744073709551616 : Nat) : Int), .int .u64 ((x * y % 18446744073709551616 : Nat) : Int)]) ∧ w' = W') := Lib.hid fun W' => mul_any x y hx hy W'
  unfold wide2
  generalize x * y / 18446744073709551616 = h at *
  generalize x * y % 18446744073709551616 = l at *
  clear hx hy
  go_enter Try.func75, Try.ntmps75
  go_wp2_with fail
  with_reducible refine (HM.out _).mono ?_
  rintro e w2 ⟨rfl, h2⟩
  rw [h2]
  clear h2 w2
  go_wp2_with fail
  refine bodyPost_ret (v := .agg #[.int .u64 (h : Int), .int .u64 (l : Int)]) (by simp [results, Try.results75, go_sem]) rfl ⟨rfl, ?_⟩
  exact (Below.refl _ _).alloc (Nat.le_refl _) _
set_option maxHeartbeats 1600000 in
theorem plus_any (v x y : Nat) (hx : x < 18446744073709551616) (hy : y < 18446744073709551616) (hv : v + x * y < 340282366920938463463374607431768211456) (W : World) :
    Calls Try.prog 76 #[.agg (wide2 v), .int .u64 (x : Int), .int .u64 (y : Int)] W (RetV W (.agg (wide2 (v + x * y)))) := by
  obtain ⟨h, l, HM, e, hl, hh⟩ := mul_ex x y hx hy
  generalize x * y = p at *
  have v1 : v / 18446744073709551616 < 18446744073709551616 := by omega
  have v0 : v % 18446744073709551616 < 18446744073709551616 := by omega
  have ve : v = v / 18446744073709551616 * 18446744073709551616 + v % 18446744073709551616 := by omega
  obtain ⟨z0, d0, s0, e0, k0⟩ := add_ex l (v % 18446744073709551616) 0 (by omega)
  obtain ⟨z1, d1, s1, e1, k1⟩ := add_ex h (v / 18446744073709551616) d0 (by omega)
  have r1 : (v + p) / 18446744073709551616 = z1 := by omega
  have r0 : (v + p) % 18446744073709551616 = z0 := by omega
  unfold wide2
  rw [r1, r0]
  generalize v / 18446744073709551616 = a1 at *
  generalize v % 18446744073709551616 = a0 at *
  simp only [Int.ofNat_zero] at s0
  clear e hl hh v1 v0 ve e0 e1 k0 k1 r1 r0 hv hx hy
  go_enter Try.func76, Try.ntmps76
  go_wp2_with fail
  with_reducible refine (HM.out _).mono ?_
  rintro e w2 ⟨rfl, h2⟩
  rw [h2]
  clear h2 w2
  go_wp2_with fail
  refine bodyPost_ret (v := .agg #[.int .u64 (z1 : Int), .int .u64 (z0 : Int)]) (by simp [results, Try.results76, go_sem]) rfl ⟨rfl, ?_⟩
  exact ((Below.refl _ _).alloc (Nat.le_refl _) _).alloc (by simp) _
set_option maxHeartbeats 1600000 in
theorem limb_any (v : Nat) (W : World) : Calls Try.prog 92 #[.agg (wide2 v)] W (RetV W (.int .u64 ((v % M51 : Nat) : Int))) := by
  have a0 := and51 (v % 18446744073709551616) (by omega)
  rw [show v % 18446744073709551616 % 2251799813685248 = v % 2251799813685248 by omega] at a0
  unfold wide2 M51
  generalize v / 18446744073709551616 = h at *
  generalize v % 18446744073709551616 = l at *
  generalize v % 2251799813685248 = r at *
  go_enter Try.func92, Try.ntmps92
  go_wp2
  go_ret
  exact ⟨rfl, (Below.refl _ _).alloc (Nat.le_refl _) _⟩
set_option maxHeartbeats 1600000 in
theorem carry_any (v : Nat) (hv : v < 41538374868278621028243970633760768) (W : World) : Calls Try.prog 93 #[.agg (wide2 v)] W (RetV W (.int .u64 ((v / M51 : Nat) : Int))) := by
  have b1 : v / 18446744073709551616 < 2251799813685248 := by omega
  have b0 : v % 18446744073709551616 / 2251799813685248 < 8192 := by omega
  have a0 := or_add13 (v / 18446744073709551616) (v % 18446744073709551616 / 2251799813685248) b0 (by omega)
  rw [show v / 18446744073709551616 * 8192 + v % 18446744073709551616 / 2251799813685248 = v / 2251799813685248 by omega] at a0
  have d0 : ((v % 18446744073709551616 : Nat) : Int) / 2251799813685248 = ((v % 18446744073709551616 / 2251799813685248 : Nat) : Int) := by omega
  have m0 : ((v / 18446744073709551616 : Nat) : Int) * 8192 = ((v / 18446744073709551616 * 8192 : Nat) : Int) := by omega
  have m1 : v / 18446744073709551616 * 8192 < 18446744073709551616 := by omega
  unfold wide2 M51
  generalize v % 18446744073709551616 / 2251799813685248 = q at *
  generalize v / 18446744073709551616 * 8192 = k at *
  generalize v / 18446744073709551616 = h at *
  generalize v % 18446744073709551616 = l at *
  generalize v / 2251799813685248 = r at *
  clear hv
  go_enter Try.func93, Try.ntmps93
  go_wp2
  go_ret
  exact ⟨rfl, (Below.refl _ _).alloc (Nat.le_refl _) _⟩
end Go.Proofs.Ytfejabfmhddepaa
namespace Go.Proofs.Ytfejabfmhddepaa
open Go.RowKit
set_option linter.unusedVariables false
set_option maxRecDepth 100000
set_option maxHeartbeats 3200000 in
theorem narrowed_any (v0 v1 v2 v3 v4 : Nat) (b0 : v0 < 1298074214633706907132624082305024) (b1 : v1 < 1298074214633706907132624082305024) (b2 : v2 < 1298074214633706907132624082305024) (b3 : v3 < 1298074214633706907132624082305024) (b4 : v4 < 1298074214633706907132624082305024) (W : World) :
    Calls Try.prog 77 #[.agg (wide2 v0), .agg (wide2 v1), .agg (wide2 v2), .agg (wide2 v3), .agg (wide2 v4)] W (RetFe feR W (val5 v0 v1 v2 v3 v4 % PP)) := by
  have HL0 : Hid (∀ W' : World, Calls Try.prog 92 #[.agg (wide2 v0)] W' (RetV W' (.int .u64 ((v0 % M51 : Nat) : Int)))) := Lib.hid fun W' => limb_any v0 W'
  have HQ0 : Hid (∀ W' : World, Calls Try.prog 93 #[.agg (wide2 v0)] W' (RetV W' (.int .u64 ((v0 / M51 : Nat) : Int)))) := Lib.hid fun W' => carry_any v0 (by omega) W'
  have r0 : v0 % M51 < 2251799813685248 := Nat.mod_lt _ (by decide)
  have q0 : v0 / M51 < 576460752303423488 := by unfold M51; omega
  have i0 := wide2_info v0
  have HL1 : Hid (∀ W' : World, Calls Try.prog 92 #[.agg (wide2 v1)] W' (RetV W' (.int .u64 ((v1 % M51 : Nat) : Int)))) := Lib.hid fun W' => limb_any v1 W'
  have HQ1 : Hid (∀ W' : World, Calls Try.prog 93 #[.agg (wide2 v1)] W' (RetV W' (.int .u64 ((v1 / M51 : Nat) : Int)))) := Lib.hid fun W' => carry_any v1 (by omega) W'
  have r1 : v1 % M51 < 2251799813685248 := Nat.mod_lt _ (by decide)
  have q1 : v1 / M51 < 576460752303423488 := by unfold M51; omega
  have i1 := wide2_info v1
  have HL2 : Hid (∀ W' : World, Calls Try.prog 92 #[.agg (wide2 v2)] W' (RetV W' (.int .u64 ((v2 % M51 : Nat) : Int)))) := Lib.hid fun W' => limb_any v2 W'
  have HQ2 : Hid (∀ W' : World, Calls Try.prog 93 #[.agg (wide2 v2)] W' (RetV W' (.int .u64 ((v2 / M51 : Nat) : Int)))) := Lib.hid fun W' => carry_any v2 (by omega) W'
  have r2 : v2 % M51 < 2251799813685248 := Nat.mod_lt _ (by decide)
  have q2 : v2 / M51 < 576460752303423488 := by unfold M51; omega
  have i2 := wide2_info v2
  have HL3 : Hid (∀ W' : World, Calls Try.prog 92 #[.agg (wide2 v3)] W' (RetV W' (.int .u64 ((v3 % M51 : Nat) : Int)))) := Lib.hid fun W' => limb_any v3 W'
  have HQ3 : Hid (∀ W' : World, Calls Try.prog 93 #[.agg (wide2 v3)] W' (RetV W' (.int .u64 ((v3 / M51 : Nat) : Int)))) := Lib.hid fun W' => carry_any v3 (by omega) W'
  have r3 : v3 % M51 < 2251799813685248 := Nat.mod_lt _ (by decide)
  have q3 : v3 / M51 < 576460752303423488 := by unfold M51; omega
  have i3 := wide2_info v3
  have HL4 : Hid (∀ W' : World, Calls Try.prog 92 #[.agg (wide2 v4)] W' (RetV W' (.int .u64 ((v4 % M51 : Nat) : Int)))) := Lib.hid fun W' => limb_any v4 W'
  have HQ4 : Hid (∀ W' : World, Calls Try.prog 93 #[.agg (wide2 v4)] W' (RetV W' (.int .u64 ((v4 / M51 : Nat) : Int)))) := Lib.hid fun W' => carry_any v4 (by omega) W'
  have r4 : v4 % M51 < 2251799813685248 := Nat.mod_lt _ (by decide)
  have q4 : v4 / M51 < 576460752303423488 := by unfold M51; omega
  have i4 := wide2_info v4
  rw [← @val5_mod v0 v1 v2 v3 v4]
  generalize wide2 v0 = V0 at *
  generalize v0 % M51 = r0n at *
  generalize v0 / M51 = q0n at *
  generalize wide2 v1 = V1 at *
  generalize v1 % M51 = r1n at *
  generalize v1 / M51 = q1n at *
  generalize wide2 v2 = V2 at *
  generalize v2 % M51 = r2n at *
  generalize v2 / M51 = q2n at *
  generalize wide2 v3 = V3 at *
  generalize v3 % M51 = r3n at *
  generalize v3 / M51 = q3n at *
  generalize wide2 v4 = V4 at *
  generalize v4 % M51 = r4n at *
  generalize v4 / M51 = q4n at *
  clear b0 b1 b2 b3 b4
  obtain ⟨p4, w5, w6⟩ : ∃ p : Nat, IntKind.u64.wrap (19 * (q4n : Int)) = (p : Int) ∧ p = 19 * q4n := ⟨19 * q4n, by rw [IntKind.wrap_u64]; omega, rfl⟩
  obtain ⟨s0, w0, n0, j0⟩ : ∃ s : Nat, IntKind.u64.wrap ((r0n : Int) + (p4 : Int)) = (s : Int) ∧ s < 18446744073709551616 ∧ s = r0n + 19 * q4n := ⟨r0n + 19 * q4n, by rw [IntKind.wrap_u64]; omega, by omega, rfl⟩
  obtain ⟨s1, w1, n1, j1⟩ : ∃ s : Nat, IntKind.u64.wrap ((r1n : Int) + (q0n : Int)) = (s : Int) ∧ s < 18446744073709551616 ∧ s = r1n + q0n := ⟨r1n + q0n, by rw [IntKind.wrap_u64]; omega, by omega, rfl⟩
  obtain ⟨s2, w2, n2, j2⟩ : ∃ s : Nat, IntKind.u64.wrap ((r2n : Int) + (q1n : Int)) = (s : Int) ∧ s < 18446744073709551616 ∧ s = r2n + q1n := ⟨r2n + q1n, by rw [IntKind.wrap_u64]; omega, by omega, rfl⟩
  obtain ⟨s3, w3, n3, j3⟩ : ∃ s : Nat, IntKind.u64.wrap ((r3n : Int) + (q2n : Int)) = (s : Int) ∧ s < 18446744073709551616 ∧ s = r3n + q2n := ⟨r3n + q2n, by rw [IntKind.wrap_u64]; omega, by omega, rfl⟩
  obtain ⟨s4, w4, n4, j4⟩ : ∃ s : Nat, IntKind.u64.wrap ((r4n : Int) + (q3n : Int)) = (s : Int) ∧ s < 18446744073709551616 ∧ s = r4n + q3n := ⟨r4n + q3n, by rw [IntKind.wrap_u64]; omega, by omega, rfl⟩
  rw [← j0, ← j1, ← j2, ← j3, ← j4]
  have hR : feR (limb5 (carr0 s0 s4) (carr1 s1 s0) (carr1 s2 s1) (carr1 s3 s2) (carr1 s4 s3)) (val5 s0 s1 s2 s3 s4 % PP) := feR_carr n0 n1 n2 n3 n4 rfl
  have HC : Hid (∀ W' : World, Calls Try.prog 82 #[.int .u64 (s0 : Int), .int .u64 (s1 : Int), .int .u64 (s2 : Int), .int .u64 (s3 : Int), .int .u64 (s4 : Int)] W' (RetV W' (.agg (limb5 (carr0 s0 s4) (carr1 s1 s0) (carr1 s2 s1) (carr1 s3 s2) (carr1 s4 s3))))) := Lib.hid fun W' => carried_any _ _ _ _ _ n0 n1 n2 n3 n4 W'
  clear j0 j1 j2 j3 j4 w6
  have x0 : IntKind.u64.wrap (s0 : Int) = (s0 : Int) := by rw [IntKind.wrap_u64]; omega
  have x1 : IntKind.u64.wrap (s1 : Int) = (s1 : Int) := by rw [IntKind.wrap_u64]; omega
  have x2 : IntKind.u64.wrap (s2 : Int) = (s2 : Int) := by rw [IntKind.wrap_u64]; omega
  have x3 : IntKind.u64.wrap (s3 : Int) = (s3 : Int) := by rw [IntKind.wrap_u64]; omega
  have x4 : IntKind.u64.wrap (s4 : Int) = (s4 : Int) := by rw [IntKind.wrap_u64]; omega
  obtain ⟨S, hS⟩ : ∃ S, limb5 (carr0 s0 s4) (carr1 s1 s0) (carr1 s2 s1) (carr1 s3 s2) (carr1 s4 s3) = S := ⟨_, rfl⟩
  rw [hS] at HC hR
  have iS : (Try.prog.info? 26).map (·.size) = some S.size := by rw [← hS]; exact limb5_info _ _ _ _ _
  have sS : (#[.int .u64 0, .int .u64 0, .int .u64 0, .int .u64 0, .int .u64 0] : Array Value).size = S.size := by rw [← hS]; rfl
  have oS : S.all (·.oneCell') = true := by rw [← hS]; exact limb5_one _ _ _ _ _
  obtain ⟨n, hn⟩ : ∃ n, val5 s0 s1 s2 s3 s4 % PP = n := ⟨_, rfl⟩
  rw [hn] at hR ⊢
  have HP : Hid (∀ w', Below W.heap.size W w' → RetFe feR W n (.returned (.agg S)) w') := Lib.hid fun w' hb => ⟨S, rfl, hR, hb⟩
  clear hS hR hn
  clear r0 r1 r2 r3 r4 q0 q1 q2 q3 q4 n0 n1 n2 n3 n4
  have hrr : RowsW ((((((W.alloc (.cells V0 92)).alloc (.cells V1 92)).alloc (.cells V2 92)).alloc (.cells V3 92)).alloc (.cells V4 92)).alloc (.cells #[.int .u64 0, .int .u64 0, .int .u64 0, .int .u64 0, .int .u64 0] 26)) [(W.heap.size + 1 + 1 + 1 + 1 + 1, #[.int .u64 0, .int .u64 0, .int .u64 0, .int .u64 0, .int .u64 0], 26), (W.heap.size + 1 + 1 + 1 + 1, V4, 92), (W.heap.size + 1 + 1 + 1, V3, 92), (W.heap.size + 1 + 1, V2, 92), (W.heap.size + 1, V1, 92), (W.heap.size, V0, 92)] := by have h := (RowsW.box (RowsW.box (RowsW.box (RowsW.box (RowsW.box (RowsW.box (RowsW.nil W) V0 92) V1 92) V2 92) V3 92) V4 92) #[.int .u64 0, .int .u64 0, .int .u64 0, .int .u64 0, .int .u64 0] 26); simp only [World.size_alloc] at h; exact h
  obtain ⟨W1, hW1⟩ : ∃ W1, ((((((W.alloc (.cells V0 92)).alloc (.cells V1 92)).alloc (.cells V2 92)).alloc (.cells V3 92)).alloc (.cells V4 92)).alloc (.cells #[.int .u64 0, .int .u64 0, .int .u64 0, .int .u64 0, .int .u64 0] 26)) = W1 := ⟨_, rfl⟩
  rw [hW1] at hrr
  have hb1 : Below W.heap.size W W1 := by rw [← hW1]; exact below_alloc (below_alloc (below_alloc (below_alloc (below_alloc (below_alloc (Below.refl _ _) _) _) _) _) _) _
  have HR := Lib.hid hrr
  have HB1 := Lib.hid hb1
  have HW1 := Lib.hid hW1
  clear hrr hb1 hW1
  go_enter Try.func77, Try.ntmps77
  go_upto_region 1 with fail
  rw [HW1.out]
  refine wp_region_noPanic ?_
  refine wp_region_held_tail (S := fun W => Below W1.heap.size W1 W) 26 (by kernel_rfl) ⟨by kernel_rfl, by kernel_rfl, by kernel_rfl, by kernel_rfl⟩ (by exact (Below.refl _ _).drew) (fun hT inv hS => ?_)
  refine' take_atT 0 hT inv rfl (by omega) (by kernel_rfl) (by kernel_rfl) (fun _ _ _ h => h) (by rfl) hS ?_ ?_ ?_
  rotate_left 2
  · intro W hSW; exact run_loadR rfl rfl (HR.out.below hSW).tail.tail.tail.tail.tail.head Try.underlying92 rfl i0
  · simp only [List.set_cons_succ, List.set_cons_zero]; rfl
  intro inv
  refine' take_atT 2 hT inv rfl (by omega) (by kernel_rfl) (by kernel_rfl) (fun _ _ _ h => h) (by rfl) hS ?_ ?_ ?_
  rotate_left 2
  · intro W hSW; exact run_loadR rfl rfl (HR.out.below hSW).tail.head Try.underlying92 rfl i4
  · simp only [List.set_cons_succ, List.set_cons_zero]; rfl
  intro inv
  refine' take_atT 6 hT inv rfl (by omega) (by kernel_rfl) (by kernel_rfl) (fun _ _ _ h => h) (by rfl) hS ?_ ?_ ?_
  rotate_left 2
  · intro W hSW; exact run_loadR rfl rfl (HR.out.below hSW).tail.tail.tail.tail.head Try.underlying92 rfl i1
  · simp only [List.set_cons_succ, List.set_cons_zero]; rfl
  intro inv
  refine' take_atT 8 hT inv rfl (by omega) (by kernel_rfl) (by kernel_rfl) (fun _ _ _ h => h) (by rfl) hS ?_ ?_ ?_
  rotate_left 2
  · intro W hSW; exact run_loadR rfl rfl (HR.out.below hSW).tail.tail.tail.tail.tail.head Try.underlying92 rfl i0
  · simp only [List.set_cons_succ, List.set_cons_zero]; rfl
  intro inv
  refine' take_atT 11 hT inv rfl (by omega) (by kernel_rfl) (by kernel_rfl) (fun _ _ _ h => h) (by rfl) hS ?_ ?_ ?_
  rotate_left 2
  · intro W hSW; exact run_loadR rfl rfl (HR.out.below hSW).tail.tail.tail.head Try.underlying92 rfl i2
  · simp only [List.set_cons_succ, List.set_cons_zero]; rfl
  intro inv
  refine' take_atT 13 hT inv rfl (by omega) (by kernel_rfl) (by kernel_rfl) (fun _ _ _ h => h) (by rfl) hS ?_ ?_ ?_
  rotate_left 2
  · intro W hSW; exact run_loadR rfl rfl (HR.out.below hSW).tail.tail.tail.tail.head Try.underlying92 rfl i1
  · simp only [List.set_cons_succ, List.set_cons_zero]; rfl
  intro inv
  refine' take_atT 16 hT inv rfl (by omega) (by kernel_rfl) (by kernel_rfl) (fun _ _ _ h => h) (by rfl) hS ?_ ?_ ?_
  rotate_left 2
  · intro W hSW; exact run_loadR rfl rfl (HR.out.below hSW).tail.tail.head Try.underlying92 rfl i3
  · simp only [List.set_cons_succ, List.set_cons_zero]; rfl
  intro inv
  refine' take_atT 18 hT inv rfl (by omega) (by kernel_rfl) (by kernel_rfl) (fun _ _ _ h => h) (by rfl) hS ?_ ?_ ?_
  rotate_left 2
  · intro W hSW; exact run_loadR rfl rfl (HR.out.below hSW).tail.tail.tail.head Try.underlying92 rfl i2
  · simp only [List.set_cons_succ, List.set_cons_zero]; rfl
  intro inv
  refine' take_atT 21 hT inv rfl (by omega) (by kernel_rfl) (by kernel_rfl) (fun _ _ _ h => h) (by rfl) hS ?_ ?_ ?_
  rotate_left 2
  · intro W hSW; exact run_loadR rfl rfl (HR.out.below hSW).tail.head Try.underlying92 rfl i4
  · simp only [List.set_cons_succ, List.set_cons_zero]; rfl
  intro inv
  refine' take_atT 23 hT inv rfl (by omega) (by kernel_rfl) (by kernel_rfl) (fun _ _ _ h => h) (by rfl) hS ?_ ?_ ?_
  rotate_left 2
  · intro W hSW; exact run_loadR rfl rfl (HR.out.below hSW).tail.tail.head Try.underlying92 rfl i3
  · simp only [List.set_cons_succ, List.set_cons_zero]; rfl
  intro inv
  refine call_atT 1 inv rfl (by omega) (by kernel_rfl) (by rfl) (fun K hK => ?_)
  go_simp
  with_reducible refine (HL0.out _).mono ?_
  rintro e u1 ⟨rfl, hb1⟩
  have kb1 := below_next hS hb1
  clear hS hb1
  refine hK.out _ _ (by exact kb1) (fun inv hS => ?_)
  clear hK K
  refine call_atT 3 inv rfl (by omega) (by kernel_rfl) (by rfl) (fun K hK => ?_)
  go_simp
  with_reducible refine (HQ4.out _).mono ?_
  rintro e u2 ⟨rfl, hb2⟩
  have kb2 := below_next hS hb2
  clear hS hb2
  refine hK.out _ _ (by exact kb2) (fun inv hS => ?_)
  clear hK K
  refine' take_atT 4 hT inv rfl (by omega) (by kernel_rfl) (by kernel_rfl) (fun _ _ _ h => h) (by rfl) hS ?_ ?_ ?_
  rotate_left 2
  · intro W hSW; go_simp; try with_reducible rfl
  · simp only [List.set_cons_succ, List.set_cons_zero]; rfl
  intro inv
  refine' take_atT 5 hT inv rfl (by omega) (by kernel_rfl) (by kernel_rfl) (fun _ _ _ h => h) (by rfl) hS ?_ ?_ ?_
  rotate_left 2
  · intro W hSW; go_simp; try with_reducible rfl
  · simp only [List.set_cons_succ, List.set_cons_zero]; rfl
  intro inv
  refine call_atT 7 inv rfl (by omega) (by kernel_rfl) (by rfl) (fun K hK => ?_)
  go_simp
  with_reducible refine (HL1.out _).mono ?_
  rintro e u3 ⟨rfl, hb3⟩
  have kb3 := below_next hS hb3
  clear hS hb3
  refine hK.out _ _ (by exact kb3) (fun inv hS => ?_)
  clear hK K
  refine call_atT 9 inv rfl (by omega) (by kernel_rfl) (by rfl) (fun K hK => ?_)
  go_simp
  with_reducible refine (HQ0.out _).mono ?_
  rintro e u4 ⟨rfl, hb4⟩
  have kb4 := below_next hS hb4
  clear hS hb4
  refine hK.out _ _ (by exact kb4) (fun inv hS => ?_)
  clear hK K
  refine' take_atT 10 hT inv rfl (by omega) (by kernel_rfl) (by kernel_rfl) (fun _ _ _ h => h) (by rfl) hS ?_ ?_ ?_
  rotate_left 2
  · intro W hSW; go_simp; try with_reducible rfl
  · simp only [List.set_cons_succ, List.set_cons_zero]; rfl
  intro inv
  refine call_atT 12 inv rfl (by omega) (by kernel_rfl) (by rfl) (fun K hK => ?_)
  go_simp
  with_reducible refine (HL2.out _).mono ?_
  rintro e u5 ⟨rfl, hb5⟩
  have kb5 := below_next hS hb5
  clear hS hb5
  refine hK.out _ _ (by exact kb5) (fun inv hS => ?_)
  clear hK K
  refine call_atT 14 inv rfl (by omega) (by kernel_rfl) (by rfl) (fun K hK => ?_)
  go_simp
  with_reducible refine (HQ1.out _).mono ?_
  rintro e u6 ⟨rfl, hb6⟩
  have kb6 := below_next hS hb6
  clear hS hb6
  refine hK.out _ _ (by exact kb6) (fun inv hS => ?_)
  clear hK K
  refine' take_atT 15 hT inv rfl (by omega) (by kernel_rfl) (by kernel_rfl) (fun _ _ _ h => h) (by rfl) hS ?_ ?_ ?_
  rotate_left 2
  · intro W hSW; go_simp; try with_reducible rfl
  · simp only [List.set_cons_succ, List.set_cons_zero]; rfl
  intro inv
  refine call_atT 17 inv rfl (by omega) (by kernel_rfl) (by rfl) (fun K hK => ?_)
  go_simp
  with_reducible refine (HL3.out _).mono ?_
  rintro e u7 ⟨rfl, hb7⟩
  have kb7 := below_next hS hb7
  clear hS hb7
  refine hK.out _ _ (by exact kb7) (fun inv hS => ?_)
  clear hK K
  refine call_atT 19 inv rfl (by omega) (by kernel_rfl) (by rfl) (fun K hK => ?_)
  go_simp
  with_reducible refine (HQ2.out _).mono ?_
  rintro e u8 ⟨rfl, hb8⟩
  have kb8 := below_next hS hb8
  clear hS hb8
  refine hK.out _ _ (by exact kb8) (fun inv hS => ?_)
  clear hK K
  refine' take_atT 20 hT inv rfl (by omega) (by kernel_rfl) (by kernel_rfl) (fun _ _ _ h => h) (by rfl) hS ?_ ?_ ?_
  rotate_left 2
  · intro W hSW; go_simp; try with_reducible rfl
  · simp only [List.set_cons_succ, List.set_cons_zero]; rfl
  intro inv
  refine call_atT 22 inv rfl (by omega) (by kernel_rfl) (by rfl) (fun K hK => ?_)
  go_simp
  with_reducible refine (HL4.out _).mono ?_
  rintro e u9 ⟨rfl, hb9⟩
  have kb9 := below_next hS hb9
  clear hS hb9
  refine hK.out _ _ (by exact kb9) (fun inv hS => ?_)
  clear hK K
  refine call_atT 24 inv rfl (by omega) (by kernel_rfl) (by rfl) (fun K hK => ?_)
  go_simp
  with_reducible refine (HQ3.out _).mono ?_
  rintro e u10 ⟨rfl, hb10⟩
  have kb10 := below_next hS hb10
  clear hS hb10
  refine hK.out _ _ (by exact kb10) (fun inv hS => ?_)
  clear hK K
  refine' take_atT 25 hT inv rfl (by omega) (by kernel_rfl) (by kernel_rfl) (fun _ _ _ h => h) (by rfl) hS ?_ ?_ ?_
  rotate_left 2
  · intro W hSW; go_simp; try with_reducible rfl
  · simp only [List.set_cons_succ, List.set_cons_zero]; rfl
  intro inv
  refine done_atT (by kernel_rfl) ?_
  simp only [List.drop_succ_cons, List.drop_zero]
  clear hS
  (try simp only [Act.put])
  have HR2 := Lib.hid (HR.out.below kb10)
  have HB2 := Lib.hid (below_next HB1.out kb10)
  clear kb1 kb2 kb3 kb4 kb5 kb6 kb7 kb8 kb9 kb10
  go_wp2_with fail
  with_reducible refine (HC.out _).mono ?_
  rintro e w2 ⟨rfl, hb2⟩
  have hr2 := (HR2.out.below hb2).head
  have HE : Hid (Below W.heap.size W (w2.setRow (W.heap.size + 1 + 1 + 1 + 1 + 1) S)) := Lib.hid (below_row (below_next HB2.out hb2) (by omega))
  clear hb2
  go_wp2_with (refine wpList_store_row rfl 26 (.tmp 10) (.tmp 37) rfl (W.heap.size + 1 + 1 + 1 + 1 + 1) S rfl rfl 26 #[.int .u64 0, .int .u64 0, .int .u64 0, .int .u64 0, .int .u64 0] hr2 iS sS oS ?_)
  refine NoPanic.normal ?_
  go_wp2_with fail
  (try simp only [Exit.inBlock, Exit.then])
  refine bodyPost_ret (results_cell_row rfl _ _ (W.heap.size + 1 + 1 + 1 + 1 + 1) _ S _ _ rfl (setRow_heap w2 _ _ _ _ _ hr2) Try.underlying26 rfl iS) rfl ?_
  exact HP.out _ HE.out
end Go.Proofs.Ytfejabfmhddepaa

