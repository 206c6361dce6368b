/- The program's flash in memory: its plain state, the block of its struct, the rows of its bytes and of its counts. The contracts of the program's flash that only ask: powered, holds, hasSector, Size, Off, Steps, Erases. The builtin copy into a row of bytes that a slice owns: the law, alone and as one step of a region that draws. The contracts of the program's Read, Peek, Boot, Spoil, Arm. The contract of the program's Arm. The contract of the program's Erase. The contract of the program's programWord. The contract of the program's New. The contract of the program's Program. -/
import Derived.Test.YtbkcglfdliicpaaGrfl
import Derived.Laws.CopyOwn
import Derived.Test.YtbkcglfdliicpaaGnor
namespace Go.Proofs.Ytbkcglfdliicpaa
open Go.RowKit
set_option linter.unusedVariables false
set_option maxRecDepth 100000

/-- the state of the program's flash -/
structure Dl where
  b : List UInt8
  worn : List Int
  steps : Int
  off : Bool
  armed : Bool
  after : Int
  pick : List UInt8

/-- a step: by which pick was it broken, if so? -/
def dstepOf (d : Dl) : (Option (List UInt8)) × Dl :=
  if d.armed then
    if 0 < d.after then (none, ⟨d.b, d.worn, d.steps + 1, d.off, d.armed, d.after - 1, d.pick⟩)
    else (some d.pick, ⟨d.b, d.worn, d.steps + 1, true, false, 0, []⟩)
  else (none, ⟨d.b, d.worn, d.steps + 1, d.off, d.armed, d.after, d.pick⟩)

/-- one more plain store into the struct's own block -/
theorem Only.own {g : Nat} {w w' : World} (h : Only (fun k => k = g) w w') (i : Nat) (v : Value) : Only (fun k => k = g) w (w'.setCell ⟨g, i, none⟩ v) := h.setCell (p := ⟨g, i, none⟩) (.inl rfl) v
theorem Bs.own {w w' : World} {g gB gW N : Nat} {A : Option Addr} {l : List UInt8} (h : Bs w A l) (hA : ∀ k, At A k → k ≠ g ∧ k ≠ gB ∧ k ≠ gW ∧ N ≤ k) (ho : Only (fun k => k = g) w w') : Bs w' A l := h.only ho fun k hk => (hA k hk).1

end Go.Proofs.Ytbkcglfdliicpaa

namespace Go.Proofs.Ytbkcglfdliicpaa
open Go.RowKit
set_option linter.unusedVariables false
set_option maxRecDepth 100000

end Go.Proofs.Ytbkcglfdliicpaa

namespace Go.Proofs.Ytbkcglfdliicpaa
open Go.RowKit
set_option linter.unusedVariables false
set_option maxRecDepth 100000

theorem laid_eq {l : List UInt8} {a : Nat} {s : List UInt8} (h : a + s.length ≤ l.length) : laid l a s = l.take a ++ (s ++ l.drop (a + s.length)) := by
  apply list_ext_getD (by rw [laid_len]; simp; omega)
  intro i hi
  rw [laid_len] at hi
  unfold laid
  rw [laidTo_get hi]
  simp only [List.getD, List.getElem?_append, List.getElem?_take, List.getElem?_drop, List.length_take]
  have e : min a l.length = a := by omega
  rw [e]
  grind
theorem laid_nil (l : List UInt8) (a : Nat) : laid l a [] = l := laidTo_zero _ _ _

theorem take_splice {X cs : List Value} {n a : Nat} (h : a + cs.length ≤ n) : (X.take a ++ cs ++ X.drop (a + cs.length)).take n = (X.take n).take a ++ (cs ++ (X.take n).drop (a + cs.length)) := by
  apply List.ext_getElem?
  intro i
  simp only [List.getElem?_append, List.getElem?_take, List.getElem?_drop, List.length_take, List.length_append]
  grind

section
variable {P : Program}
theorem run_copy_bs (w : World) (base : Nat) (dT sT ty E : TypeId) (hu : P.underlying dT = some (.slice E)) (hs : (P.info? E).map (·.size) = some 1)
    (g n c : Nat) (l : List UInt8) (hown : Ob E w base (.slice (some ⟨g, 0, none⟩) n c) l) (dp : Option Addr) (off dLen dCap : Nat) (A : Option Addr) (m : List UInt8) (sLen sCap k : Nat) (hm : Bs w A m) (hsl : sLen = m.length)
    (hk : k = Nat.min sLen dLen) (hdp : 0 < k → dp = some ⟨g, off, none⟩) (hfit : off + k ≤ l.length) :
    ∃ w', (Builtin.copy_ #[dT, sT] ty #[.slice dp dLen dCap, .slice A sLen sCap]).run P w = .ok (goInt k) w' ∧ Ob E w' base (.slice (some ⟨g, 0, none⟩) n c) (laid l off (m.take k)) ∧ Only (fun j => j = g) w w' := by
  subst hsl
  have hkm : k ≤ m.length := by rw [hk]; exact Nat.min_le_left _ _
  by_cases h0 : k = 0
  · subst h0
    refine ⟨w, run_copy_none (P := P) w dT sT ty E dp A dLen dCap m.length sCap hu hs hk.symm, ?_, Only.refl _ _⟩
    rw [List.take_zero, laid_nil]
    exact hown
  · obtain rfl := hdp (by omega)
    obtain ⟨b, o, rfl, hc⟩ := hm (by omega)
    have hlen := hown.len
    subst hlen
    rcases hown.2 with ⟨h', _⟩ | ⟨g', cap, cur, e, hb', hg, hnc, hcm, hsz, htk⟩
    · simp at h'
    · injection e with e1 e2 e3
      injection e1 with e1
      injection e1 with e1
      subst e1
      subst e3
      rw [Nat.mul_one] at hsz htk
      have hcs : ((m.take k).map bval).length = k := by simp; omega
      have hrun := run_copy_row (P := P) w dT sT ty E g off dLen dCap ⟨b, o, none⟩ m.length sCap cur E ((m.take k).map bval) hu hs hg (by rw [hcs]; exact hk)
        (fun j v hj => (Bs.news (w := w) (a := ⟨b, o, none⟩) (l := m) hm) j v (by
          have : j < k := by
            rcases Nat.lt_or_ge j k with h | h
            · exact h
            · rw [List.getElem?_eq_none (by rw [hcs]; exact h)] at hj; cases hj
          simpa [List.getElem?_take, this] using hj)) (by rw [hcs]; omega) (fun v hv => by obtain ⟨x, _, rfl⟩ := List.mem_map.1 hv; rfl)
      rw [hcs] at hrun
      refine ⟨_, hrun, ⟨?_, .inr ⟨g, c, _, ?_, hb', setRow_heap w g _ _ E _ hg, ?_, hcm, ?_, ?_⟩⟩, ⟨rfl, rfl, rfl, by simp [World.setRow], fun j hj hn => setRow_other w g j _ hn⟩⟩
      · simp
      · rw [laid_len]
      · rw [laid_len]; exact hnc
      · simp; omega
      · rw [laid_len, Nat.mul_one]
        have := take_splice (X := cur.toList) (cs := (m.take k).map bval) (n := l.length) (a := off) (by rw [hcs]; exact hfit)
        rw [hcs] at this
        simp only at this ⊢
        rw [this, htk, laid_eq (by simp; omega)]
        simp only [List.map_append, List.map_take, List.map_drop, List.length_take, Nat.min_eq_left hkm]

theorem wpList_copy_bs {w : World} {ops : Array Oper} {rest : List Oper} {o : Oper} {a : Act} {Q : Exit → Act → World → Prop} (hgd : o.guard = none) (d s : Operand) (dT sT : TypeId)
    (ho : o.op = .call { callee := .builtin .copy, args := #[d, s], argTypes := #[dT, sT] }) (base : Nat) (E : TypeId) (hu : P.underlying dT = some (.slice E)) (hs : (P.info? E).map (·.size) = some 1)
    (g n c : Nat) (l : List UInt8) (hown : Ob E w base (.slice (some ⟨g, 0, none⟩) n c) l) (dp : Option Addr) (off dLen dCap : Nat) (hd : a.eval d = .slice dp dLen dCap) (A : Option Addr) (m : List UInt8) (sLen sCap k : Nat) (hx : a.eval s = .slice A sLen sCap) (hm : Bs w A m) (hsl : sLen = m.length)
    (hk : k = Nat.min sLen dLen) (hdp : 0 < k → dp = some ⟨g, off, none⟩) (hfit : off + k ≤ l.length)
    (h : ∀ w', Ob E w' base (.slice (some ⟨g, 0, none⟩) n c) (laid l off (m.take k)) → Only (fun j => j = g) w w' → wpList P ops Q rest (a.put o.dst (goInt k)) w') : wpList P ops Q (o :: rest) a w := by
  refine wpList_plain hgd fun K hK => ?_
  obtain ⟨w', hrun, h2, h3⟩ := run_copy_bs (P := P) w base dT sT o.type E hu hs g n c l hown dp off dLen dCap A m sLen sCap k hm hsl hk hdp hfit
  unfold Oper.wp execOp
  simp only [ho, resolve, invoke, builtin, Sem.run_bind, Sem.run_pure, Result.andThen_ok, List.map_toArray, List.map_cons, List.map_nil, hd, hx, hrun]
  exact hK _ _ (h w' h2 h3)

/-- as one step of a region that draws -/
theorem step_copy_bs {w : World} {ops : Array Oper} {o : Oper} {a : Act} {K : Act → World → Prop} {Q : Exit → Act → World → Prop} {F : Prop} (hgd : o.guard = none) (d s : Operand) (dT sT : TypeId)
    (ho : o.op = .call { callee := .builtin .copy, args := #[d, s], argTypes := #[dT, sT] }) (base : Nat) (E : TypeId) (hu : P.underlying dT = some (.slice E)) (hs : (P.info? E).map (·.size) = some 1)
    (g n c : Nat) (l : List UInt8) (hown : Ob E w base (.slice (some ⟨g, 0, none⟩) n c) l) (dp : Option Addr) (off dLen dCap : Nat) (hd : a.eval d = .slice dp dLen dCap) (A : Option Addr) (m : List UInt8) (sLen sCap k : Nat) (hx : a.eval s = .slice A sLen sCap) (hm : Bs w A m) (hsl : sLen = m.length)
    (hk : k = Nat.min sLen dLen) (hdp : 0 < k → dp = some ⟨g, off, none⟩) (hfit : off + k ≤ l.length)
    (h : ∀ w', Ob E w' base (.slice (some ⟨g, 0, none⟩) n c) (laid l off (m.take k)) → Only (fun j => j = g) w w' → K (a.put o.dst (goInt k)) w') : if Region.wanted o (yielded ops a.tmps) = true then Oper.wp P o a w K Q else F := by
  have hw : Region.wanted o (yielded ops a.tmps) = true := by simp [Region.wanted, hgd]
  rw [if_pos hw]
  obtain ⟨w', hrun, h2, h3⟩ := run_copy_bs (P := P) w base dT sT o.type E hu hs g n c l hown dp off dLen dCap A m sLen sCap k hm hsl hk hdp hfit
  unfold Oper.wp execOp
  simp only [ho, resolve, invoke, builtin, Sem.run_bind, Sem.run_pure, Result.andThen_ok, List.map_toArray, List.map_cons, List.map_nil, hd, hx, hrun]
  exact h w' h2 h3
end

theorem info5s : (Try.prog.info? 5).map (·.size) = some 1 := by kernel_rfl
end Go.Proofs.Ytbkcglfdliicpaa

namespace Go.Proofs.Ytbkcglfdliicpaa
open Go.RowKit
set_option linter.unusedVariables false
set_option maxRecDepth 100000

theorem sizeOf_u8 (W : World) : (sizeOf (Try.prog.elem 22)).run Try.prog W = .ok 1 W := by kernel_rfl
theorem under_bs : Try.prog.underlying 22 = some (.slice (Try.prog.elem 22)) := by kernel_rfl

/-- a part of a row of bytes: where it is empty its address may be another -/
theorem slice_in (g y n c : Nat) (h : y + n ≤ c) : ∃ o, (o = y ∨ n = 0) ∧ ∀ (L : Nat) (u : World),
    (Instr.slice 22 (.slice (some ⟨g, 0, none⟩) L c) (some (.int .i64 (y : Int))) (some (.int .i64 ((y : Int) + (n : Int)))) none).run Try.prog u = .ok (.slice (some ⟨g, o, none⟩) n (c - y)) u := by
  by_cases hc : c = y
  · refine ⟨0, .inr (by omega), fun L u => ?_⟩
    rw [run_slice_lh u _ _ _ _ under_bs _ _ _ _ (by omega) (by omega) (by omega), sizeOf_u8]
    simp only [Result.andThen, sliced, Int.toNat_natCast, if_pos hc]
    have e : ((y : Int) + (n : Int)).toNat - y = n := by omega
    rw [e]
  · refine ⟨y, .inl rfl, fun L u => ?_⟩
    rw [run_slice_lh u _ _ _ _ under_bs _ _ _ _ (by omega) (by omega) (by omega), sizeOf_u8]
    simp only [Result.andThen, sliced, Int.toNat_natCast, if_neg hc, Option.map_some, Nat.mul_one]
    have e : ((y : Int) + (n : Int)).toNat - y = n := by omega
    rw [e]
    rw [addr_add, Nat.zero_add]
/-- .. to the end -/
theorem slice_to_end (g y L c : Nat) (h : y ≤ L) (hc' : L ≤ c) : ∃ o, (o = y ∨ L - y = 0) ∧ ∀ (u : World),
    (Instr.slice 22 (.slice (some ⟨g, 0, none⟩) L c) (some (.int .i64 (y : Int))) none none).run Try.prog u = .ok (.slice (some ⟨g, o, none⟩) (L - y) (c - y)) u := by
  by_cases hc : c = y
  · refine ⟨0, .inr (by omega), fun u => ?_⟩
    rw [run_slice_l u _ _ _ _ under_bs _ _ (by omega) (by omega), sizeOf_u8]
    simp only [Result.andThen, sliced, Int.toNat_natCast, if_pos hc]
  · refine ⟨y, .inl rfl, fun u => ?_⟩
    rw [run_slice_l u _ _ _ _ under_bs _ _ (by omega) (by omega), sizeOf_u8]
    simp only [Result.andThen, sliced, Int.toNat_natCast, if_neg hc, Option.map_some, Nat.mul_one]
    rw [addr_add, Nat.zero_add]

theorem Ob.cap {E : TypeId} {w : World} {base g n c : Nat} {l : List UInt8} (h : Ob E w base (.slice (some ⟨g, 0, none⟩) n c) l) : n ≤ c := by
  rcases h.2 with ⟨h', _⟩ | ⟨g', cap, cur, e, _, _, hnc, _⟩
  · simp at h'
  · injection e with e1 e2 e3; subst e3
    have := h.len
    omega
theorem Ob.formN {E : TypeId} {w : World} {base n : Nat} {v : Value} {l : List UInt8} (h : Ob E w base v l) (hn : l.length = n) (hpos : 0 < n) :
    ∃ g c, v = .slice (some ⟨g, 0, none⟩) n c ∧ Bs w (some ⟨g, 0, none⟩) l ∧ n ≤ c ∧ base ≤ g := by
  subst hn
  obtain ⟨A, c, rfl, hb, hf⟩ := h.form
  rcases hf with rfl | ⟨g, rfl, hle, -⟩
  · obtain ⟨b, o, e, -⟩ := hb hpos
    cases e
  · exact ⟨g, c, rfl, hb, h.cap, hle⟩
theorem below_on {w W W' : World} (hb : Below w.heap.size w W) (h : Below W.heap.size W W') : Below w.heap.size w W' := hb.trans (h.mono hb.size)
theorem Bs.cutAt {w : World} {g : Nat} {l : List UInt8} (h : Bs w (some ⟨g, 0, none⟩) l) {a n o : Nat} (hf : a + n ≤ l.length) (ho : o = a ∨ n = 0) : Bs w (some ⟨g, o, none⟩) (Ytbkcglfdliicpaa.cut l a n) := by
  rcases ho with rfl | rfl
  · exact h.cut hf
  · intro hl; rw [cut_len hf] at hl; omega

def dreadOf (d : Dl) (a n : Int) : List UInt8 × Int :=
  if d.off then ([], 5) else if 0 ≤ a ∧ 0 ≤ n ∧ a + n ≤ d.b.length then (cut d.b a.toNat n.toNat, 0) else ([], 2)

def peekOf (d : Dl) (a n : Int) : List UInt8 := if 0 ≤ a ∧ 0 ≤ n ∧ a + n ≤ d.b.length then cut d.b a.toNat n.toNat else []

def dwithB (d : Dl) (b : List UInt8) : Dl := ⟨b, d.worn, d.steps, d.off, d.armed, d.after, d.pick⟩
end Go.Proofs.Ytbkcglfdliicpaa

namespace Go.Proofs.Ytbkcglfdliicpaa
open Go.RowKit
set_option linter.unusedVariables false
set_option maxRecDepth 100000

def darmOf (d : Dl) (n : Int) (p : List UInt8) : Dl :=
  if n < 0 then ⟨d.b, d.worn, d.steps, d.off, false, 0, []⟩ else ⟨d.b, d.worn, d.steps, d.off, true, n, p.take 1024⟩

theorem Bs.take {w : World} {A : Option Addr} {l : List UInt8} (h : Bs w A l) (k : Nat) : Bs w A (l.take k) := fun hl => by
  rw [List.length_take] at hl
  obtain ⟨b, o, e, hc⟩ := h (by omega)
  refine ⟨b, o, e, fun j hj => ?_⟩
  rw [List.length_take] at hj
  rw [hc j (by omega)]
  simp only [List.getD, List.getElem?_take]
  rw [if_pos (by omega)]

/-- the head of a row -/
theorem slice_head (A : Option Addr) (L c k : Nat) (h : k ≤ c) (u : World) : (Instr.slice 22 (.slice A L c) none (some (.int .i64 (k : Int))) none).run Try.prog u = .ok (.slice A k c) u := by
  rw [run_slice_h u _ _ _ _ under_bs _ _ (by omega) (by omega), sizeOf_u8]
  simp only [Result.andThen, sliced, Int.toNat_natCast]
  by_cases hc : c = 0
  · subst hc; simp
  · rw [if_neg (by omega)]
    cases A with
    | none => simp
    | some a => simp [Addr.add]

end Go.Proofs.Ytbkcglfdliicpaa

namespace Go.Proofs.Ytbkcglfdliicpaa
open Go.RowKit
set_option linter.unusedVariables false
set_option maxRecDepth 100000

def dwithW (d : Dl) (l : List Int) : Dl := ⟨d.b, l, d.steps, d.off, d.armed, d.after, d.pick⟩

def deraseIn (d : Dl) (x : Nat) : Int × Dl :=
  match dstepOf (dwithW d (d.worn.set x (d.worn.getD x 0 + 1))) with
  | (some p, f) => (5, dwithB f (laid f.b (1024 * x) (halfB (cut f.b (1024 * x) 1024) p)))
  | (none, f) => (0, dwithB f (laid f.b (1024 * x) (List.replicate 1024 255)))
def deraseOf (d : Dl) (s : Int) : Int × Dl :=
  if d.off then (5, d) else if 0 ≤ s ∧ s < d.worn.length then deraseIn d s.toNat else (2, d)

/-- what is asked of a flash's numbers -/
structure DlOk (d : Dl) : Prop where
  len : d.b.length = 1024 * d.worn.length
  few : d.worn.length ≤ 65536
  worn : ∀ x ∈ d.worn, 0 ≤ x ∧ x ≤ 4611686018427387904
  s0 : 0 ≤ d.steps
  s1 : d.steps ≤ 4611686018427387904
  l0 : 0 ≤ d.after
  l1 : d.after ≤ 9223372036854775807
  p : d.pick.length ≤ 1024

theorem dstepOf_b (f : Dl) : (dstepOf f).2.b = f.b ∧ (dstepOf f).2.worn = f.worn ∧ ((dstepOf f).1 = none ∨ (dstepOf f).1 = some f.pick) := by
  unfold dstepOf
  split
  · split
    · exact ⟨rfl, rfl, .inl rfl⟩
    · exact ⟨rfl, rfl, .inr rfl⟩
  · exact ⟨rfl, rfl, .inl rfl⟩

end Go.Proofs.Ytbkcglfdliicpaa

namespace Go.Proofs.Ytbkcglfdliicpaa
open Go.RowKit
set_option linter.unusedVariables false
set_option maxRecDepth 100000

/-- one word -/
def dwordOf (d : Dl) (a : Nat) (m : List UInt8) : Int × Dl :=
  match dstepOf d with
  | (some p, f) => (5, dwithB f (laid f.b a (tornB (cut f.b a 8) m p)))
  | (none, f) => (0, dwithB f (laid f.b a m))

end Go.Proofs.Ytbkcglfdliicpaa

namespace Go.Proofs.Ytbkcglfdliicpaa
open Go.RowKit
set_option linter.unusedVariables false
set_option maxRecDepth 100000

theorem make_cap (k : Nat) (hk : k ≤ 2147483648) (u : World) : (Instr.makeSlice 22 (.int .i64 0) (.int .i64 (k : Int))).run Try.prog u =
      .ok (.slice (some ⟨u.heap.size, 0, none⟩) 0 k) (u.alloc (.cells (madeCells #[.int .u8 0] k) 5)) := by
  obtain ⟨i0, hi, hz0, hz1, hz2⟩ := info_parts info5
  have h := run_make (P := Try.prog) u 22 5 i0 (.int .u8 0) Try.underlying22 hi hz0 .i64 .i64 0 (k : Int) (by omega) (by omega) (by rw [hz2]; omega) (by omega)
  simpa [hz1, Value.cells] using h
theorem cap_made (w : World) (k : Nat) (hk : k ≤ 2147483648) : Ob 5 (w.alloc (.cells (madeCells #[.int .u8 0] k) 5)) w.heap.size (.slice (some ⟨w.heap.size, 0, none⟩) 0 k) [] :=
  ⟨by simp, .inr ⟨w.heap.size, k, _, rfl, Nat.le_refl _, heap_alloc_new _ _, Nat.zero_le _, by unfold maxLen; omega, by simp [size_madeCells], by simp⟩⟩

def SlotIs (n : Nat) (w : World) (s : Value) (w' : World) : Prop := s = .int .i64 (n : Int) ∧ w' = w

end Go.Proofs.Ytbkcglfdliicpaa

namespace Go.Proofs.Ytbkcglfdliicpaa
open Go.RowKit
set_option linter.unusedVariables false
set_option maxRecDepth 100000

/-- k words -/
def dprogTo (d : Dl) (a : Nat) (m : List UInt8) : Nat → Int × Dl
  | 0 => (0, d)
  | k + 1 => if (dprogTo d a m k).1 = 0 then dwordOf (dprogTo d a m k).2 (a + 8 * k) (cut m (8 * k) 8) else dprogTo d a m k
def dprogOf (d : Dl) (s : Int) (m : List UInt8) : Int × Dl :=
  if d.off then (5, d) else if ¬ (0 ≤ s ∧ s + m.length ≤ d.b.length) then (2, d) else if s.toNat % 8 ≠ 0 ∨ m.length % 8 ≠ 0 then (3, d)
  else if canB (cut d.b s.toNat m.length) m = false then (4, d) else dprogTo d s.toNat m (m.length / 8)

theorem laid_get {l : List UInt8} {a : Nat} {s : List UInt8} {i : Nat} (h : i < l.length) : (laid l a s).getD i 0 = if a ≤ i ∧ i < a + s.length then s.getD (i - a) 0 else l.getD i 0 := laidTo_get h

theorem dstepOf_num (d : Dl) (ok : DlOk d) (h : d.steps + 1 ≤ 4611686018427387904) : DlOk (dstepOf d).2 ∧ (dstepOf d).2.steps = d.steps + 1 := by
  unfold dstepOf
  have := ok.s0
  have := ok.l0
  have := ok.l1
  split
  · split
    · exact ⟨⟨ok.len, ok.few, ok.worn, by simp; omega, h, by simp; omega, by simp; omega, ok.p⟩, rfl⟩
    · exact ⟨⟨ok.len, ok.few, ok.worn, by simp; omega, h, by simp, by simp, by simp⟩, rfl⟩
  · exact ⟨⟨ok.len, ok.few, ok.worn, by simp; omega, h, ok.l0, ok.l1, ok.p⟩, rfl⟩
theorem DlOk.withB {d : Dl} (ok : DlOk d) {b : List UInt8} (h : b.length = d.b.length) : DlOk (dwithB d b) := ⟨h.trans ok.len, ok.few, ok.worn, ok.s0, ok.s1, ok.l0, ok.l1, ok.p⟩

structure WordFact (d : Dl) (a : Nat) (r : Int × Dl) : Prop where
  ok : DlOk r.2
  steps : r.2.steps = d.steps + 1
  worn : r.2.worn = d.worn
  len : r.2.b.length = d.b.length
  rest : ∀ i, i < d.b.length → (i < a ∨ a + 8 ≤ i) → r.2.b.getD i 0 = d.b.getD i 0
  code : r.1 = 0 ∨ r.1 = 5
theorem dwordOf_fact (d : Dl) (ok : DlOk d) (h : d.steps + 1 ≤ 4611686018427387904) (a : Nat) (m : List UInt8) (hm : m.length = 8) : WordFact d a (dwordOf d a m) := by
  obtain ⟨h1, h2⟩ := dstepOf_num d ok h
  obtain ⟨e1, e2, e3⟩ := dstepOf_b d
  unfold dwordOf
  obtain ⟨t, f, hf⟩ : ∃ t f, dstepOf d = (t, f) := ⟨_, _, rfl⟩
  rw [hf] at h1 h2 e1 e2 ⊢
  simp only at h1 h2 e1 e2
  cases t with
  | none => exact ⟨h1.withB (laid_len _ _ _), h2, e2, by show (laid _ _ _).length = _; rw [laid_len, e1], fun i hi ho => by
      show (laid f.b a m).getD i 0 = _
      rw [laid_get (by rw [e1]; exact hi), if_neg (by rw [hm]; omega), e1], .inl rfl⟩
  | some p => exact ⟨h1.withB (laid_len _ _ _), h2, e2, by show (laid _ _ _).length = _; rw [laid_len, e1], fun i hi ho => by
      show (laid f.b a _).getD i 0 = _
      rw [laid_get (by rw [e1]; exact hi), if_neg (by rw [tornB_len, hm]; omega), e1], .inr rfl⟩

structure ProgFact (d : Dl) (a k : Nat) (r : Int × Dl) : Prop where
  ok : DlOk r.2
  steps : r.2.steps ≤ d.steps + k
  worn : r.2.worn = d.worn
  len : r.2.b.length = d.b.length
  rest : ∀ i, i < d.b.length → (i < a ∨ a + 8 * k ≤ i) → r.2.b.getD i 0 = d.b.getD i 0
  code : r.1 = 0 ∨ r.1 = 5
theorem dprogTo_fact (d : Dl) (ok : DlOk d) (a : Nat) (m : List UInt8) (n : Nat) (hm : 8 * n ≤ m.length) (h : d.steps + n ≤ 4611686018427387904) : ∀ k, k ≤ n → ProgFact d a k (dprogTo d a m k)
  | 0, _ => ⟨ok, by simp [dprogTo], rfl, rfl, fun _ _ _ => rfl, .inl rfl⟩
  | k + 1, hk => by
    have ih := dprogTo_fact d ok a m n hm h k (by omega)
    unfold dprogTo
    by_cases h0 : (dprogTo d a m k).1 = 0
    · rw [if_pos h0]
      have hs := ih.steps
      have w := dwordOf_fact (dprogTo d a m k).2 ih.ok (by omega) (a + 8 * k) (cut m (8 * k) 8) (cut_len (by omega))
      exact ⟨w.ok, by rw [w.steps]; omega, by rw [w.worn, ih.worn], by rw [w.len, ih.len], fun i hi ho => by rw [w.rest i (by rw [ih.len]; exact hi) (by omega), ih.rest i hi (by omega)], w.code⟩
    · rw [if_neg h0]
      exact ⟨ih.ok, by have := ih.steps; omega, ih.worn, ih.len, fun i hi ho => ih.rest i hi (by omega), ih.code⟩
theorem dprogTo_stop {d : Dl} {a : Nat} {m : List UInt8} {k : Nat} (h : (dprogTo d a m k).1 ≠ 0) : ∀ n, k ≤ n → dprogTo d a m n = dprogTo d a m k := by
  intro n hn
  induction n with
  | zero => obtain rfl : k = 0 := by omega
            rfl
  | succ n ih =>
    by_cases e : k = n + 1
    · rw [e]
    · have := ih (by omega)
      rw [dprogTo, if_neg (by rw [this]; exact h), this]

theorem canB_part {l m : List UInt8} {a k : Nat} {f : List UInt8} (hl : a + m.length ≤ l.length) (hc : canB (cut l a m.length) m = true) (hk : 8 * k + 8 ≤ m.length) (hf : f.length = l.length) (hr : ∀ i, i < l.length → (i < a ∨ a + 8 * k ≤ i) → f.getD i 0 = l.getD i 0) :
    canB (cut f (a + 8 * k) 8) (cut m (8 * k) 8) = true := by
  have h1 := canB_iff.1 hc
  refine canB_true (by rw [cut_len (by omega), cut_len (by omega)]) fun i hi => ?_
  rw [cut_len (by omega)] at hi
  rw [cut_get hi, cut_get hi, hr _ (by omega) (by omega)]
  have := h1.2 (8 * k + i) (by rw [cut_len hl]; omega)
  rwa [cut_get (by omega), ← Nat.add_assoc] at this

/-- a row that holds something lies off the blocks of F -/
def Off (F : Nat → Prop) (A : Option Addr) (l : List UInt8) : Prop := 0 < l.length → ∀ k, At A k → ¬ F k
theorem Bs.offs {F : Nat → Prop} {w w' : World} {A : Option Addr} {l : List UInt8} (h : Bs w A l) (hA : Off F A l) (ho : Only F w w') : Bs w' A l := fun hl => h.only ho (hA hl) hl

theorem slice_any (A : Option Addr) (w : World) (m : List UInt8) (hm : Bs w A m) (c : Nat) (hc : m.length ≤ c) (y n : Nat) (hn : 0 < n) (h : y + n ≤ m.length) : ∃ A', Bs w A' (cut m y n) ∧ (∀ k, At A' k → At A k) ∧ ∀ (u : World),
    (Instr.slice 22 (.slice A m.length c) (some (.int .i64 (y : Int))) (some (.int .i64 ((y : Int) + (n : Int)))) none).run Try.prog u = .ok (.slice A' n (c - y)) u := by
  obtain ⟨b, o, rfl, hcell⟩ := hm (by omega)
  refine ⟨some ⟨b, o + y, none⟩, fun hl => ⟨b, o + y, rfl, fun j hj => ?_⟩, ?_, fun u => ?_⟩
  · rw [cut_len h] at hj
    rw [cut_get hj, Nat.add_assoc]
    exact hcell (y + j) (by omega)
  · rintro k ⟨a, e, rfl⟩
    injection e with e
    subst e
    exact ⟨_, rfl, rfl⟩
  · rw [run_slice_lh u _ _ _ _ under_bs _ _ _ _ (by omega) (by omega) (by omega), sizeOf_u8]
    simp only [Result.andThen, sliced, Int.toNat_natCast, Option.map_some, Nat.mul_one]
    rw [if_neg (by omega)]
    have e : ((y : Int) + (n : Int)).toNat - y = n := by omega
    rw [e]
    rw [addr_add]

end Go.Proofs.Ytbkcglfdliicpaa

