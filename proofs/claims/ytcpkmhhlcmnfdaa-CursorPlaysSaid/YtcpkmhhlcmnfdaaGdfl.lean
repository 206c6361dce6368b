/- The program's flash in memory: its plain state, the block of its struct, the rows of its bytes and of its counts. The contracts of the program's flash that only ask: powered, holds, hasSector, Size, Off, Steps, Erases. The builtin copy into a row of bytes that a slice owns: the law, alone and as one step of a region that draws. The contracts of the program's Read, Peek, Boot, Spoil, Arm. The contract of the program's Arm. The contract of the program's Erase. The contract of the program's programWord. The contract of the program's New. The contract of the program's Program. -/
import Derived.Test.YtcpkmhhlcmnfdaaGrfl
import Derived.Laws.CopyOwn
import Derived.Test.YtcpkmhhlcmnfdaaGnor
namespace Go.Proofs.Ytcpkmhhlcmnfdaa
open Go.RowKit
set_option linter.unusedVariables false
set_option maxRecDepth 100000

/-- the state of the program's flash -/
structure Dl where
  b : List UInt8
  worn : List Int
  steps : Int
  off : Bool
  armed : Bool
  after : Int
  pick : List UInt8

structure DevFl (w : World) (g gB gW cB cW N : Nat) (d : Dl) : Prop where
  cells : ∃ AP cP, w.heap[g]? = some (.cells #[.slice (some ⟨gB, 0, none⟩) d.b.length cB, .slice (some ⟨gW, 0, none⟩) d.worn.length cW, .int .i64 d.steps, .bool d.off, .bool d.armed, .int .i64 d.after, .slice AP d.pick.length cP] 78 (0, 0)) ∧
    Bs w AP d.pick ∧ ∀ k, At AP k → k ≠ g ∧ k ≠ gB ∧ k ≠ gW ∧ N ≤ k
  bytes : Ob 5 w 0 (.slice (some ⟨gB, 0, none⟩) d.b.length cB) d.b
  counts : Wb w gW cW d.worn

theorem DevFl.ne {w : World} {g gB gW cB cW N : Nat} {d : Dl} (h : DevFl w g gB gW cB cW N d) : g ≠ gB ∧ g ≠ gW ∧ gB ≠ gW := by
  obtain ⟨AP, cP, hg, _⟩ := h.cells
  obtain ⟨_, h1⟩ := h.bytes.heap
  obtain ⟨_, h2⟩ := h.counts.heap
  exact ⟨types_ne hg h1 (by decide), types_ne hg h2 (by decide), types_ne h1 h2 (by decide)⟩
theorem DevFl.blk {w : World} {g gB gW cB cW N : Nat} {d : Dl} (h : DevFl w g gB gW cB cW N d) : g < w.heap.size ∧ gB < w.heap.size ∧ gW < w.heap.size := by
  obtain ⟨AP, cP, hg, _⟩ := h.cells
  obtain ⟨_, h1⟩ := h.bytes.heap
  obtain ⟨_, h2⟩ := h.counts.heap
  exact ⟨(Array.getElem?_eq_some_iff.1 hg).1, (Array.getElem?_eq_some_iff.1 h1).1, (Array.getElem?_eq_some_iff.1 h2).1⟩

/-- only the struct's own block has turned, and there only plain fields -/
theorem DevFl.upd {w w' : World} {g gB gW cB cW N0 N : Nat} {d : Dl} (h : DevFl w g gB gW cB cW N0 d) (ho : Only (fun k => k = g) w w') {AP : Option Addr} {cP : Nat} {p : List UInt8} {s f : Int} {o a : Bool} (hbp : Bs w' AP p) (hap : ∀ k, At AP k → k ≠ g ∧ k ≠ gB ∧ k ≠ gW ∧ N ≤ k)
    (hg : w'.heap[g]? = some (.cells #[.slice (some ⟨gB, 0, none⟩) d.b.length cB, .slice (some ⟨gW, 0, none⟩) d.worn.length cW, .int .i64 s, .bool o, .bool a, .int .i64 f, .slice AP p.length cP] 78 (0, 0))) :
    DevFl w' g gB gW cB cW N ⟨d.b, d.worn, s, o, a, f, p⟩ := by
  obtain ⟨n1, n2, n3⟩ := h.ne
  exact ⟨⟨AP, cP, hg, hbp, hap⟩, h.bytes.only ho (by rintro k ⟨a, e, rfl⟩; injection e with e; subst e; exact fun e => n1 e.symm), h.counts.only ho (fun e => n2 e.symm)⟩

/-- what a call on other blocks leaves -/
theorem DevFl.only {F : Nat → Prop} {w w' : World} {g gB gW cB cW N : Nat} {d : Dl} (h : DevFl w g gB gW cB cW N d) (ho : Only F w w') (h1 : ¬ F g) (h2 : ¬ F gB) (h3 : ¬ F gW) (hP : ∀ AP k, w.cell? ⟨g, 6, none⟩ = some AP → (∃ n c a, AP = .slice (some a) n c ∧ a.block = k) → ¬ F k) : DevFl w' g gB gW cB cW N d := by
  obtain ⟨AP, cP, hg, hbp, hap⟩ := h.cells
  have c4 : w.cell? ⟨g, 6, none⟩ = some (.slice AP d.pick.length cP) := by rw [cell_of_row _ _ _ _ _ _ hg]; rfl
  exact ⟨⟨AP, cP, by rw [ho.block g (Array.getElem?_eq_some_iff.1 hg).1 h1]; exact hg, hbp.only ho (by rintro k ⟨a, rfl, e⟩; exact hP _ k c4 ⟨_, _, a, rfl, e⟩), hap⟩,
    h.bytes.only ho (by rintro k ⟨a, e, rfl⟩; injection e with e; subst e; exact h2), h.counts.only ho h3⟩
theorem DevFl.below {w w' : World} {g gB gW cB cW N : Nat} {d : Dl} (h : DevFl w g gB gW cB cW N d) (hb : Below w.heap.size w w') : DevFl w' g gB gW cB cW N d :=
  h.only (F := fun _ => False) ⟨hb.os, hb.tape, hb.output, hb.size, fun k hk _ => hb.block k hk⟩ (fun h => h) (fun h => h) (fun h => h) (fun _ _ _ _ h => h)

/-- a step: by which pick was it broken, if so? -/
def dstepOf (d : Dl) : (Option (List UInt8)) × Dl :=
  if d.armed then
    if 0 < d.after then (none, ⟨d.b, d.worn, d.steps + 1, d.off, d.armed, d.after - 1, d.pick⟩)
    else (some d.pick, ⟨d.b, d.worn, d.steps + 1, true, false, 0, []⟩)
  else (none, ⟨d.b, d.worn, d.steps + 1, d.off, d.armed, d.after, d.pick⟩)

def DStepPost (w : World) (g gB gW cB cW N : Nat) (d : Dl) (e : Ending) (w' : World) : Prop :=
  (∃ A c, e = .returned (.tuple #[.slice A ((dstepOf d).1.getD []).length c, .bool (dstepOf d).1.isSome]) ∧ Bs w' A ((dstepOf d).1.getD []) ∧ ∀ k, At A k → k ≠ g ∧ k ≠ gB ∧ k ≠ gW ∧ N ≤ k) ∧ DevFl w' g gB gW cB cW N (dstepOf d).2 ∧ Only (fun k => k = g) w w'

/-- one more plain store into the struct's own block -/
theorem Only.own {g : Nat} {w w' : World} (h : Only (fun k => k = g) w w') (i : Nat) (v : Value) : Only (fun k => k = g) w (w'.setCell ⟨g, i, none⟩ v) := h.setCell (p := ⟨g, i, none⟩) (.inl rfl) v
theorem Bs.own {w w' : World} {g gB gW N : Nat} {A : Option Addr} {l : List UInt8} (h : Bs w A l) (hA : ∀ k, At A k → k ≠ g ∧ k ≠ gB ∧ k ≠ gW ∧ N ≤ k) (ho : Only (fun k => k = g) w w') : Bs w' A l := h.only ho fun k hk => (hA k hk).1

set_option maxHeartbeats 800000 in
theorem dstep_any {g gB gW cB cW N : Nat} {d : Dl} {w : World} (h : DevFl w g gB gW cB cW N d) (hs1 : 0 ≤ d.steps) (hs2 : d.steps ≤ 4611686018427387904) (ha1 : 0 ≤ d.after) (ha2 : d.after ≤ 9223372036854775807) :
    Calls Try.prog 77 #[.pointer (some ⟨g, 0, none⟩)] w (DStepPost w g gB gW cB cW N d) := by
  obtain ⟨AP, cP, hg, hbp, hap⟩ := h.cells
  have c2 : w.cell? ⟨g, 2, none⟩ = some (.int .i64 d.steps) := by rw [cell_of_row _ _ _ _ _ _ hg]; rfl
  have c3 : w.cell? ⟨g, 3, none⟩ = some (.bool d.off) := by rw [cell_of_row _ _ _ _ _ _ hg]; rfl
  have c4 : w.cell? ⟨g, 4, none⟩ = some (.bool d.armed) := by rw [cell_of_row _ _ _ _ _ _ hg]; rfl
  have c5 : w.cell? ⟨g, 5, none⟩ = some (.int .i64 d.after) := by rw [cell_of_row _ _ _ _ _ _ hg]; rfl
  have c6 : w.cell? ⟨g, 6, none⟩ = some (.slice AP d.pick.length cP) := by rw [cell_of_row _ _ _ _ _ _ hg]; rfl
  have f2 : w.frozen? ⟨g, 2, none⟩ = false := frozen_of_row w g 2 _ _ hg
  have f3 : w.frozen? ⟨g, 3, none⟩ = false := frozen_of_row w g 3 _ _ hg
  have f4 : w.frozen? ⟨g, 4, none⟩ = false := frozen_of_row w g 4 _ _ hg
  have f5 : w.frozen? ⟨g, 5, none⟩ = false := frozen_of_row w g 5 _ _ hg
  have f6 : w.frozen? ⟨g, 6, none⟩ = false := frozen_of_row w g 6 _ _ hg
  have o0 := Only.refl (fun k => k = g) w
  cases hd : d.armed with
  | false =>
    have HP : Hid (DStepPost w g gB gW cB cW N d (.returned (.tuple #[.slice none 0 0, .bool false])) (w.setCell ⟨g, 2, none⟩ (.int .i64 (d.steps + 1)))) := Lib.hid (by
      unfold DStepPost dstepOf
      simp only [hd, Bool.false_eq_true, if_false]
      exact ⟨⟨none, 0, rfl, Bs.nil_ _ _, by rintro k ⟨a, e, _⟩; cases e⟩, h.upd (o0.own _ _) (hbp.own hap (o0.own _ _)) hap (by rw [← hd]; exact heap_setCell_same _ _ _ _ _ _ hg), o0.own _ _⟩)
    rw [hd] at c4
    clear hd hg h hbp hap
    go_enter Try.func77, Try.ntmps77
    go_wp2
    go_ret2
    exact HP.out
  | true =>
    by_cases h0 : 0 < d.after
    · have HP : Hid (DStepPost w g gB gW cB cW N d (.returned (.tuple #[.slice none 0 0, .bool false])) ((w.setCell ⟨g, 2, none⟩ (.int .i64 (d.steps + 1))).setCell ⟨g, 5, none⟩ (.int .i64 (d.after - 1)))) := Lib.hid (by
        unfold DStepPost dstepOf
        simp only [hd, h0, if_true]
        exact ⟨⟨none, 0, rfl, Bs.nil_ _ _, by rintro k ⟨a, e, _⟩; cases e⟩, h.upd ((o0.own _ _).own _ _) (hbp.own hap ((o0.own _ _).own _ _)) hap (by rw [← hd]; exact heap_setCell_same _ _ _ _ _ _ (heap_setCell_same _ _ _ _ _ _ hg)), (o0.own _ _).own _ _⟩)
      rw [hd] at c4
      clear hd hg h hbp hap
      go_enter Try.func77, Try.ntmps77
      go_wp2
      go_ret2
      exact HP.out
    · have HP : Hid (DStepPost w g gB gW cB cW N d (.returned (.tuple #[.slice AP d.pick.length cP, .bool true])) (((((w.setCell ⟨g, 2, none⟩ (.int .i64 (d.steps + 1))).setCell ⟨g, 3, none⟩ (.bool true)).setCell ⟨g, 4, none⟩ (.bool false)).setCell ⟨g, 5, none⟩ (.int .i64 0)).setCell ⟨g, 6, none⟩ (.slice none 0 0))) := Lib.hid (by
        unfold DStepPost dstepOf
        simp only [hd, h0, if_true, if_false]
        have o5 := ((((o0.own 2 (.int .i64 (d.steps + 1))).own 3 (.bool true)).own 4 (.bool false)).own 5 (.int .i64 0)).own 6 (.slice none 0 0)
        exact ⟨⟨AP, cP, rfl, hbp.own hap o5, hap⟩, h.upd (AP := none) (cP := 0) (p := []) o5 (Bs.nil_ _ _) (by rintro k ⟨a, e, _⟩; cases e)
          (heap_setCell_same _ _ _ _ _ _ (heap_setCell_same _ _ _ _ _ _ (heap_setCell_same _ _ _ _ _ _ (heap_setCell_same _ _ _ _ _ _ (heap_setCell_same _ _ _ _ _ _ hg))))), o5⟩)
      rw [hd] at c4
      clear hd hg h hbp hap
      go_enter Try.func77, Try.ntmps77
      go_wp2
      go_ret2
      exact HP.out
end Go.Proofs.Ytcpkmhhlcmnfdaa

namespace Go.Proofs.Ytcpkmhhlcmnfdaa
open Go.RowKit
set_option linter.unusedVariables false
set_option maxRecDepth 100000

set_option maxHeartbeats 400000 in
theorem dpowered_any {g gB gW cB cW N : Nat} {d : Dl} {w : World} (h : DevFl w g gB gW cB cW N d) :
    Calls Try.prog 61 #[.pointer (some ⟨g, 0, none⟩)] w fun e w' => e = .returned (.bool (!d.off)) ∧ w = w' := by
  obtain ⟨AP, cP, hg, -, -⟩ := h.cells
  have c3 : w.cell? ⟨g, 3, none⟩ = some (.bool d.off) := by rw [cell_of_row _ _ _ _ _ _ hg]; rfl
  clear hg h
  go_enter Try.func61, Try.ntmps61
  go_wp2
  go_ret
  exact ⟨rfl, rfl⟩

set_option maxHeartbeats 400000 in
theorem doff_any {g gB gW cB cW N : Nat} {d : Dl} {w : World} (h : DevFl w g gB gW cB cW N d) :
    Calls Try.prog 60 #[.pointer (some ⟨g, 0, none⟩)] w fun e w' => e = .returned (.bool d.off) ∧ w = w' := by
  obtain ⟨AP, cP, hg, -, -⟩ := h.cells
  have c3 : w.cell? ⟨g, 3, none⟩ = some (.bool d.off) := by rw [cell_of_row _ _ _ _ _ _ hg]; rfl
  clear hg h
  go_enter Try.func60, Try.ntmps60
  go_wp2
  go_ret
  exact ⟨rfl, rfl⟩

set_option maxHeartbeats 400000 in
theorem dsteps_any {g gB gW cB cW N : Nat} {d : Dl} {w : World} (h : DevFl w g gB gW cB cW N d) :
    Calls Try.prog 29 #[.pointer (some ⟨g, 0, none⟩)] w fun e w' => e = .returned (.int .i64 d.steps) ∧ w = w' := by
  obtain ⟨AP, cP, hg, -, -⟩ := h.cells
  have c2 : w.cell? ⟨g, 2, none⟩ = some (.int .i64 d.steps) := by rw [cell_of_row _ _ _ _ _ _ hg]; rfl
  clear hg h
  go_enter Try.func29, Try.ntmps29
  go_wp2
  go_ret
  exact ⟨rfl, rfl⟩

set_option maxHeartbeats 400000 in
theorem dsize_any {g gB gW cB cW N : Nat} {d : Dl} {w : World} (h : DevFl w g gB gW cB cW N d) :
    Calls Try.prog 39 #[.pointer (some ⟨g, 0, none⟩)] w fun e w' => e = .returned (.int .i64 (d.b.length : Int)) ∧ w = w' := by
  obtain ⟨AP, cP, hg, -, -⟩ := h.cells
  have c0 : w.cell? ⟨g, 0, none⟩ = some (.slice (some ⟨gB, 0, none⟩) d.b.length cB) := by rw [cell_of_row _ _ _ _ _ _ hg]; rfl
  clear hg h
  go_enter Try.func39, Try.ntmps39
  go_wp2
  go_ret
  exact ⟨rfl, rfl⟩

set_option maxHeartbeats 800000 in
theorem dholds_any {g gB gW cB cW N : Nat} {d : Dl} {w : World} (h : DevFl w g gB gW cB cW N d) (a n : Int) (ha1 : -9223372036854775808 ≤ a) (ha2 : a ≤ 9223372036854775807) (hn1 : -9223372036854775808 ≤ n) (hn2 : n ≤ 9223372036854775807) (hlen : d.b.length ≤ 2147483648) :
    Calls Try.prog 37 #[.pointer (some ⟨g, 0, none⟩), .int .i64 a, .int .i64 n] w fun e w' => e = .returned (.bool (decide (0 ≤ a ∧ 0 ≤ n ∧ a + n ≤ d.b.length))) ∧ w = w' := by
  obtain ⟨AP, cP, hg, -, -⟩ := h.cells
  have c0 : w.cell? ⟨g, 0, none⟩ = some (.slice (some ⟨gB, 0, none⟩) d.b.length cB) := by rw [cell_of_row _ _ _ _ _ _ hg]; rfl
  clear hg h
  obtain ⟨L, HL⟩ : ∃ L : Nat, Hid (d.b.length = L) := ⟨_, rfl⟩
  rw [HL.out] at c0 hlen ⊢
  clear HL
  by_cases h1 : 0 ≤ a
  · by_cases h2 : 0 ≤ n
    · by_cases h4 : n ≤ (L : Int) - a
      · have e : decide (0 ≤ a ∧ 0 ≤ n ∧ a + n ≤ (L : Int)) = true := by simp; omega
        rw [e]
        clear e
        go_enter Try.func37, Try.ntmps37
        go_wp2
        go_ret
        exact ⟨rfl, rfl⟩
      · have e : decide (0 ≤ a ∧ 0 ≤ n ∧ a + n ≤ (L : Int)) = false := by simp; omega
        rw [e]
        clear e
        go_enter Try.func37, Try.ntmps37
        go_wp2
        go_ret
        exact ⟨rfl, rfl⟩
    · have e : decide (0 ≤ a ∧ 0 ≤ n ∧ a + n ≤ (L : Int)) = false := by simp; omega
      rw [e]
      clear e
      have h2' : decide (0 ≤ n) = false := decide_eq_false h2
      go_enter Try.func37, Try.ntmps37
      go_wp2
      go_ret
      exact ⟨rfl, rfl⟩
  · have e : decide (0 ≤ a ∧ 0 ≤ n ∧ a + n ≤ (L : Int)) = false := by simp; omega
    rw [e]
    clear e
    have h1' : decide (0 ≤ a) = false := decide_eq_false h1
    go_enter Try.func37, Try.ntmps37
    go_wp2
    go_ret
    exact ⟨rfl, rfl⟩
/-- told with the answer known -/
theorem dholds_is {g gB gW cB cW N : Nat} {d : Dl} {w : World} {a n : Int} {b : Bool} (h : DevFl w g gB gW cB cW N d) (H : Hid (decide (0 ≤ a ∧ 0 ≤ n ∧ a + n ≤ d.b.length) = b)) (ha1 : -9223372036854775808 ≤ a) (ha2 : a ≤ 9223372036854775807) (hn1 : -9223372036854775808 ≤ n) (hn2 : n ≤ 9223372036854775807) (hlen : d.b.length ≤ 2147483648) :
    Calls Try.prog 37 #[.pointer (some ⟨g, 0, none⟩), .int .i64 a, .int .i64 n] w fun e w' => e = .returned (.bool b) ∧ w = w' := by
  rw [← H.out]
  exact dholds_any h a n ha1 ha2 hn1 hn2 hlen

set_option maxHeartbeats 400000 in
theorem dhas_any {g gB gW cB cW N : Nat} {d : Dl} {w : World} (h : DevFl w g gB gW cB cW N d) (s : Int) :
    Calls Try.prog 50 #[.pointer (some ⟨g, 0, none⟩), .int .i64 s] w fun e w' => e = .returned (.bool (decide (0 ≤ s ∧ s < d.worn.length))) ∧ w = w' := by
  obtain ⟨AP, cP, hg, -, -⟩ := h.cells
  have c1 : w.cell? ⟨g, 1, none⟩ = some (.slice (some ⟨gW, 0, none⟩) d.worn.length cW) := by rw [cell_of_row _ _ _ _ _ _ hg]; rfl
  clear hg h
  obtain ⟨L, HL⟩ : ∃ L : Nat, Hid (d.worn.length = L) := ⟨_, rfl⟩
  rw [HL.out] at c1 ⊢
  clear HL
  by_cases h1 : 0 ≤ s
  · by_cases h2 : s < (L : Int)
    · have e : decide (0 ≤ s ∧ s < (L : Int)) = true := by simp; omega
      rw [e]
      clear e
      go_enter Try.func50, Try.ntmps50
      go_wp2
      go_ret
      exact ⟨rfl, rfl⟩
    · have e : decide (0 ≤ s ∧ s < (L : Int)) = false := by simp; omega
      rw [e]
      clear e
      go_enter Try.func50, Try.ntmps50
      go_wp2
      go_ret
      exact ⟨rfl, rfl⟩
  · have e : decide (0 ≤ s ∧ s < (L : Int)) = false := by simp; omega
    rw [e]
    clear e
    have h1' : decide (0 ≤ s) = false := decide_eq_false h1
    go_enter Try.func50, Try.ntmps50
    go_wp2
    go_ret
    exact ⟨rfl, rfl⟩
theorem dhas_is {g gB gW cB cW N : Nat} {d : Dl} {w : World} {s : Int} {b : Bool} (h : DevFl w g gB gW cB cW N d) (H : Hid (decide (0 ≤ s ∧ s < d.worn.length) = b)) :
    Calls Try.prog 50 #[.pointer (some ⟨g, 0, none⟩), .int .i64 s] w fun e w' => e = .returned (.bool b) ∧ w = w' := by
  rw [← H.out]
  exact dhas_any h s

set_option maxHeartbeats 400000 in
theorem derases_any {g gB gW cB cW N : Nat} {d : Dl} {w : World} (h : DevFl w g gB gW cB cW N d) (s : Int) :
    Calls Try.prog 32 #[.pointer (some ⟨g, 0, none⟩), .int .i64 s] w fun e w' => e = .returned (.int .i64 (wornAt d.worn s)) ∧ w = w' := by
  obtain ⟨AP, cP, hg, -, -⟩ := h.cells
  have c1 : w.cell? ⟨g, 1, none⟩ = some (.slice (some ⟨gW, 0, none⟩) d.worn.length cW) := by rw [cell_of_row _ _ _ _ _ _ hg]; rfl
  clear hg
  unfold wornAt
  by_cases hs : 0 ≤ s ∧ s < d.worn.length
  · have H : Hid (decide (0 ≤ s ∧ s < d.worn.length) = true) := Lib.hid (decide_eq_true hs)
    rw [if_pos hs]
    obtain ⟨x, rfl⟩ := Int.eq_ofNat_of_zero_le hs.1
    have hx : x < d.worn.length := by omega
    rw [Int.toNat_natCast]
    have hc := h.counts.at_ hx
    generalize d.worn.getD x 0 = y at *
    clear hs
    go_enter Try.func32, Try.ntmps32
    go_wp2_with (refine (dhas_is h H).mono ?_; rintro e w' ⟨rfl, rfl⟩)
    go_ret
    exact ⟨rfl, rfl⟩
  · have H : Hid (decide (0 ≤ s ∧ s < d.worn.length) = false) := Lib.hid (decide_eq_false hs)
    rw [if_neg hs]
    clear hs
    go_enter Try.func32, Try.ntmps32
    go_wp2_with (refine (dhas_is h H).mono ?_; rintro e w' ⟨rfl, rfl⟩)
    go_ret
    exact ⟨rfl, rfl⟩
end Go.Proofs.Ytcpkmhhlcmnfdaa

namespace Go.Proofs.Ytcpkmhhlcmnfdaa
open Go.RowKit
set_option linter.unusedVariables false
set_option maxRecDepth 100000

theorem laid_eq {l : List UInt8} {a : Nat} {s : List UInt8} (h : a + s.length ≤ l.length) : laid l a s = l.take a ++ (s ++ l.drop (a + s.length)) := by
  apply list_ext_getD (by rw [laid_len]; simp; omega)
  intro i hi
  rw [laid_len] at hi
  unfold laid
  rw [laidTo_get hi]
  simp only [List.getD, List.getElem?_append, List.getElem?_take, List.getElem?_drop, List.length_take]
  have e : min a l.length = a := by omega
  rw [e]
  grind
theorem laid_nil (l : List UInt8) (a : Nat) : laid l a [] = l := laidTo_zero _ _ _

theorem take_splice {X cs : List Value} {n a : Nat} (h : a + cs.length ≤ n) : (X.take a ++ cs ++ X.drop (a + cs.length)).take n = (X.take n).take a ++ (cs ++ (X.take n).drop (a + cs.length)) := by
  apply List.ext_getElem?
  intro i
  simp only [List.getElem?_append, List.getElem?_take, List.getElem?_drop, List.length_take, List.length_append]
  grind

section
variable {P : Program}
theorem run_copy_bs (w : World) (base : Nat) (dT sT ty E : TypeId) (hu : P.underlying dT = some (.slice E)) (hs : (P.info? E).map (·.size) = some 1)
    (g n c : Nat) (l : List UInt8) (hown : Ob E w base (.slice (some ⟨g, 0, none⟩) n c) l) (dp : Option Addr) (off dLen dCap : Nat) (A : Option Addr) (m : List UInt8) (sLen sCap k : Nat) (hm : Bs w A m) (hsl : sLen = m.length)
    (hk : k = Nat.min sLen dLen) (hdp : 0 < k → dp = some ⟨g, off, none⟩) (hfit : off + k ≤ l.length) :
    ∃ w', (Builtin.copy_ #[dT, sT] ty #[.slice dp dLen dCap, .slice A sLen sCap]).run P w = .ok (goInt k) w' ∧ Ob E w' base (.slice (some ⟨g, 0, none⟩) n c) (laid l off (m.take k)) ∧ Only (fun j => j = g) w w' := by
  subst hsl
  have hkm : k ≤ m.length := by rw [hk]; exact Nat.min_le_left _ _
  by_cases h0 : k = 0
  · subst h0
    refine ⟨w, run_copy_none (P := P) w dT sT ty E dp A dLen dCap m.length sCap hu hs hk.symm, ?_, Only.refl _ _⟩
    rw [List.take_zero, laid_nil]
    exact hown
  · obtain rfl := hdp (by omega)
    obtain ⟨b, o, rfl, hc⟩ := hm (by omega)
    have hlen := hown.len
    subst hlen
    rcases hown.2 with ⟨h', _⟩ | ⟨g', cap, cur, e, hb', hg, hnc, hcm, hsz, htk⟩
    · simp at h'
    · injection e with e1 e2 e3
      injection e1 with e1
      injection e1 with e1
      subst e1
      subst e3
      rw [Nat.mul_one] at hsz htk
      have hcs : ((m.take k).map bval).length = k := by simp; omega
      have hrun := run_copy_row (P := P) w dT sT ty E g off dLen dCap ⟨b, o, none⟩ m.length sCap cur E ((m.take k).map bval) hu hs hg (by rw [hcs]; exact hk)
        (fun j v hj => (Bs.news (w := w) (a := ⟨b, o, none⟩) (l := m) hm) j v (by
          have : j < k := by
            rcases Nat.lt_or_ge j k with h | h
            · exact h
            · rw [List.getElem?_eq_none (by rw [hcs]; exact h)] at hj; cases hj
          simpa [List.getElem?_take, this] using hj)) (by rw [hcs]; omega) (fun v hv => by obtain ⟨x, _, rfl⟩ := List.mem_map.1 hv; rfl)
      rw [hcs] at hrun
      refine ⟨_, hrun, ⟨?_, .inr ⟨g, c, _, ?_, hb', setRow_heap w g _ _ E _ hg, ?_, hcm, ?_, ?_⟩⟩, ⟨rfl, rfl, rfl, by simp [World.setRow], fun j hj hn => setRow_other w g j _ hn⟩⟩
      · simp
      · rw [laid_len]
      · rw [laid_len]; exact hnc
      · simp; omega
      · rw [laid_len, Nat.mul_one]
        have := take_splice (X := cur.toList) (cs := (m.take k).map bval) (n := l.length) (a := off) (by rw [hcs]; exact hfit)
        rw [hcs] at this
        simp only at this ⊢
        rw [this, htk, laid_eq (by simp; omega)]
        simp only [List.map_append, List.map_take, List.map_drop, List.length_take, Nat.min_eq_left hkm]

theorem wpList_copy_bs {w : World} {ops : Array Oper} {rest : List Oper} {o : Oper} {a : Act} {Q : Exit → Act → World → Prop} (hgd : o.guard = none) (d s : Operand) (dT sT : TypeId)
    (ho : o.op = .call { callee := .builtin .copy, args := #[d, s], argTypes := #[dT, sT] }) (base : Nat) (E : TypeId) (hu : P.underlying dT = some (.slice E)) (hs : (P.info? E).map (·.size) = some 1)
    (g n c : Nat) (l : List UInt8) (hown : Ob E w base (.slice (some ⟨g, 0, none⟩) n c) l) (dp : Option Addr) (off dLen dCap : Nat) (hd : a.eval d = .slice dp dLen dCap) (A : Option Addr) (m : List UInt8) (sLen sCap k : Nat) (hx : a.eval s = .slice A sLen sCap) (hm : Bs w A m) (hsl : sLen = m.length)
    (hk : k = Nat.min sLen dLen) (hdp : 0 < k → dp = some ⟨g, off, none⟩) (hfit : off + k ≤ l.length)
    (h : ∀ w', Ob E w' base (.slice (some ⟨g, 0, none⟩) n c) (laid l off (m.take k)) → Only (fun j => j = g) w w' → wpList P ops Q rest (a.put o.dst (goInt k)) w') : wpList P ops Q (o :: rest) a w := by
  refine wpList_plain hgd fun K hK => ?_
  obtain ⟨w', hrun, h2, h3⟩ := run_copy_bs (P := P) w base dT sT o.type E hu hs g n c l hown dp off dLen dCap A m sLen sCap k hm hsl hk hdp hfit
  unfold Oper.wp execOp
  simp only [ho, resolve, invoke, builtin, Sem.run_bind, Sem.run_pure, Result.andThen_ok, List.map_toArray, List.map_cons, List.map_nil, hd, hx, hrun]
  exact hK _ _ (h w' h2 h3)

/-- as one step of a region that draws -/
theorem step_copy_bs {w : World} {ops : Array Oper} {o : Oper} {a : Act} {K : Act → World → Prop} {Q : Exit → Act → World → Prop} {F : Prop} (hgd : o.guard = none) (d s : Operand) (dT sT : TypeId)
    (ho : o.op = .call { callee := .builtin .copy, args := #[d, s], argTypes := #[dT, sT] }) (base : Nat) (E : TypeId) (hu : P.underlying dT = some (.slice E)) (hs : (P.info? E).map (·.size) = some 1)
    (g n c : Nat) (l : List UInt8) (hown : Ob E w base (.slice (some ⟨g, 0, none⟩) n c) l) (dp : Option Addr) (off dLen dCap : Nat) (hd : a.eval d = .slice dp dLen dCap) (A : Option Addr) (m : List UInt8) (sLen sCap k : Nat) (hx : a.eval s = .slice A sLen sCap) (hm : Bs w A m) (hsl : sLen = m.length)
    (hk : k = Nat.min sLen dLen) (hdp : 0 < k → dp = some ⟨g, off, none⟩) (hfit : off + k ≤ l.length)
    (h : ∀ w', Ob E w' base (.slice (some ⟨g, 0, none⟩) n c) (laid l off (m.take k)) → Only (fun j => j = g) w w' → K (a.put o.dst (goInt k)) w') : if Region.wanted o (yielded ops a.tmps) = true then Oper.wp P o a w K Q else F := by
  have hw : Region.wanted o (yielded ops a.tmps) = true := by simp [Region.wanted, hgd]
  rw [if_pos hw]
  obtain ⟨w', hrun, h2, h3⟩ := run_copy_bs (P := P) w base dT sT o.type E hu hs g n c l hown dp off dLen dCap A m sLen sCap k hm hsl hk hdp hfit
  unfold Oper.wp execOp
  simp only [ho, resolve, invoke, builtin, Sem.run_bind, Sem.run_pure, Result.andThen_ok, List.map_toArray, List.map_cons, List.map_nil, hd, hx, hrun]
  exact h w' h2 h3
end

theorem info5s : (Try.prog.info? 5).map (·.size) = some 1 := by kernel_rfl
end Go.Proofs.Ytcpkmhhlcmnfdaa

namespace Go.Proofs.Ytcpkmhhlcmnfdaa
open Go.RowKit
set_option linter.unusedVariables false
set_option maxRecDepth 100000

theorem sizeOf_u8 (W : World) : (sizeOf (Try.prog.elem 22)).run Try.prog W = .ok 1 W := by kernel_rfl
theorem under_bs : Try.prog.underlying 22 = some (.slice (Try.prog.elem 22)) := by kernel_rfl

/-- a part of a row of bytes: where it is empty its address may be another -/
theorem slice_in (g y n c : Nat) (h : y + n ≤ c) : ∃ o, (o = y ∨ n = 0) ∧ ∀ (L : Nat) (u : World),
    (Instr.slice 22 (.slice (some ⟨g, 0, none⟩) L c) (some (.int .i64 (y : Int))) (some (.int .i64 ((y : Int) + (n : Int)))) none).run Try.prog u = .ok (.slice (some ⟨g, o, none⟩) n (c - y)) u := by
  by_cases hc : c = y
  · refine ⟨0, .inr (by omega), fun L u => ?_⟩
    rw [run_slice_lh u _ _ _ _ under_bs _ _ _ _ (by omega) (by omega) (by omega), sizeOf_u8]
    simp only [Result.andThen, sliced, Int.toNat_natCast, if_pos hc]
    have e : ((y : Int) + (n : Int)).toNat - y = n := by omega
    rw [e]
  · refine ⟨y, .inl rfl, fun L u => ?_⟩
    rw [run_slice_lh u _ _ _ _ under_bs _ _ _ _ (by omega) (by omega) (by omega), sizeOf_u8]
    simp only [Result.andThen, sliced, Int.toNat_natCast, if_neg hc, Option.map_some, Nat.mul_one]
    have e : ((y : Int) + (n : Int)).toNat - y = n := by omega
    rw [e]
    rw [addr_add, Nat.zero_add]
/-- .. to the end -/
theorem slice_to_end (g y L c : Nat) (h : y ≤ L) (hc' : L ≤ c) : ∃ o, (o = y ∨ L - y = 0) ∧ ∀ (u : World),
    (Instr.slice 22 (.slice (some ⟨g, 0, none⟩) L c) (some (.int .i64 (y : Int))) none none).run Try.prog u = .ok (.slice (some ⟨g, o, none⟩) (L - y) (c - y)) u := by
  by_cases hc : c = y
  · refine ⟨0, .inr (by omega), fun u => ?_⟩
    rw [run_slice_l u _ _ _ _ under_bs _ _ (by omega) (by omega), sizeOf_u8]
    simp only [Result.andThen, sliced, Int.toNat_natCast, if_pos hc]
  · refine ⟨y, .inl rfl, fun u => ?_⟩
    rw [run_slice_l u _ _ _ _ under_bs _ _ (by omega) (by omega), sizeOf_u8]
    simp only [Result.andThen, sliced, Int.toNat_natCast, if_neg hc, Option.map_some, Nat.mul_one]
    rw [addr_add, Nat.zero_add]

theorem Ob.cap {E : TypeId} {w : World} {base g n c : Nat} {l : List UInt8} (h : Ob E w base (.slice (some ⟨g, 0, none⟩) n c) l) : n ≤ c := by
  rcases h.2 with ⟨h', _⟩ | ⟨g', cap, cur, e, _, _, hnc, _⟩
  · simp at h'
  · injection e with e1 e2 e3; subst e3
    have := h.len
    omega
theorem Ob.formN {E : TypeId} {w : World} {base n : Nat} {v : Value} {l : List UInt8} (h : Ob E w base v l) (hn : l.length = n) (hpos : 0 < n) :
    ∃ g c, v = .slice (some ⟨g, 0, none⟩) n c ∧ Bs w (some ⟨g, 0, none⟩) l ∧ n ≤ c ∧ base ≤ g := by
  subst hn
  obtain ⟨A, c, rfl, hb, hf⟩ := h.form
  rcases hf with rfl | ⟨g, rfl, hle, -⟩
  · obtain ⟨b, o, e, -⟩ := hb hpos
    cases e
  · exact ⟨g, c, rfl, hb, h.cap, hle⟩
theorem below_on {w W W' : World} (hb : Below w.heap.size w W) (h : Below W.heap.size W W') : Below w.heap.size w W' := hb.trans (h.mono hb.size)
theorem Bs.cutAt {w : World} {g : Nat} {l : List UInt8} (h : Bs w (some ⟨g, 0, none⟩) l) {a n o : Nat} (hf : a + n ≤ l.length) (ho : o = a ∨ n = 0) : Bs w (some ⟨g, o, none⟩) (Ytcpkmhhlcmnfdaa.cut l a n) := by
  rcases ho with rfl | rfl
  · exact h.cut hf
  · intro hl; rw [cut_len hf] at hl; omega

/-- .. the contract of Clone, told of a list by another name -/
theorem clone_is {A : Option Addr} {l : List UInt8} {n c : Nat} {w : World} (h : Bs w A l) (hn : Hid (n = l.length)) (hl : n ≤ 2147483648) :
    Calls Try.prog 38 #[.slice A n c] w fun e w' => ∃ v, e = .returned v ∧ Ob 5 w' w.heap.size v l ∧ Below w.heap.size w w' := by
  have := hn.out
  subst this
  exact clone_any A l c w h hl

def dreadOf (d : Dl) (a n : Int) : List UInt8 × Int :=
  if d.off then ([], 5) else if 0 ≤ a ∧ 0 ≤ n ∧ a + n ≤ d.b.length then (cut d.b a.toNat n.toNat, 0) else ([], 2)

set_option maxHeartbeats 800000 in
theorem dread_any {g gB gW cB cW N : Nat} {d : Dl} {w : World} (h : DevFl w g gB gW cB cW N d) (a n : Int) (ha1 : -9223372036854775808 ≤ a) (ha2 : a ≤ 9223372036854775807) (hn1 : -9223372036854775808 ≤ n) (hn2 : n ≤ 9223372036854775807) (hlen : d.b.length ≤ 2147483648) :
    Calls Try.prog 53 #[.pointer (some ⟨g, 0, none⟩), .int .i64 a, .int .i64 n] w (ReadPost w (dreadOf d a n)) := by
  obtain ⟨AP, cP, hg, -, -⟩ := h.cells
  have c0 : w.cell? ⟨g, 0, none⟩ = some (.slice (some ⟨gB, 0, none⟩) d.b.length cB) := by rw [cell_of_row _ _ _ _ _ _ hg]; rfl
  have HG := Lib.hid hg
  clear hg
  have hbs := h.bytes.bs
  have hcap : d.b.length ≤ cB := h.bytes.cap
  obtain ⟨o, Ho⟩ : ∃ o, Hid (o = d.off) := ⟨_, rfl⟩
  have hpw : Calls Try.prog 61 #[.pointer (some ⟨g, 0, none⟩)] w fun e w' => e = .returned (.bool (!o)) ∧ w = w' := by rw [Ho.out]; exact dpowered_any h
  cases o with
  | true =>
    have e : dreadOf d a n = ([], 5) := by simp only [dreadOf, ← Ho.out]; rfl
    rw [e]
    clear e
    go_enter Try.func53, Try.ntmps53
    go_wp2_with (go_at_call 61; refine hpw.mono ?_; rintro e w' ⟨rfl, rfl⟩)
    go_ret2
    exact ⟨_, rfl, Ob.nil_ _ _ _, Below.refl _ _⟩
  | false =>
    by_cases hin : 0 ≤ a ∧ 0 ≤ n ∧ a + n ≤ d.b.length
    · have e : dreadOf d a n = (cut d.b a.toNat n.toNat, 0) := by simp only [dreadOf, ← Ho.out]; rw [if_neg (by simp), if_pos hin]
      rw [e]
      clear e
      have H : Hid (decide (0 ≤ a ∧ 0 ≤ n ∧ a + n ≤ (d.b.length : Int)) = true) := Lib.hid (decide_eq_true hin)
      obtain ⟨i1, i2, i3⟩ := hin
      obtain ⟨x, rfl⟩ := Int.eq_ofNat_of_zero_le i1
      obtain ⟨y, rfl⟩ := Int.eq_ofNat_of_zero_le i2
      rw [Int.toNat_natCast, Int.toNat_natCast]
      have hxy : x + y ≤ d.b.length := by omega
      obtain ⟨o, ho, zs⟩ := slice_in gB x y cB (by omega)
      have hbc := hbs.cutAt hxy ho
      have hcl : Hid (y = (cut d.b x y).length) := Lib.hid (cut_len hxy).symm
      have HC : Hid (∀ c, Calls Try.prog 38 #[.slice (some ⟨gB, o, none⟩) y c] w fun e w' => ∃ v, e = .returned v ∧ Ob 5 w' w.heap.size v (cut d.b x y) ∧ Below w.heap.size w w') := Lib.hid fun c => clone_is hbc hcl (by omega)
      have Hho := Lib.hid ho
      clear ho hbc
      go_enter Try.func53, Try.ntmps53
      go_wp2_with (first
        | (go_at_call 61; refine hpw.mono ?_; rintro e w' ⟨rfl, rfl⟩)
        | (go_at_call 37; refine (dholds_is h H (by omega) (by omega) (by omega) (by omega) hlen).mono ?_; rintro e w' ⟨rfl, rfl⟩)
        | (go_at_call 38; refine (HC.out _).mono ?_; rintro e w2 ⟨v, rfl, ho, hb⟩))
      go_ret2
      exact ⟨_, rfl, ho, hb⟩
    · have e : dreadOf d a n = ([], 2) := by simp only [dreadOf, ← Ho.out]; rw [if_neg (by simp), if_neg hin]
      rw [e]
      clear e
      have H : Hid (decide (0 ≤ a ∧ 0 ≤ n ∧ a + n ≤ (d.b.length : Int)) = false) := Lib.hid (decide_eq_false hin)
      clear hin
      go_enter Try.func53, Try.ntmps53
      go_wp2_with (first
        | (go_at_call 61; refine hpw.mono ?_; rintro e w' ⟨rfl, rfl⟩)
        | (go_at_call 37; refine (dholds_is h H (by omega) (by omega) (by omega) (by omega) hlen).mono ?_; rintro e w' ⟨rfl, rfl⟩))
      go_ret2
      exact ⟨_, rfl, Ob.nil_ _ _ _, Below.refl _ _⟩

def peekOf (d : Dl) (a n : Int) : List UInt8 := if 0 ≤ a ∧ 0 ≤ n ∧ a + n ≤ d.b.length then cut d.b a.toNat n.toNat else []

set_option maxHeartbeats 800000 in
theorem dpeek_any {g gB gW cB cW N : Nat} {d : Dl} {w : World} (h : DevFl w g gB gW cB cW N d) (a n : Int) (ha1 : -9223372036854775808 ≤ a) (ha2 : a ≤ 9223372036854775807) (hn1 : -9223372036854775808 ≤ n) (hn2 : n ≤ 9223372036854775807) (hlen : d.b.length ≤ 2147483648) :
    Calls Try.prog 13 #[.pointer (some ⟨g, 0, none⟩), .int .i64 a, .int .i64 n] w (RetOb 5 w (peekOf d a n)) := by
  obtain ⟨AP, cP, hg, -, -⟩ := h.cells
  have c0 : w.cell? ⟨g, 0, none⟩ = some (.slice (some ⟨gB, 0, none⟩) d.b.length cB) := by rw [cell_of_row _ _ _ _ _ _ hg]; rfl
  have HG := Lib.hid hg
  clear hg
  have hbs := h.bytes.bs
  have hcap : d.b.length ≤ cB := h.bytes.cap
  unfold peekOf
  by_cases hin : 0 ≤ a ∧ 0 ≤ n ∧ a + n ≤ d.b.length
  · rw [if_pos hin]
    have H : Hid (decide (0 ≤ a ∧ 0 ≤ n ∧ a + n ≤ (d.b.length : Int)) = true) := Lib.hid (decide_eq_true hin)
    obtain ⟨i1, i2, i3⟩ := hin
    obtain ⟨x, rfl⟩ := Int.eq_ofNat_of_zero_le i1
    obtain ⟨y, rfl⟩ := Int.eq_ofNat_of_zero_le i2
    rw [Int.toNat_natCast, Int.toNat_natCast]
    have hxy : x + y ≤ d.b.length := by omega
    obtain ⟨o, ho, zs⟩ := slice_in gB x y cB (by omega)
    have hbc := hbs.cutAt hxy ho
    have hcl : Hid (y = (cut d.b x y).length) := Lib.hid (cut_len hxy).symm
    have HC : Hid (∀ c, Calls Try.prog 38 #[.slice (some ⟨gB, o, none⟩) y c] w fun e w' => ∃ v, e = .returned v ∧ Ob 5 w' w.heap.size v (cut d.b x y) ∧ Below w.heap.size w w') := Lib.hid fun c => clone_is hbc hcl (by omega)
    have Hho := Lib.hid ho
    clear ho hbc
    go_enter Try.func13, Try.ntmps13
    go_wp2_with (first
      | (go_at_call 37; refine (dholds_is h H (by omega) (by omega) (by omega) (by omega) hlen).mono ?_; rintro e w' ⟨rfl, rfl⟩)
      | (go_at_call 38; refine (HC.out _).mono ?_; rintro e w2 ⟨v, rfl, ho, hb⟩))
    go_ret
    exact ⟨_, rfl, ho, hb⟩
  · rw [if_neg hin]
    have H : Hid (decide (0 ≤ a ∧ 0 ≤ n ∧ a + n ≤ (d.b.length : Int)) = false) := Lib.hid (decide_eq_false hin)
    clear hin
    go_enter Try.func13, Try.ntmps13
    go_wp2_with (go_at_call 37; refine (dholds_is h H (by omega) (by omega) (by omega) (by omega) hlen).mono ?_; rintro e w' ⟨rfl, rfl⟩)
    go_ret
    exact ⟨_, rfl, Ob.nil_ _ _ _, Below.refl _ _⟩

def DStatePost (w : World) (g gB gW cB cW N : Nat) (F : Nat → Prop) (v : Value) (d : Dl) (e : Ending) (w' : World) : Prop :=
  e = .returned v ∧ DevFl w' g gB gW cB cW N d ∧ Only F w w'

set_option maxHeartbeats 800000 in
theorem dboot_any {g gB gW cB cW N : Nat} {d : Dl} {w : World} (h : DevFl w g gB gW cB cW N d) :
    Calls Try.prog 25 #[.pointer (some ⟨g, 0, none⟩)] w (DStatePost w g gB gW cB cW N (fun k => k = g) (.tuple #[]) ⟨d.b, d.worn, d.steps, false, false, 0, []⟩) := by
  obtain ⟨AP, cP, hg, hbp, hap⟩ := h.cells
  have f3 : w.frozen? ⟨g, 3, none⟩ = false := frozen_of_row w g 3 _ _ hg
  have f4 : w.frozen? ⟨g, 4, none⟩ = false := frozen_of_row w g 4 _ _ hg
  have f5 : w.frozen? ⟨g, 5, none⟩ = false := frozen_of_row w g 5 _ _ hg
  have f6 : w.frozen? ⟨g, 6, none⟩ = false := frozen_of_row w g 6 _ _ hg
  have c3 : w.cell? ⟨g, 3, none⟩ = some (.bool d.off) := by rw [cell_of_row _ _ _ _ _ _ hg]; rfl
  have c4 : w.cell? ⟨g, 4, none⟩ = some (.bool d.armed) := by rw [cell_of_row _ _ _ _ _ _ hg]; rfl
  have c5 : w.cell? ⟨g, 5, none⟩ = some (.int .i64 d.after) := by rw [cell_of_row _ _ _ _ _ _ hg]; rfl
  have c6 : w.cell? ⟨g, 6, none⟩ = some (.slice AP d.pick.length cP) := by rw [cell_of_row _ _ _ _ _ _ hg]; rfl
  have o0 := Only.refl (fun k => k = g) w
  have HP : Hid (DStatePost w g gB gW cB cW N (fun k => k = g) (.tuple #[]) ⟨d.b, d.worn, d.steps, false, false, 0, []⟩ (.returned (.tuple #[])) ((((w.setCell ⟨g, 3, none⟩ (.bool false)).setCell ⟨g, 4, none⟩ (.bool false)).setCell ⟨g, 5, none⟩ (.int .i64 0)).setCell ⟨g, 6, none⟩ (.slice none 0 0))) := Lib.hid (by
    have o4 := (((o0.own 3 (.bool false)).own 4 (.bool false)).own 5 (.int .i64 0)).own 6 (.slice none 0 0)
    exact ⟨rfl, h.upd (AP := none) (cP := 0) (p := []) o4 (Bs.nil_ _ _) (by rintro k ⟨a, e, _⟩; cases e)
      (heap_setCell_same _ _ _ _ _ _ (heap_setCell_same _ _ _ _ _ _ (heap_setCell_same _ _ _ _ _ _ (heap_setCell_same _ _ _ _ _ _ hg)))), o4⟩)
  clear hg h hbp hap o0
  go_enter Try.func25, Try.ntmps25
  go_wp2
  go_end0
  exact HP.out

def dwithB (d : Dl) (b : List UInt8) : Dl := ⟨b, d.worn, d.steps, d.off, d.armed, d.after, d.pick⟩
/-- only the row of bytes has turned -/
theorem DevFl.withB {w w' : World} {g gB gW cB cW N : Nat} {d : Dl} (h : DevFl w g gB gW cB cW N d) (ho : Only (fun k => k = gB) w w') {b : List UInt8} (hlen : b.length = d.b.length) (hb : Ob 5 w' 0 (.slice (some ⟨gB, 0, none⟩) d.b.length cB) b) :
    DevFl w' g gB gW cB cW N (dwithB d b) := by
  obtain ⟨n1, n2, n3⟩ := h.ne
  obtain ⟨AP, cP, hg, hbp, hap⟩ := h.cells
  refine ⟨⟨AP, cP, ?_, hbp.only ho (fun k hk => (hap k hk).2.1), hap⟩, ?_, h.counts.only ho (fun e => n3 e.symm)⟩
  · rw [ho.block g (Array.getElem?_eq_some_iff.1 hg).1 n1]
    have e : (dwithB d b).b.length = d.b.length := hlen
    rw [e]
    exact hg
  · show Ob _ _ _ (.slice _ b.length cB) b
    rw [hlen]
    exact hb

set_option maxHeartbeats 800000 in
theorem dspoil_any {g gB gW cB cW N : Nat} {d : Dl} {w : World} (h : DevFl w g gB gW cB cW N d) (a : Int) (A : Option Addr) (s : List UInt8) (c : Nat) (hs : Bs w A s) (ha1 : -9223372036854775808 ≤ a) (ha2 : a ≤ 9223372036854775807) (hlen : d.b.length ≤ 2147483648) (hsl : s.length ≤ 2147483648) :
    Calls Try.prog 34 #[.pointer (some ⟨g, 0, none⟩), .int .i64 a, .slice A s.length c] w
      (DStatePost w g gB gW cB cW N (fun k => k = gB) (.int .i64 (if 0 ≤ a ∧ a + s.length ≤ d.b.length then 0 else 2)) (if 0 ≤ a ∧ a + s.length ≤ d.b.length then dwithB d (laid d.b a.toNat s) else d)) := by
  obtain ⟨AP, cP, hg, -, -⟩ := h.cells
  have c0 : w.cell? ⟨g, 0, none⟩ = some (.slice (some ⟨gB, 0, none⟩) d.b.length cB) := by rw [cell_of_row _ _ _ _ _ _ hg]; rfl
  have HG := Lib.hid hg
  clear hg
  have hcap : d.b.length ≤ cB := h.bytes.cap
  by_cases hin : 0 ≤ a ∧ a + s.length ≤ d.b.length
  · rw [if_pos hin, if_pos hin]
    have H : Hid (decide (0 ≤ a ∧ 0 ≤ (s.length : Int) ∧ a + (s.length : Int) ≤ (d.b.length : Int)) = true) := Lib.hid (decide_eq_true ⟨hin.1, by omega, hin.2⟩)
    obtain ⟨i1, i2⟩ := hin
    obtain ⟨x, rfl⟩ := Int.eq_ofNat_of_zero_le i1
    rw [Int.toNat_natCast]
    obtain ⟨o, ho, zs⟩ := slice_to_end gB x d.b.length cB (by omega) hcap
    have Hho := Lib.hid ho
    have HH := Lib.hid h
    have Hob := Lib.hid h.bytes
    have HS := Lib.hid hs
    clear ho hs
    go_enter Try.func34, Try.ntmps34
    go_wp2_with (first
      | (go_at_call 37; refine (dholds_is HH.out H (by omega) (by omega) (by omega) (by omega) hlen).mono ?_; rintro e w' ⟨rfl, rfl⟩)
      | (with_reducible refine wpList_copy_bs rfl (.tmp 20) (.tmp 21) 22 22 rfl 0 5 Try.underlying22 info5s gB d.b.length cB d.b Hob.out (some ⟨gB, o, none⟩) x (d.b.length - x) (cB - x) rfl A s s.length c s.length rfl HS.out rfl (Nat.min_eq_left (by omega)).symm (fun hk => by rcases Hho.out with rfl | h0 <;> first | rfl | omega) (by omega) ?_))
    intro w2 ho2 hon
    have HP : Hid (DStatePost w g gB gW cB cW N (fun k => k = gB) (.int .i64 0) (dwithB d (laid d.b x s)) (.returned (.int .i64 0)) w2) := Lib.hid ⟨rfl, HH.out.withB hon (laid_len _ _ _) ho2, hon⟩
    clear ho2 hon
    go_wp2
    go_ret
    exact HP.out
  · rw [if_neg hin, if_neg hin]
    have H : Hid (decide (0 ≤ a ∧ 0 ≤ (s.length : Int) ∧ a + (s.length : Int) ≤ (d.b.length : Int)) = false) := Lib.hid (decide_eq_false (by rintro ⟨q1, -, q3⟩; exact hin ⟨q1, q3⟩))
    clear hin
    go_enter Try.func34, Try.ntmps34
    go_wp2_with (go_at_call 37; refine (dholds_is h H (by omega) (by omega) (by omega) (by omega) hlen).mono ?_; rintro e w' ⟨rfl, rfl⟩)
    go_ret
    exact ⟨rfl, h, Only.refl _ _⟩
end Go.Proofs.Ytcpkmhhlcmnfdaa

namespace Go.Proofs.Ytcpkmhhlcmnfdaa
open Go.RowKit
set_option linter.unusedVariables false
set_option maxRecDepth 100000

/-- a row of bytes does not lie in the struct's own block -/
theorem bs_off_struct {w w' : World} {g gB gW cB cW N : Nat} {d : Dl} (h : DevFl w g gB gW cB cW N d) {A : Option Addr} {p : List UInt8} (hp : Bs w A p) (ho : Only (fun k => k = g) w w') : Bs w' A p := fun hl => by
  obtain ⟨AP, cP, hg, -, -⟩ := h.cells
  obtain ⟨b, o, e, hc⟩ := hp hl
  refine ⟨b, o, e, fun j hj => ?_⟩
  have hcj := hc j hj
  by_cases hb : b = g
  · subst hb
    rw [cell_of_row _ _ _ _ _ _ hg] at hcj
    exact absurd hcj (by rcases o + j with _ | _ | _ | _ | _ | _ | _ | x <;> simp)
  · rw [World.cell?_of_block (ho.block b (World.block_lt_of_cell? w _ hcj) hb)]
    exact hcj

def darmOf (d : Dl) (n : Int) (p : List UInt8) : Dl :=
  if n < 0 then ⟨d.b, d.worn, d.steps, d.off, false, 0, []⟩ else ⟨d.b, d.worn, d.steps, d.off, true, n, p.take 1024⟩

theorem Bs.take {w : World} {A : Option Addr} {l : List UInt8} (h : Bs w A l) (k : Nat) : Bs w A (l.take k) := fun hl => by
  rw [List.length_take] at hl
  obtain ⟨b, o, e, hc⟩ := h (by omega)
  refine ⟨b, o, e, fun j hj => ?_⟩
  rw [List.length_take] at hj
  rw [hc j (by omega)]
  simp only [List.getD, List.getElem?_take]
  rw [if_pos (by omega)]

/-- the head of a row -/
theorem slice_head (A : Option Addr) (L c k : Nat) (h : k ≤ c) (u : World) : (Instr.slice 22 (.slice A L c) none (some (.int .i64 (k : Int))) none).run Try.prog u = .ok (.slice A k c) u := by
  rw [run_slice_h u _ _ _ _ under_bs _ _ (by omega) (by omega), sizeOf_u8]
  simp only [Result.andThen, sliced, Int.toNat_natCast]
  by_cases hc : c = 0
  · subst hc; simp
  · rw [if_neg (by omega)]
    cases A with
    | none => simp
    | some a => simp [Addr.add]

set_option maxHeartbeats 800000 in
theorem darm_any {g gB gW cB cW N0 N : Nat} {d : Dl} {w : World} (h : DevFl w g gB gW cB cW N0 d) (n : Int) (A : Option Addr) (p : List UInt8) (c : Nat) (hp : Bs w A p) (hpc : p.length ≤ c) (hlen : p.length ≤ 2147483648) (hN : N ≤ w.heap.size) :
    Calls Try.prog 23 #[.pointer (some ⟨g, 0, none⟩), .int .i64 n, .slice A p.length c] w (DStatePost w g gB gW cB cW N (fun k => k = g) (.tuple #[]) (darmOf d n p)) := by
  obtain ⟨AP, cP, hg, hbp, hap⟩ := h.cells
  obtain ⟨z1, z2, z3⟩ := h.blk
  have f4 : w.frozen? ⟨g, 4, none⟩ = false := frozen_of_row w g 4 _ _ hg
  have f5 : w.frozen? ⟨g, 5, none⟩ = false := frozen_of_row w g 5 _ _ hg
  have f6 : w.frozen? ⟨g, 6, none⟩ = false := frozen_of_row w g 6 _ _ hg
  have c4 : w.cell? ⟨g, 4, none⟩ = some (.bool d.armed) := by rw [cell_of_row _ _ _ _ _ _ hg]; rfl
  have c5 : w.cell? ⟨g, 5, none⟩ = some (.int .i64 d.after) := by rw [cell_of_row _ _ _ _ _ _ hg]; rfl
  have c6 : w.cell? ⟨g, 6, none⟩ = some (.slice AP d.pick.length cP) := by rw [cell_of_row _ _ _ _ _ _ hg]; rfl
  have o3 := (((Only.refl (fun k => k = g) w).own 4 (.bool false)).own 5 (.int .i64 0)).own 6 (.slice none 0 0)
  have hg3 := heap_setCell_same _ g 6 _ _ (.slice none 0 0) (heap_setCell_same _ g 5 _ _ (.int .i64 0) (heap_setCell_same w g 4 _ _ (.bool false) hg))
  unfold darmOf
  by_cases hn : n < 0
  · rw [if_pos hn]
    have HP : Hid (DStatePost w g gB gW cB cW N (fun k => k = g) (.tuple #[]) ⟨d.b, d.worn, d.steps, d.off, false, 0, []⟩ (.returned (.tuple #[])) (((w.setCell ⟨g, 4, none⟩ (.bool false)).setCell ⟨g, 5, none⟩ (.int .i64 0)).setCell ⟨g, 6, none⟩ (.slice none 0 0))) := Lib.hid
      ⟨rfl, h.upd (AP := none) (cP := 0) (p := []) o3 (Bs.nil_ _ _) (by rintro k ⟨a, e, _⟩; cases e) hg3, o3⟩
    clear hg h hbp hap o3 hg3
    go_enter Try.func23, Try.ntmps23
    go_wp2
    go_end0
    exact HP.out
  · rw [if_neg hn]
    obtain ⟨K, HK⟩ : ∃ K : Nat, Hid (K = (p.take 1024).length) := ⟨_, rfl⟩
    have hKv := HK.out
    rw [List.length_take] at hKv
    have zs := slice_head A p.length c K (by omega)
    have hm : min (p.length : Int) 1024 = (K : Int) := by omega
    obtain ⟨w3, Hw3⟩ : ∃ w3, Hid ((((w.setCell ⟨g, 4, none⟩ (.bool false)).setCell ⟨g, 5, none⟩ (.int .i64 0)).setCell ⟨g, 6, none⟩ (.slice none 0 0)) = w3) := ⟨_, rfl⟩
    rw [Hw3.out] at o3 hg3
    have hb3 : Bs w3 A (p.take 1024) := (bs_off_struct h hp o3).take 1024
    have HC : Hid (∀ W, W = w3 → Calls Try.prog 38 #[.slice A K c] W fun e w' => ∃ v, e = .returned v ∧ Ob 5 w' W.heap.size v (p.take 1024) ∧ Below W.heap.size W w') := Lib.hid fun W hW => by subst hW; exact clone_is hb3 HK (by omega)
    have O3 := Lib.hid o3
    have HG3 := Lib.hid hg3
    have HH := Lib.hid h
    have z3 : w.heap.size ≤ w3.heap.size := o3.size
    clear hg h hbp hap o3 hg3 hp hb3
    have Hfin : Hid (∀ v w4, Ob 5 w4 w3.heap.size v (p.take 1024) → Below w3.heap.size w3 w4 → ∃ A' c', v = .slice A' K c' ∧
        w4.cell? ⟨g, 4, none⟩ = some (.bool false) ∧ w4.cell? ⟨g, 5, none⟩ = some (.int .i64 0) ∧ w4.cell? ⟨g, 6, none⟩ = some (.slice none 0 0) ∧ w4.frozen? ⟨g, 4, none⟩ = false ∧ w4.frozen? ⟨g, 5, none⟩ = false ∧ w4.frozen? ⟨g, 6, none⟩ = false ∧
        DStatePost w g gB gW cB cW N (fun k => k = g) (.tuple #[]) ⟨d.b, d.worn, d.steps, d.off, true, n, p.take 1024⟩ (.returned (.tuple #[])) (((w4.setCell ⟨g, 4, none⟩ (.bool true)).setCell ⟨g, 5, none⟩ (.int .i64 n)).setCell ⟨g, 6, none⟩ (.slice A' K c'))) := Lib.hid (fun v w4 ho hb => by
      obtain ⟨A', c', rfl, hbs, hf⟩ := ho.form
      have hlt : g < w3.heap.size := by omega
      have hg4 := (hb.block g hlt).trans HG3.out
      have hfr : ∀ k, At A' k → w3.heap.size ≤ k := by
        rintro k ⟨a, rfl, rfl⟩
        rcases hf with hf | ⟨g', hf, hle, _⟩
        · cases hf
        · injection hf with hf; subst hf; exact hle
      have o5 := (((Only.refl (fun k => k = g) w4).own 4 (.bool true)).own 5 (.int .i64 n)).own 6 (.slice A' (p.take 1024).length c')
      have o6 : Only (fun k => k = g) w w4 := O3.out.trans (Only.of_below hb)
      rw [HK.out]
      exact ⟨A', c', rfl, by rw [cell_of_row _ _ _ _ _ _ hg4]; rfl, by rw [cell_of_row _ _ _ _ _ _ hg4]; rfl, by rw [cell_of_row _ _ _ _ _ _ hg4]; rfl, frozen_of_row w4 g 4 _ _ hg4, frozen_of_row w4 g 5 _ _ hg4, frozen_of_row w4 g 6 _ _ hg4,
        rfl, HH.out.upd (AP := A') (cP := c') (p := p.take 1024) (o6.trans o5) (hbs.only o5 (fun k hk e => by have := hfr k hk; omega)) (fun k hk => by have := hfr k hk; omega)
          (heap_setCell_same _ _ _ _ _ _ (heap_setCell_same _ _ _ _ _ _ (heap_setCell_same _ _ _ _ _ _ hg4))), o6.trans o5⟩)
    by_cases hl : p.length ≤ 1024
    · obtain rfl : K = p.length := by omega
      clear hKv hm
      go_enter Try.func23, Try.ntmps23
      go_wp2_with (go_at_call 38; refine (HC.out _ Hw3.out).mono ?_; rintro e w4 ⟨v, rfl, ho, hb⟩; obtain ⟨A', c', rfl, c44, c45, c46, f44, f45, f46, hP⟩ := Hfin.out v w4 (by rw [← Hw3.out]; exact ho) (by rw [← Hw3.out]; exact hb); have HP := Lib.hid hP; clear hP ho hb)
      go_end0
      exact HP.out
    · obtain rfl : K = 1024 := by omega
      clear hKv hm
      go_enter Try.func23, Try.ntmps23
      go_wp2_with (go_at_call 38; refine (HC.out _ Hw3.out).mono ?_; rintro e w4 ⟨v, rfl, ho, hb⟩; obtain ⟨A', c', rfl, c44, c45, c46, f44, f45, f46, hP⟩ := Hfin.out v w4 (by rw [← Hw3.out]; exact ho) (by rw [← Hw3.out]; exact hb); have HP := Lib.hid hP; clear hP ho hb)
      go_end0
      exact HP.out
end Go.Proofs.Ytcpkmhhlcmnfdaa

namespace Go.Proofs.Ytcpkmhhlcmnfdaa
open Go.RowKit
set_option linter.unusedVariables false
set_option maxRecDepth 100000

def dwithW (d : Dl) (l : List Int) : Dl := ⟨d.b, l, d.steps, d.off, d.armed, d.after, d.pick⟩

/-- only the row of counts has turned -/
theorem DevFl.withW {w w' : World} {g gB gW cB cW N : Nat} {d : Dl} (h : DevFl w g gB gW cB cW N d) (ho : Only (fun k => k = gW) w w') {l : List Int} (hlen : l.length = d.worn.length) (hb : Wb w' gW cW l) :
    DevFl w' g gB gW cB cW N (dwithW d l) := by
  obtain ⟨n1, n2, n3⟩ := h.ne
  obtain ⟨AP, cP, hg, hbp, hap⟩ := h.cells
  refine ⟨⟨AP, cP, ?_, hbp.only ho (fun k hk => (hap k hk).2.2.1), hap⟩, h.bytes.only ho (by rintro k ⟨a, e, rfl⟩; injection e with e; subst e; exact n3), hb⟩
  rw [ho.block g (Array.getElem?_eq_some_iff.1 hg).1 n2]
  have e : (dwithW d l).worn.length = d.worn.length := hlen
  rw [e]
  exact hg

def deraseIn (d : Dl) (x : Nat) : Int × Dl :=
  match dstepOf (dwithW d (d.worn.set x (d.worn.getD x 0 + 1))) with
  | (some p, f) => (5, dwithB f (laid f.b (1024 * x) (halfB (cut f.b (1024 * x) 1024) p)))
  | (none, f) => (0, dwithB f (laid f.b (1024 * x) (List.replicate 1024 255)))
def deraseOf (d : Dl) (s : Int) : Int × Dl :=
  if d.off then (5, d) else if 0 ≤ s ∧ s < d.worn.length then deraseIn d s.toNat else (2, d)

/-- what is asked of a flash's numbers -/
structure DlOk (d : Dl) : Prop where
  len : d.b.length = 1024 * d.worn.length
  few : d.worn.length ≤ 65536
  worn : ∀ x ∈ d.worn, 0 ≤ x ∧ x ≤ 4611686018427387904
  s0 : 0 ≤ d.steps
  s1 : d.steps ≤ 4611686018427387904
  l0 : 0 ≤ d.after
  l1 : d.after ≤ 9223372036854775807
  p : d.pick.length ≤ 1024

def DErasePost (w : World) (g gB gW cB cW N : Nat) (r : Int × Dl) (e : Ending) (w' : World) : Prop :=
  e = .returned (.int .i64 r.1) ∧ DevFl w' g gB gW cB cW N r.2 ∧ Only (FlF g gB gW) w w'

theorem dstepOf_b (f : Dl) : (dstepOf f).2.b = f.b ∧ (dstepOf f).2.worn = f.worn ∧ ((dstepOf f).1 = none ∨ (dstepOf f).1 = some f.pick) := by
  unfold dstepOf
  split
  · split
    · exact ⟨rfl, rfl, .inl rfl⟩
    · exact ⟨rfl, rfl, .inr rfl⟩
  · exact ⟨rfl, rfl, .inl rfl⟩

def DStepIs (w : World) (g gB gW cB cW N : Nat) (t : Option (List UInt8)) (f : Dl) (e : Ending) (w' : World) : Prop :=
  ∃ A c, e = .returned (.tuple #[.slice A (t.getD []).length c, .bool t.isSome]) ∧ Bs w' A (t.getD []) ∧ DevFl w' g gB gW cB cW N f ∧ Only (fun k => k = g) w w'
theorem dstep_is {g gB gW cB cW N : Nat} {d f : Dl} {t : Option (List UInt8)} {w : World} (h : DevFl w g gB gW cB cW N d) (H : Hid (dstepOf d = (t, f))) (hs1 : 0 ≤ d.steps) (hs2 : d.steps ≤ 4611686018427387904) (hl1 : 0 ≤ d.after) (hl2 : d.after ≤ 9223372036854775807) :
    Calls Try.prog 77 #[.pointer (some ⟨g, 0, none⟩)] w (DStepIs w g gB gW cB cW N t f) :=
  (dstep_any h hs1 hs2 hl1 hl2).mono fun e w' ⟨⟨A, c, he, hb, _⟩, hr, ho⟩ => by rw [H.out] at he hr hb; exact ⟨A, c, he, hb, hr, ho⟩

set_option maxRecDepth 100000 in
set_option maxHeartbeats 1600000 in
theorem derase_in {g gB gW cB cW N : Nat} {d : Dl} {w : World} (h : DevFl w g gB gW cB cW N d) (ok : DlOk d) (x : Nat) (hx : x < d.worn.length) (hd : d.off = false) :
    Calls Try.prog 76 #[.pointer (some ⟨g, 0, none⟩), .int .i64 (x : Int)] w (DErasePost w g gB gW cB cW N (deraseIn d x)) := by
  obtain ⟨AP, cP, hg, -, -⟩ := h.cells
  obtain ⟨n1, n2, n3⟩ := h.ne
  have hpw : Calls Try.prog 61 #[.pointer (some ⟨g, 0, none⟩)] w fun e w' => e = .returned (.bool true) ∧ w = w' := by
    have := dpowered_any h
    rwa [hd] at this
  have hha := dhas_is (s := (x : Int)) (b := true) h (Lib.hid (decide_eq_true ⟨by omega, by omega⟩))
  have c0 : w.cell? ⟨g, 0, none⟩ = some (.slice (some ⟨gB, 0, none⟩) d.b.length cB) := by rw [cell_of_row _ _ _ _ _ _ hg]; rfl
  have c1 : w.cell? ⟨g, 1, none⟩ = some (.slice (some ⟨gW, 0, none⟩) d.worn.length cW) := by rw [cell_of_row _ _ _ _ _ _ hg]; rfl
  have cx := h.counts.at_ hx
  have fx := h.counts.frozen x
  have hwx : 0 ≤ d.worn.getD x 0 ∧ d.worn.getD x 0 ≤ 4611686018427387904 := by
    have := ok.worn d.worn[x] (List.getElem_mem hx)
    simpa [List.getD, List.getElem?_eq_getElem hx] using this
  unfold deraseIn
  obtain ⟨v, Hv⟩ : ∃ v, Hid (d.worn.getD x 0 = v) := ⟨_, rfl⟩
  rw [Hv.out] at cx hwx ⊢
  have hst := h.counts.set_ x (v + 1)
  have o1 : Only (fun k => k = gW) w (w.setCell ⟨gW, x, none⟩ (.int .i64 (v + 1))) := Only.setCell (p := ⟨gW, x, none⟩) (Only.refl (fun k => k = gW) w) (.inl rfl) _
  obtain ⟨d1, Hd1⟩ : ∃ f, Hid (dwithW d (d.worn.set x (v + 1)) = f) := ⟨_, rfl⟩
  rw [Hd1.out]
  have h1 : Hid (DevFl (w.setCell ⟨gW, x, none⟩ (.int .i64 (v + 1))) g gB gW cB cW N d1) := Lib.hid (by
    have := h.withW o1 (l := d.worn.set x (v + 1)) (by simp) hst
    rw [Hd1.out] at this
    exact this)
  have O1 := Lib.hid o1
  have hfew := ok.few
  have hlen := ok.len
  obtain ⟨y, hy⟩ : ∃ y : Nat, (x : Int) * 1024 = (y : Int) := ⟨x * 1024, by omega⟩
  have hyb : y + 1024 ≤ d.b.length := by omega
  have hcap : d.b.length ≤ cB := h.bytes.cap
  have hyx : 1024 * x = y := by omega
  rw [hyx]
  have k0 : 0 ≤ d1.steps ∧ d1.steps ≤ 4611686018427387904 ∧ 0 ≤ d1.after ∧ d1.after ≤ 9223372036854775807 := by
    rw [← Hd1.out]; exact ⟨ok.s0, ok.s1, ok.l0, ok.l1⟩
  obtain ⟨k1, k2, k3, k4⟩ := k0
  have hp1 : d.pick.length ≤ 1024 := ok.p
  have hfb : d1.b = d.b ∧ d1.pick = d.pick := by rw [← Hd1.out]; exact ⟨rfl, rfl⟩
  obtain ⟨t, f2, Hst⟩ : ∃ t f2, Hid (dstepOf d1 = (t, f2)) := ⟨_, _, rfl⟩
  have hf2 := dstepOf_b d1
  rw [Hst.out] at hf2 ⊢
  obtain ⟨e1, -, e3⟩ := hf2
  have hb2 : Hid (f2.b = d.b) := e1.trans hfb.1
  have hyb2 : y + 1024 ≤ f2.b.length := by rw [hb2.out]; exact hyb
  have hlb2 : f2.b.length ≤ 2147483648 := by rw [hb2.out]; omega
  have hpl2 : (t.getD []).length ≤ 1024 := by
    rcases e3 with e3 | e3
    · simp at e3; subst e3; simp
    · simp at e3; subst e3; rw [Option.getD_some, hfb.2]; exact hp1
  obtain ⟨bl, Hbl⟩ : ∃ l, Hid (List.replicate 1024 (255 : UInt8) = l) := ⟨_, rfl⟩
  rw [Hbl.out]
  have HBL : Hid (∀ W : World, Calls Try.prog 49 #[.int .i64 1024] W (RetIn 5 W bl)) := Lib.hid (fun W => by
    rw [← Hbl.out]
    exact blank_in (Below.refl _ _) (n := 1024) (k := 1024) rfl (by omega))
  have Hbln : Hid (bl.length = 1024) := Lib.hid (by rw [← Hbl.out, List.length_replicate])
  have hcl : Hid ((cut f2.b y 1024).length = 1024) := Lib.hid (cut_len (by omega))
  obtain ⟨o, ho, zs0⟩ := slice_in gB y 1024 cB (by omega)
  have zs : ∀ (u : World), (Instr.slice 22 (.slice (some ⟨gB, 0, none⟩) d.b.length cB) (some (.int .i64 ((x : Int) * 1024))) (some (.int .i64 (((x : Int) + 1) * 1024))) none).run Try.prog u = .ok (.slice (some ⟨gB, o, none⟩) 1024 (cB - y)) u := fun u => by
    have := zs0 d.b.length u
    have e2 : ((x : Int) + 1) * 1024 = (y : Int) + ((1024 : Nat) : Int) := by omega
    rw [hy, e2]
    exact this
  have Hho := Lib.hid ho
  have Hhy := Lib.hid hy
  have Hn := Lib.hid n3
  have hx1 : (x : Int) * 1024 ≤ 67108864 := by omega
  have hx2 : (x : Int) ≤ 65536 := by omega
  have Hok : Hid (d.b.length = 1024 * d.worn.length) := Lib.hid hlen
  clear hyx hlen ok hst o1 hg h e1 e3 hfb zs0 ho hy
  cases t with
  | none =>
    go_enter Try.func76, Try.ntmps76
    go_wp2_with (first
      | (go_at_call 61; refine hpw.mono ?_; rintro e w' ⟨rfl, rfl⟩)
      | (go_at_call 50; refine hha.mono ?_; rintro e w' ⟨rfl, rfl⟩)
      | (go_at_call 77; refine (dstep_is h1.out Hst k1 k2 k3 k4).mono ?_; rintro e w1 ⟨A1, c11, rfl, -, hr, ho⟩; have O2 : Hid (Only (FlF g gB gW) w w1) := Lib.hid ((O1.out.toF (fun k hk => .inr (.inr hk))).trans (ho.toF (fun k hk => .inl hk))); have HR := Lib.hid hr; clear ho hr))
    go_wp2_with (first
      | (go_at_call 49; refine (HBL.out _).mono ?_; rintro e w2 ⟨A2, c2, m2, rfl, hm2, hbs2, kb2⟩; have HB2 := Lib.hid hbs2; have KB := Lib.hid kb2; obtain rfl : m2 = 1024 := hm2.trans Hbln.out; clear hm2 hbs2 kb2)
      | (with_reducible refine wpList_copy_bs rfl (.tmp 45) (.tmp 46) 22 22 rfl 0 5 Try.underlying22 info5s gB f2.b.length cB f2.b (HR.out.below KB.out).bytes (some ⟨gB, o, none⟩) y 1024 (cB - y) rfl A2 bl 1024 c2 1024 rfl HB2.out Hbln.out.symm rfl (fun hk => by rcases Hho.out with rfl | h0 <;> first | rfl | omega) hyb2 ?_))
    intro w3 ho3 hon3
    have HP : Hid (DErasePost w g gB gW cB cW N (0, dwithB f2 (laid f2.b y bl)) (.returned (.int .i64 0)) w3) := Lib.hid (by
      rw [List.take_of_length_le (by rw [Hbln.out]; omega)] at ho3
      exact ⟨rfl, (HR.out.below KB.out).withB hon3 (laid_len _ _ _) ho3, (O2.out.trans (Only.of_below KB.out)).trans (hon3.toF (fun k hk => .inr (.inl hk)))⟩)
    clear ho3 hon3
    go_wp2
    go_ret
    exact HP.out
  | some pk =>
    go_enter Try.func76, Try.ntmps76
    go_wp2_with (first
      | (go_at_call 61; refine hpw.mono ?_; rintro e w' ⟨rfl, rfl⟩)
      | (go_at_call 50; refine hha.mono ?_; rintro e w' ⟨rfl, rfl⟩)
      | (go_at_call 77; refine (dstep_is h1.out Hst k1 k2 k3 k4).mono ?_; rintro e w1 ⟨A1, c11, rfl, hbp, hr, ho⟩; have O2 : Hid (Only (FlF g gB gW) w w1) := Lib.hid ((O1.out.toF (fun k hk => .inr (.inr hk))).trans (ho.toF (fun k hk => .inl hk))); have HR := Lib.hid hr; have HBP := Lib.hid hbp; clear ho hr hbp))
    have hhl : Hid ((halfB (cut f2.b y 1024) pk).length = 1024) := Lib.hid (by rw [halfB_len, hcl.out])
    obtain ⟨hv, HV⟩ : ∃ l, Hid (halfB (cut f2.b y 1024) pk = l) := ⟨_, rfl⟩
    rw [HV.out] at hhl
    have HHf : Hid (∀ W c, W = w1 → Calls Try.prog 84 #[.slice (some ⟨gB, o, none⟩) 1024 c, .slice A1 pk.length c11] W (RetIn 5 W hv)) := Lib.hid (fun W c hW => by
      subst hW
      rw [← HV.out]
      exact half_in (Below.refl _ _) (HR.out.bytes.bs.cutAt hyb2 Hho.out) HBP.out hcl.out.symm rfl (by omega) (by simp at hpl2; omega))
    go_wp2_with (first
      | (go_at_call 84; refine (HHf.out _ _ rfl).mono ?_; rintro e w2 ⟨A2, c2, m2, rfl, hm2, hbs2, kb2⟩; have HB2 := Lib.hid hbs2; have KB := Lib.hid kb2; obtain rfl : m2 = 1024 := hm2.trans hhl.out; clear hm2 hbs2 kb2)
      | (with_reducible refine wpList_copy_bs rfl (.tmp 40) (.tmp 43) 22 22 rfl 0 5 Try.underlying22 info5s gB f2.b.length cB f2.b (HR.out.below KB.out).bytes (some ⟨gB, o, none⟩) y 1024 (cB - y) rfl A2 hv 1024 c2 1024 rfl HB2.out hhl.out.symm rfl (fun hk => by rcases Hho.out with rfl | h0 <;> first | rfl | omega) hyb2 ?_))
    intro w3 ho3 hon3
    have HP : Hid (DErasePost w g gB gW cB cW N (5, dwithB f2 (laid f2.b y hv)) (.returned (.int .i64 5)) w3) := Lib.hid (by
      rw [List.take_of_length_le (by rw [hhl.out]; omega)] at ho3
      exact ⟨rfl, (HR.out.below KB.out).withB hon3 (laid_len _ _ _) ho3, (O2.out.trans (Only.of_below KB.out)).trans (hon3.toF (fun k hk => .inr (.inl hk)))⟩)
    clear ho3 hon3
    go_wp2
    go_ret
    rw [HV.out]
    exact HP.out

set_option maxHeartbeats 400000 in
theorem derase_any {g gB gW cB cW N : Nat} {d : Dl} {w : World} (h : DevFl w g gB gW cB cW N d) (ok : DlOk d) (s : Int) :
    Calls Try.prog 76 #[.pointer (some ⟨g, 0, none⟩), .int .i64 s] w (DErasePost w g gB gW cB cW N (deraseOf d s)) := by
  unfold deraseOf
  have hpw := dpowered_any h
  cases hd : d.off with
  | true =>
    rw [hd] at hpw
    rw [if_pos rfl]
    go_enter Try.func76, Try.ntmps76
    go_wp2_with (go_at_call 61; refine hpw.mono ?_; rintro e w' ⟨rfl, rfl⟩)
    go_ret
    exact ⟨rfl, h, Only.refl _ _⟩
  | false =>
    rw [if_neg (by simp)]
    by_cases hin : 0 ≤ s ∧ s < d.worn.length
    · rw [if_pos hin]
      obtain ⟨x, rfl⟩ := Int.eq_ofNat_of_zero_le hin.1
      rw [Int.toNat_natCast]
      exact derase_in h ok x (by omega) hd
    · rw [if_neg hin]
      have hha := dhas_is (s := s) (b := false) h (Lib.hid (decide_eq_false hin))
      rw [hd] at hpw
      clear hin hd
      go_enter Try.func76, Try.ntmps76
      go_wp2_with (first
        | (go_at_call 61; refine hpw.mono ?_; rintro e w' ⟨rfl, rfl⟩)
        | (go_at_call 50; refine hha.mono ?_; rintro e w' ⟨rfl, rfl⟩))
      go_ret
      exact ⟨rfl, h, Only.refl _ _⟩
end Go.Proofs.Ytcpkmhhlcmnfdaa

namespace Go.Proofs.Ytcpkmhhlcmnfdaa
open Go.RowKit
set_option linter.unusedVariables false
set_option maxRecDepth 100000

/-- one word -/
def dwordOf (d : Dl) (a : Nat) (m : List UInt8) : Int × Dl :=
  match dstepOf d with
  | (some p, f) => (5, dwithB f (laid f.b a (tornB (cut f.b a 8) m p)))
  | (none, f) => (0, dwithB f (laid f.b a m))

set_option maxRecDepth 100000 in
set_option maxHeartbeats 1600000 in
theorem dword_any {g gB gW cB cW N : Nat} {d : Dl} {w : World} (h : DevFl w g gB gW cB cW N d) (ok : DlOk d) (a : Nat) (A : Option Addr) (m : List UInt8) (c : Nat) (hm : Bs w A m) (hm8 : Hid (m.length = 8)) (ha : a + 8 ≤ d.b.length) (hcan : Hid (canB (cut d.b a 8) m = true)) :
    Calls Try.prog 69 #[.pointer (some ⟨g, 0, none⟩), .int .i64 (a : Int), .slice A 8 c] w (DErasePost w g gB gW cB cW N (dwordOf d a m)) := by
  obtain ⟨AP, cP, hg, -, -⟩ := h.cells
  have c0 : w.cell? ⟨g, 0, none⟩ = some (.slice (some ⟨gB, 0, none⟩) d.b.length cB) := by rw [cell_of_row _ _ _ _ _ _ hg]; rfl
  have hlb : d.b.length ≤ 67108864 := by have := ok.len; have := ok.few; omega
  have hcap : d.b.length ≤ cB := h.bytes.cap
  have hp1 : d.pick.length ≤ 1024 := ok.p
  have k1 := ok.s0
  have k2 := ok.s1
  have k3 := ok.l0
  have k4 := ok.l1
  unfold dwordOf
  obtain ⟨t, f2, Hst⟩ : ∃ t f2, Hid (dstepOf d = (t, f2)) := ⟨_, _, rfl⟩
  have hf2 := dstepOf_b d
  rw [Hst.out] at hf2 ⊢
  obtain ⟨e1, -, e3⟩ := hf2
  have hb2 : Hid (f2.b = d.b) := e1
  have ha2 : a + 8 ≤ f2.b.length := by rw [hb2.out]; exact ha
  have hpl2 : (t.getD []).length ≤ 1024 := by
    rcases e3 with e3 | e3
    · simp at e3; subst e3; simp
    · simp at e3; subst e3; exact hp1
  have Hcan : Hid (canB (cut f2.b a 8) m = true) := Lib.hid (by rw [hb2.out]; exact hcan.out)
  have hcl : Hid ((cut f2.b a 8).length = 8) := Lib.hid (cut_len (by omega))
  obtain ⟨o, ho, zs0⟩ := slice_in gB a 8 cB (by omega)
  have zs : ∀ (u : World), (Instr.slice 22 (.slice (some ⟨gB, 0, none⟩) d.b.length cB) (some (.int .i64 (a : Int))) (some (.int .i64 ((a : Int) + 8))) none).run Try.prog u = .ok (.slice (some ⟨gB, o, none⟩) 8 (cB - a)) u := fun u => zs0 d.b.length u
  have Hho := Lib.hid ho
  have HH := Lib.hid h
  have HM := Lib.hid hm
  clear hg h e1 e3 zs0 ho hm ok
  cases t with
  | none =>
    go_enter Try.func69, Try.ntmps69
    go_wp2_with (go_at_call 77; refine (dstep_is HH.out Hst k1 k2 k3 k4).mono ?_; rintro e w1 ⟨A1, c11, rfl, -, hr, ho⟩; have O2 : Hid (Only (fun k => k = g) w w1) := Lib.hid ho; have HR := Lib.hid hr; have HM2 := Lib.hid (bs_off_struct HH.out HM.out ho); clear ho hr)
    have HPf : Hid (∀ W k1, W = w1 → Calls Try.prog 79 #[.slice (some ⟨gB, o, none⟩) 8 k1, .slice A 8 c] W (RetIn 5 W m)) := Lib.hid (fun W k1 hW => by
      subst hW
      exact program_r (Below.refl _ _) (by show (if canB (cut f2.b a 8) m = true then m else []) = m; rw [if_pos Hcan.out]) (HR.out.bytes.bs.cutAt ha2 Hho.out) HM2.out hcl.out.symm hm8.out.symm (by omega) (by omega))
    go_wp2_with (first
      | (go_at_call 79; refine (HPf.out _ _ rfl).mono ?_; rintro e w2 ⟨A2, c2, m2, rfl, hm2, hbs2, kb2⟩; have HB2 := Lib.hid hbs2; have KB := Lib.hid kb2; obtain rfl : m2 = 8 := hm2.trans hm8.out; clear hm2 hbs2 kb2)
      | (with_reducible refine wpList_copy_bs rfl (.tmp 30) (.tmp 33) 22 22 rfl 0 5 Try.underlying22 info5s gB f2.b.length cB f2.b (HR.out.below KB.out).bytes (some ⟨gB, o, none⟩) a 8 (cB - a) rfl A2 m 8 c2 8 rfl HB2.out hm8.out.symm rfl (fun hk => by rcases Hho.out with rfl | h0 <;> first | rfl | omega) ha2 ?_))
    intro w3 ho3 hon3
    have HP : Hid (DErasePost w g gB gW cB cW N (0, dwithB f2 (laid f2.b a m)) (.returned (.int .i64 0)) w3) := Lib.hid (by
      rw [List.take_of_length_le (by rw [hm8.out]; omega)] at ho3
      exact ⟨rfl, (HR.out.below KB.out).withB hon3 (laid_len _ _ _) ho3, ((O2.out.toF (fun k hk => .inl hk)).trans (Only.of_below KB.out)).trans (hon3.toF (fun k hk => .inr (.inl hk)))⟩)
    clear ho3 hon3
    go_wp2
    go_ret
    exact HP.out
  | some pk =>
    obtain ⟨hv, HV⟩ : ∃ l, Hid (tornB (cut f2.b a 8) m pk = l) := ⟨_, rfl⟩
    have hhl : Hid (hv.length = 8) := Lib.hid (by rw [← HV.out, tornB_len, hm8.out])
    go_enter Try.func69, Try.ntmps69
    go_wp2_with (go_at_call 77; refine (dstep_is HH.out Hst k1 k2 k3 k4).mono ?_; rintro e w1 ⟨A1, c11, rfl, hbp, hr, ho⟩; have O2 : Hid (Only (fun k => k = g) w w1) := Lib.hid ho; have HR := Lib.hid hr; have HBP := Lib.hid hbp; have HM2 := Lib.hid (bs_off_struct HH.out HM.out ho); clear ho hr hbp)
    have HTf : Hid (∀ W k1, W = w1 → Calls Try.prog 78 #[.slice (some ⟨gB, o, none⟩) 8 k1, .slice A 8 c, .slice A1 pk.length c11] W (RetIn 5 W hv)) := Lib.hid (fun W k1 hW => by
      subst hW
      exact torn_r (Below.refl _ _) (by show (if canB (cut f2.b a 8) m = true then tornB (cut f2.b a 8) m pk else []) = hv; rw [if_pos Hcan.out]; exact HV.out) (HR.out.bytes.bs.cutAt ha2 Hho.out) HM2.out HBP.out hcl.out.symm hm8.out.symm rfl (by omega) (by omega) (by simp at hpl2; omega))
    go_wp2_with (first
      | (go_at_call 78; refine (HTf.out _ _ rfl).mono ?_; rintro e w2 ⟨A2, c2, m2, rfl, hm2, hbs2, kb2⟩; have HB2 := Lib.hid hbs2; have KB := Lib.hid kb2; obtain rfl : m2 = 8 := hm2.trans hhl.out; clear hm2 hbs2 kb2)
      | (with_reducible refine wpList_copy_bs rfl (.tmp 24) (.tmp 28) 22 22 rfl 0 5 Try.underlying22 info5s gB f2.b.length cB f2.b (HR.out.below KB.out).bytes (some ⟨gB, o, none⟩) a 8 (cB - a) rfl A2 hv 8 c2 8 rfl HB2.out hhl.out.symm rfl (fun hk => by rcases Hho.out with rfl | h0 <;> first | rfl | omega) ha2 ?_))
    intro w3 ho3 hon3
    have HP : Hid (DErasePost w g gB gW cB cW N (5, dwithB f2 (laid f2.b a hv)) (.returned (.int .i64 5)) w3) := Lib.hid (by
      rw [List.take_of_length_le (by rw [hhl.out]; omega)] at ho3
      exact ⟨rfl, (HR.out.below KB.out).withB hon3 (laid_len _ _ _) ho3, ((O2.out.toF (fun k hk => .inl hk)).trans (Only.of_below KB.out)).trans (hon3.toF (fun k hk => .inr (.inl hk)))⟩)
    clear ho3 hon3
    go_wp2
    go_ret
    rw [HV.out]
    exact HP.out
end Go.Proofs.Ytcpkmhhlcmnfdaa

namespace Go.Proofs.Ytcpkmhhlcmnfdaa
open Go.RowKit
set_option linter.unusedVariables false
set_option maxRecDepth 100000

theorem make_cap (k : Nat) (hk : k ≤ 2147483648) (u : World) : (Instr.makeSlice 22 (.int .i64 0) (.int .i64 (k : Int))).run Try.prog u =
      .ok (.slice (some ⟨u.heap.size, 0, none⟩) 0 k) (u.alloc (.cells (madeCells #[.int .u8 0] k) 5)) := by
  obtain ⟨i0, hi, hz0, hz1, hz2⟩ := info_parts info5
  have h := run_make (P := Try.prog) u 22 5 i0 (.int .u8 0) Try.underlying22 hi hz0 .i64 .i64 0 (k : Int) (by omega) (by omega) (by rw [hz2]; omega) (by omega)
  simpa [hz1, Value.cells] using h
theorem cap_made (w : World) (k : Nat) (hk : k ≤ 2147483648) : Ob 5 (w.alloc (.cells (madeCells #[.int .u8 0] k) 5)) w.heap.size (.slice (some ⟨w.heap.size, 0, none⟩) 0 k) [] :=
  ⟨by simp, .inr ⟨w.heap.size, k, _, rfl, Nat.le_refl _, heap_alloc_new _ _, Nat.zero_le _, by unfold maxLen; omega, by simp [size_madeCells], by simp⟩⟩

def DNewPost (w : World) (n : Nat) (e : Ending) (w' : World) : Prop :=
  ∃ g gB gW cB cW, e = .returned (.pointer (some ⟨g, 0, none⟩)) ∧ (∀ N, DevFl w' g gB gW cB cW N ⟨blanks n, List.replicate n 0, 0, false, false, 0, []⟩) ∧ Below w.heap.size w w' ∧
    w.heap.size ≤ g ∧ w.heap.size ≤ gB ∧ w.heap.size ≤ gW

def SlotIs (n : Nat) (w : World) (s : Value) (w' : World) : Prop := s = .int .i64 (n : Int) ∧ w' = w

set_option maxRecDepth 100000 in
set_option maxHeartbeats 1600000 in
theorem dnew_any (s : Int) (n : Nat) (w : World) (hn : Hid ((if s < 1 then 1 else if 256 < s then 256 else s) = (n : Int))) (hn1 : 1 ≤ n) (hn2 : n ≤ 256) :
    Calls Try.prog 33 #[.int .i64 s] w (DNewPost w n) := by
  have mk : ∀ u : World, (Instr.makeSlice 31 (.int .i64 (n : Int)) (.int .i64 (n : Int))).run Try.prog u = _ := fun u => make_ints n (by omega) u
  obtain ⟨bl, Hbl⟩ : ∃ l, Hid (List.replicate 1024 (255 : UInt8) = l) := ⟨_, rfl⟩
  have HBL : Hid (∀ W : World, Calls Try.prog 49 #[.int .i64 1024] W (RetIn 5 W bl)) := Lib.hid (fun W => by
    rw [← Hbl.out]
    exact blank_in (Below.refl _ _) (n := 1024) (k := 1024) rfl (by omega))
  have Hbln : Hid (bl.length = 1024) := Lib.hid (by rw [← Hbl.out, List.length_replicate])
  go_enter Try.func33, Try.ntmps33
  go_upto_region 1 with fail
  go_cut [0] (SlotIs n w)
  case first =>
    go_wp2_with fail
    all_goals go_meet
    all_goals
      refine ⟨?_, rfl⟩
      have h0 := hn.out
      congr 1
      revert h0
      repeat' split
      all_goals omega
  case rest =>
    obtain ⟨rfl, rfl⟩ := hcut
    have mk2 : ∀ u : World, (Instr.makeSlice 22 (.int .i64 0) (.int .i64 ((n : Int) * 1024))).run Try.prog u = .ok (.slice (some ⟨u.heap.size, 0, none⟩) 0 (n * 1024)) (u.alloc (.cells (madeCells #[.int .u8 0] (n * 1024)) 5)) := fun u => by
      have := make_cap (n * 1024) (by omega) u
      rwa [Int.natCast_mul] at this
    obtain ⟨w0, Hw0⟩ : ∃ w0 : World, Hid (wc = w0) := ⟨_, rfl⟩
    have hbe0 : Hid (Below wc.heap.size wc (wc.alloc (.cells (madeCells #[.int .u8 0] (n * 1024)) 5))) := Lib.hid ((Below.refl _ _).alloc (Nat.le_refl _) _)
    have hob0 := Lib.hid (cap_made wc (n * 1024) (by omega))
    go_wp2_with fail
    go_loopw [3, 11] (fun sl i wr => ∃ (k : Nat) (A : Option Addr) (c : Nat) (r : List UInt8), k ≤ n ∧ i = .int .i64 k ∧ Hid (r = blanks k) ∧ sl = .slice A r.length c ∧
        Hid (Ob 5 wr wc.heap.size (.slice A r.length c) r) ∧ Hid (Below wc.heap.size wc wr)) (fun _ i _ => n - (intOf i).toNat)
    case atStart => exact ⟨0, _, _, [], Nat.zero_le _, rfl, rfl, rfl, hob0, hbe0⟩
    case round =>
      obtain ⟨k, A, c, r, hk, rfl, Hr, rfl, Hown, Hbel⟩ := hrel
      by_cases hlt : k < n
      · have hrl : r.length ≤ 262144 := by rw [Hr.out, blanks_len]; omega
        go_wp2_with (first
          | (go_at_call 49; refine (HBL.out _).mono ?_; rintro e w4 ⟨A4, c4, n4, rfl, hn4, hbs4, kb4⟩; have KB := Lib.hid kb4; have HB4 := Lib.hid hbs4; have HN4 := Lib.hid hn4; clear kb4 hbs4 hn4)
          | (at_builtin; refine wpList_append_bs rfl (.tmp 13) (.tmp 14) 22 rfl wc.heap.size 5 Try.underlying22 info5 _ r rfl (Hown.out.below KB.out) A4 bl _ c4 rfl HN4.out HB4.out (by have := Hbln.out; omega) (by have := KB.out.size; have := Hbel.out.size; omega) ?_))
        intro v5 w5 ho5 hgr5
        obtain ⟨A5, c5, rfl, -, -⟩ := ho5.form
        have Hlen : Hid (r.length + bl.length = (r ++ bl).length) := Lib.hid List.length_append.symm
        have B5 : Hid (Below wc.heap.size wc w5) := Lib.hid ((Hbel.out.trans (KB.out.mono Hbel.out.size)).grown hgr5 (by have := Hbel.out.size; have := KB.out.size; omega) (fun j hj => Hown.out.fresh j (own_at hj)))
        have Ho5 := Lib.hid ho5
        clear hgr5 ho5
        go_wp2_with fail
        go_roundw
        case rel =>
          refine ⟨k + 1, A5, c5, r ++ bl, by omega, by go_num, ?_, ?_, Ho5, B5⟩
          · show r ++ bl = blanks (k + 1)
            rw [Hr.out, ← Hbl.out]
            exact blanks_succ k
          · rw [List.length_append]
        case measure => simp [intOf]; omega
      · obtain rfl : k = n := by omega
        have hrl : 0 < r.length := by rw [Hr.out, blanks_len]; omega
        obtain ⟨b1, o1, rfl, -⟩ := Hown.out.bs.at_ hrl
        have ho1 : o1 = 0 := by
          obtain ⟨A', c', e, -, hf⟩ := Hown.out.form
          injection e with e1
          subst e1
          rcases hf with hf | ⟨g', hf, -⟩
          · cases hf
          · injection hf with hf; injection hf with _ hf
        subst ho1
        have hz : wr.heap.size ≥ wc.heap.size := Hbel.out.size
        have Hob := Hown.out
        have Hbe := Hbel.out
        have hW := ints_made wr k (by omega)
        have HP : Hid (DNewPost wc k (.returned (.pointer (some ⟨wr.heap.size + 1, 0, none⟩))) ((wr.alloc (.cells (madeCells #[.int .i64 0] k) 3)).alloc (.cells #[.slice (some ⟨b1, 0, none⟩) r.length c, .slice (some ⟨wr.heap.size, 0, none⟩) k k, .int .i64 0, .bool false, .bool false, .int .i64 0, .slice none 0 0] 78))) := Lib.hid (by
          refine ⟨wr.heap.size + 1, b1, wr.heap.size, c, k, rfl, fun N => ⟨⟨none, 0, ?_, Bs.nil_ _ _, by rintro k ⟨a, e, _⟩; cases e⟩, ?_, ?_⟩, ((Hbe.alloc hz _).alloc (by simp; omega) _), by omega, Hob.fresh b1 ⟨_, rfl, rfl⟩, hz⟩
          · have e := heap_alloc_new (wr.alloc (.cells (madeCells #[.int .i64 0] k) 3)) (.cells #[.slice (some ⟨b1, 0, none⟩) r.length c, .slice (some ⟨wr.heap.size, 0, none⟩) k k, .int .i64 0, .bool false, .bool false, .int .i64 0, .slice none 0 0] 78)
            rw [show (wr.alloc (.cells (madeCells #[.int .i64 0] k) 3)).heap.size = wr.heap.size + 1 by simp] at e
            rw [e, ← Hr.out]
            simp
          · have e := ((Hob.low (Nat.zero_le _)).below ((Below.refl _ _).alloc (Nat.le_refl _) (.cells (madeCells #[.int .i64 0] k) 3)))
            have e2 := e.below ((Below.refl _ _).alloc (Nat.le_refl _) (.cells #[.slice (some ⟨b1, 0, none⟩) r.length c, .slice (some ⟨wr.heap.size, 0, none⟩) k k, .int .i64 0, .bool false, .bool false, .int .i64 0, .slice none 0 0] 78))
            rw [← Hr.out]
            exact e2
          · have := hW.only (F := fun _ => False) ((Only.refl _ _).alloc (.cells #[.slice (some ⟨b1, 0, none⟩) r.length c, .slice (some ⟨wr.heap.size, 0, none⟩) k k, .int .i64 0, .bool false, .bool false, .int .i64 0, .slice none 0 0] 78)) (fun h => h)
            simpa [Wb] using this)
        clear Hob Hbe hW
        go_wp2_with fail
        go_ret
        exact HP.out
end Go.Proofs.Ytcpkmhhlcmnfdaa

namespace Go.Proofs.Ytcpkmhhlcmnfdaa
open Go.RowKit
set_option linter.unusedVariables false
set_option maxRecDepth 100000

/-- k words -/
def dprogTo (d : Dl) (a : Nat) (m : List UInt8) : Nat → Int × Dl
  | 0 => (0, d)
  | k + 1 => if (dprogTo d a m k).1 = 0 then dwordOf (dprogTo d a m k).2 (a + 8 * k) (cut m (8 * k) 8) else dprogTo d a m k
def dprogOf (d : Dl) (s : Int) (m : List UInt8) : Int × Dl :=
  if d.off then (5, d) else if ¬ (0 ≤ s ∧ s + m.length ≤ d.b.length) then (2, d) else if s.toNat % 8 ≠ 0 ∨ m.length % 8 ≠ 0 then (3, d)
  else if canB (cut d.b s.toNat m.length) m = false then (4, d) else dprogTo d s.toNat m (m.length / 8)

theorem laid_get {l : List UInt8} {a : Nat} {s : List UInt8} {i : Nat} (h : i < l.length) : (laid l a s).getD i 0 = if a ≤ i ∧ i < a + s.length then s.getD (i - a) 0 else l.getD i 0 := laidTo_get h

theorem dstepOf_num (d : Dl) (ok : DlOk d) (h : d.steps + 1 ≤ 4611686018427387904) : DlOk (dstepOf d).2 ∧ (dstepOf d).2.steps = d.steps + 1 := by
  unfold dstepOf
  have := ok.s0
  have := ok.l0
  have := ok.l1
  split
  · split
    · exact ⟨⟨ok.len, ok.few, ok.worn, by simp; omega, h, by simp; omega, by simp; omega, ok.p⟩, rfl⟩
    · exact ⟨⟨ok.len, ok.few, ok.worn, by simp; omega, h, by simp, by simp, by simp⟩, rfl⟩
  · exact ⟨⟨ok.len, ok.few, ok.worn, by simp; omega, h, ok.l0, ok.l1, ok.p⟩, rfl⟩
theorem DlOk.withB {d : Dl} (ok : DlOk d) {b : List UInt8} (h : b.length = d.b.length) : DlOk (dwithB d b) := ⟨h.trans ok.len, ok.few, ok.worn, ok.s0, ok.s1, ok.l0, ok.l1, ok.p⟩

structure WordFact (d : Dl) (a : Nat) (r : Int × Dl) : Prop where
  ok : DlOk r.2
  steps : r.2.steps = d.steps + 1
  worn : r.2.worn = d.worn
  len : r.2.b.length = d.b.length
  rest : ∀ i, i < d.b.length → (i < a ∨ a + 8 ≤ i) → r.2.b.getD i 0 = d.b.getD i 0
  code : r.1 = 0 ∨ r.1 = 5
theorem dwordOf_fact (d : Dl) (ok : DlOk d) (h : d.steps + 1 ≤ 4611686018427387904) (a : Nat) (m : List UInt8) (hm : m.length = 8) : WordFact d a (dwordOf d a m) := by
  obtain ⟨h1, h2⟩ := dstepOf_num d ok h
  obtain ⟨e1, e2, e3⟩ := dstepOf_b d
  unfold dwordOf
  obtain ⟨t, f, hf⟩ : ∃ t f, dstepOf d = (t, f) := ⟨_, _, rfl⟩
  rw [hf] at h1 h2 e1 e2 ⊢
  simp only at h1 h2 e1 e2
  cases t with
  | none => exact ⟨h1.withB (laid_len _ _ _), h2, e2, by show (laid _ _ _).length = _; rw [laid_len, e1], fun i hi ho => by
      show (laid f.b a m).getD i 0 = _
      rw [laid_get (by rw [e1]; exact hi), if_neg (by rw [hm]; omega), e1], .inl rfl⟩
  | some p => exact ⟨h1.withB (laid_len _ _ _), h2, e2, by show (laid _ _ _).length = _; rw [laid_len, e1], fun i hi ho => by
      show (laid f.b a _).getD i 0 = _
      rw [laid_get (by rw [e1]; exact hi), if_neg (by rw [tornB_len, hm]; omega), e1], .inr rfl⟩

structure ProgFact (d : Dl) (a k : Nat) (r : Int × Dl) : Prop where
  ok : DlOk r.2
  steps : r.2.steps ≤ d.steps + k
  worn : r.2.worn = d.worn
  len : r.2.b.length = d.b.length
  rest : ∀ i, i < d.b.length → (i < a ∨ a + 8 * k ≤ i) → r.2.b.getD i 0 = d.b.getD i 0
  code : r.1 = 0 ∨ r.1 = 5
theorem dprogTo_fact (d : Dl) (ok : DlOk d) (a : Nat) (m : List UInt8) (n : Nat) (hm : 8 * n ≤ m.length) (h : d.steps + n ≤ 4611686018427387904) : ∀ k, k ≤ n → ProgFact d a k (dprogTo d a m k)
  | 0, _ => ⟨ok, by simp [dprogTo], rfl, rfl, fun _ _ _ => rfl, .inl rfl⟩
  | k + 1, hk => by
    have ih := dprogTo_fact d ok a m n hm h k (by omega)
    unfold dprogTo
    by_cases h0 : (dprogTo d a m k).1 = 0
    · rw [if_pos h0]
      have hs := ih.steps
      have w := dwordOf_fact (dprogTo d a m k).2 ih.ok (by omega) (a + 8 * k) (cut m (8 * k) 8) (cut_len (by omega))
      exact ⟨w.ok, by rw [w.steps]; omega, by rw [w.worn, ih.worn], by rw [w.len, ih.len], fun i hi ho => by rw [w.rest i (by rw [ih.len]; exact hi) (by omega), ih.rest i hi (by omega)], w.code⟩
    · rw [if_neg h0]
      exact ⟨ih.ok, by have := ih.steps; omega, ih.worn, ih.len, fun i hi ho => ih.rest i hi (by omega), ih.code⟩
theorem dprogTo_stop {d : Dl} {a : Nat} {m : List UInt8} {k : Nat} (h : (dprogTo d a m k).1 ≠ 0) : ∀ n, k ≤ n → dprogTo d a m n = dprogTo d a m k := by
  intro n hn
  induction n with
  | zero => obtain rfl : k = 0 := by omega
            rfl
  | succ n ih =>
    by_cases e : k = n + 1
    · rw [e]
    · have := ih (by omega)
      rw [dprogTo, if_neg (by rw [this]; exact h), this]

theorem canB_part {l m : List UInt8} {a k : Nat} {f : List UInt8} (hl : a + m.length ≤ l.length) (hc : canB (cut l a m.length) m = true) (hk : 8 * k + 8 ≤ m.length) (hf : f.length = l.length) (hr : ∀ i, i < l.length → (i < a ∨ a + 8 * k ≤ i) → f.getD i 0 = l.getD i 0) :
    canB (cut f (a + 8 * k) 8) (cut m (8 * k) 8) = true := by
  have h1 := canB_iff.1 hc
  refine canB_true (by rw [cut_len (by omega), cut_len (by omega)]) fun i hi => ?_
  rw [cut_len (by omega)] at hi
  rw [cut_get hi, cut_get hi, hr _ (by omega) (by omega)]
  have := h1.2 (8 * k + i) (by rw [cut_len hl]; omega)
  rwa [cut_get (by omega), ← Nat.add_assoc] at this

/-- a row that holds something lies off the blocks of F -/
def Off (F : Nat → Prop) (A : Option Addr) (l : List UInt8) : Prop := 0 < l.length → ∀ k, At A k → ¬ F k
theorem Bs.offs {F : Nat → Prop} {w w' : World} {A : Option Addr} {l : List UInt8} (h : Bs w A l) (hA : Off F A l) (ho : Only F w w') : Bs w' A l := fun hl => h.only ho (hA hl) hl

theorem slice_any (A : Option Addr) (w : World) (m : List UInt8) (hm : Bs w A m) (c : Nat) (hc : m.length ≤ c) (y n : Nat) (hn : 0 < n) (h : y + n ≤ m.length) : ∃ A', Bs w A' (cut m y n) ∧ (∀ k, At A' k → At A k) ∧ ∀ (u : World),
    (Instr.slice 22 (.slice A m.length c) (some (.int .i64 (y : Int))) (some (.int .i64 ((y : Int) + (n : Int)))) none).run Try.prog u = .ok (.slice A' n (c - y)) u := by
  obtain ⟨b, o, rfl, hcell⟩ := hm (by omega)
  refine ⟨some ⟨b, o + y, none⟩, fun hl => ⟨b, o + y, rfl, fun j hj => ?_⟩, ?_, fun u => ?_⟩
  · rw [cut_len h] at hj
    rw [cut_get hj, Nat.add_assoc]
    exact hcell (y + j) (by omega)
  · rintro k ⟨a, e, rfl⟩
    injection e with e
    subst e
    exact ⟨_, rfl, rfl⟩
  · rw [run_slice_lh u _ _ _ _ under_bs _ _ _ _ (by omega) (by omega) (by omega), sizeOf_u8]
    simp only [Result.andThen, sliced, Int.toNat_natCast, Option.map_some, Nat.mul_one]
    rw [if_neg (by omega)]
    have e : ((y : Int) + (n : Int)).toNat - y = n := by omega
    rw [e]
    rw [addr_add]

set_option maxRecDepth 100000 in
set_option maxHeartbeats 3200000 in
theorem dprog_in {g gB gW cB cW N : Nat} {d : Dl} {w : World} (h : DevFl w g gB gW cB cW N d) (ok : DlOk d) (a : Nat) (A : Option Addr) (m : List UInt8) (c : Nat) (hm : Bs w A m) (hA : Off (FlF g gB gW) A m) (hc : m.length ≤ c) (hd : d.off = false) (hfit : a + m.length ≤ d.b.length)
    (hal : a % 8 = 0 ∧ m.length % 8 = 0) (hcan : Hid (canB (cut d.b a m.length) m = true)) (hst : d.steps + m.length ≤ 4611686018427387904) :
    Calls Try.prog 63 #[.pointer (some ⟨g, 0, none⟩), .int .i64 (a : Int), .slice A m.length c] w (DErasePost w g gB gW cB cW N (dprogTo d a m (m.length / 8))) := by
  obtain ⟨AP, cP, hg, -, -⟩ := h.cells
  have c0 : w.cell? ⟨g, 0, none⟩ = some (.slice (some ⟨gB, 0, none⟩) d.b.length cB) := by rw [cell_of_row _ _ _ _ _ _ hg]; rfl
  have hlb : d.b.length ≤ 67108864 := by have := ok.len; have := ok.few; omega
  have hcap : d.b.length ≤ cB := h.bytes.cap
  have hpw : Calls Try.prog 61 #[.pointer (some ⟨g, 0, none⟩)] w fun e w' => e = .returned (.bool true) ∧ w = w' := by
    have := dpowered_any h
    rwa [hd] at this
  have hho := dholds_is (a := (a : Int)) (n := (m.length : Int)) (b := true) h (Lib.hid (decide_eq_true ⟨by omega, by omega, by omega⟩)) (by omega) (by omega) (by omega) (by omega) (by omega)
  obtain ⟨n, hn⟩ : ∃ n, m.length = 8 * n := ⟨m.length / 8, by omega⟩
  have hn8 : m.length / 8 = n := by omega
  rw [hn8]
  have al1 : (a : Int) % 8 = 0 := by omega
  have al2 : (m.length : Int) % 8 = 0 := by omega
  obtain ⟨o, ho, zs0⟩ := slice_in gB a m.length cB (by omega)
  have zs : ∀ (u : World), (Instr.slice 22 (.slice (some ⟨gB, 0, none⟩) d.b.length cB) (some (.int .i64 (a : Int))) (some (.int .i64 ((a : Int) + (m.length : Int)))) none).run Try.prog u = .ok (.slice (some ⟨gB, o, none⟩) m.length (cB - a)) u := fun u => zs0 d.b.length u
  have hcl : Hid ((cut d.b a m.length).length = m.length) := Lib.hid (cut_len hfit)
  have HCan : Hid (∀ k1, Calls Try.prog 68 #[.slice (some ⟨gB, o, none⟩) m.length k1, .slice A m.length c] w fun e w' => e = .returned (.bool true) ∧ ∃ n, w' = w.drewN n) := Lib.hid (fun k1 => by
    have := can_is (A1 := some ⟨gB, o, none⟩) (A2 := A) (l := cut d.b a m.length) (m := m) (c1 := k1) (c2 := c) hcan (h.bytes.bs.cutAt hfit ho) hm (by rw [hcl.out]; omega)
    rw [hcl.out] at this
    exact this)
  have HF := Lib.hid (fun k => dprogTo_fact d ok a m n (by omega) (by omega) k)
  have HH := Lib.hid h
  have HM := Lib.hid hm
  have HA := Lib.hid hA
  have Hn := Lib.hid hn
  have Hfit := Lib.hid hfit
  have Hho := Lib.hid ho
  have hmz : m.length ≤ 67108864 := by omega
  have haz : a ≤ 67108864 := by omega
  have Hst := Lib.hid hst
  clear hg h hm hA hn hn8 hfit ho zs0 ok hst hal
  go_enter Try.func63, Try.ntmps63
  go_wp2_with (first
    | (go_at_call 61; refine hpw.mono ?_; rintro e w' ⟨rfl, rfl⟩)
    | (go_at_call 37; refine hho.mono ?_; rintro e w' ⟨rfl, rfl⟩)
    | (go_at_call 68; refine (HCan.out _).mono ?_; rintro e w' ⟨rfl, nd, rfl⟩))
  go_loopw [7] (fun i wr => ∃ k y : Nat, k ≤ n ∧ Hid (y = 8 * k) ∧ y ≤ m.length ∧ i = .int .i64 (y : Int) ∧ Hid ((dprogTo d a m k).1 = 0) ∧ Hid (DevFl wr g gB gW cB cW N (dprogTo d a m k).2) ∧ Hid (Only (FlF g gB gW) w wr)) (fun i _ => m.length - (intOf i).toNat)
  case atStart => exact ⟨0, 0, Nat.zero_le _, rfl, Nat.zero_le _, rfl, rfl, by show Hid (DevFl (w.drewN nd) g gB gW cB cW N d); exact Lib.hid (HH.out.below (below_drewN' (Below.refl _ _) nd)), (Only.refl _ _).drewN nd⟩
  case round =>
    obtain ⟨k, y, hk, Hy, hy, rfl, H0, HD, HO⟩ := hrel
    by_cases hlt : y < m.length
    · have hkn : k < n := by have := Hy.out; have := Hn.out; omega
      have hy8 : y + 8 ≤ m.length := by have := Hy.out; have := Hn.out; omega
      have fact := HF.out k hk
      obtain ⟨z, f, Hf⟩ : ∃ z f, Hid (dprogTo d a m k = (z, f)) := ⟨_, _, rfl⟩
      rw [Hf.out] at fact HD H0
      replace HD : Hid (DevFl wr g gB gW cB cW N f) := HD
      replace H0 : Hid (z = 0) := H0
      have hfs : f.steps ≤ d.steps + k := fact.steps
      have hfo : DlOk f := fact.ok
      have hfl : f.b.length = d.b.length := fact.len
      obtain ⟨A', hbs', hat', zs1⟩ := slice_any A wr m (HM.out.offs HA.out HO.out) c hc y 8 (by omega) hy8
      have zw : ∀ (u : World), (Instr.slice 22 (.slice A m.length c) (some (.int .i64 (y : Int))) (some (.int .i64 ((y : Int) + 8))) none).run Try.prog u = .ok (.slice A' 8 (c - y)) u := zs1
      have hstp : f.steps + 1 ≤ 4611686018427387904 := by have := Hst.out; have := Hn.out; omega
      have hw2 := dwordOf_fact f hfo hstp (a + y) (cut m y 8) (cut_len hy8)
      have HW : Hid (∀ c1, Calls Try.prog 69 #[.pointer (some ⟨g, 0, none⟩), .int .i64 ((a : Int) + (y : Int)), .slice A' 8 c1] wr (DErasePost wr g gB gW cB cW N (dwordOf f (a + y) (cut m y 8)))) := Lib.hid (fun c1 => by
        rw [← Int.natCast_add]
        exact dword_any HD.out hfo (a + y) A' (cut m y 8) c1 hbs' (cut_len hy8) (by have := Hfit.out; omega) (by rw [Hy.out]; exact canB_part Hfit.out hcan.out (by have := Hy.out; omega) fact.len fact.rest))
      have Hnext : Hid (dprogTo d a m (k + 1) = dwordOf f (a + y) (cut m y 8)) := Lib.hid (by rw [dprogTo, Hf.out, if_pos H0.out, Hy.out])
      obtain ⟨r, f2, Hr⟩ : ∃ r f2, Hid (dwordOf f (a + y) (cut m y 8) = (r, f2)) := ⟨_, _, rfl⟩
      rw [Hr.out] at HW Hnext hw2
      have hr05 : r = 0 ∨ r = 5 := hw2.code
      clear hbs' hat' zs1 fact hw2 hstp zs hfs hfo hfl
      rcases hr05 with rfl | rfl
      · go_wp2_with (go_at_call 69; refine (HW.out _).mono ?_; rintro e w2 ⟨rfl, hr2, ho2⟩; have HR2 := Lib.hid hr2; have HO2 := Lib.hid ho2; clear hr2 ho2)
        go_roundw
        case rel => exact ⟨k + 1, y + 8, by omega, Lib.hid (by have := Hy.out; omega), hy8, by go_num, by rw [Hnext.out]; exact Lib.hid rfl, by rw [Hnext.out]; exact HR2, Lib.hid (HO.out.trans (HO2.out))⟩
        case measure => simp [intOf]; omega
      · have Hend : Hid (dprogTo d a m n = (5, f2)) := Lib.hid (by rw [dprogTo_stop (k := k + 1) (by rw [Hnext.out]; simp) n (by omega), Hnext.out])
        go_wp2_with (go_at_call 69; refine (HW.out _).mono ?_; rintro e w2 ⟨rfl, hr2, ho2⟩; have HR2 := Lib.hid hr2; have HO2 := Lib.hid ho2; clear hr2 ho2)
        go_ret
        rw [Hend.out]
        exact ⟨rfl, HR2.out, HO.out.trans HO2.out⟩
    · have hkn : k = n := by have := Hy.out; have := Hn.out; omega
      subst hkn
      go_wp2
      go_ret
      exact ⟨by rw [H0.out]; rfl, HD.out, HO.out⟩

set_option maxHeartbeats 800000 in
theorem dprog_any {g gB gW cB cW N : Nat} {d : Dl} {w : World} (h : DevFl w g gB gW cB cW N d) (ok : DlOk d) (s : Int) (A : Option Addr) (m : List UInt8) (c : Nat) (hm : Bs w A m) (hA : Off (FlF g gB gW) A m) (hc : m.length ≤ c) (hs1 : -9223372036854775808 ≤ s) (hs2 : s ≤ 9223372036854775807) (hmz : m.length ≤ 2147483648) (hst : d.steps + m.length ≤ 4611686018427387904) :
    Calls Try.prog 63 #[.pointer (some ⟨g, 0, none⟩), .int .i64 s, .slice A m.length c] w (DErasePost w g gB gW cB cW N (dprogOf d s m)) := by
  have hlb : d.b.length ≤ 67108864 := by have := ok.len; have := ok.few; omega
  have hpw := dpowered_any h
  unfold dprogOf
  cases hd : d.off with
  | true =>
    rw [hd] at hpw
    rw [if_pos rfl]
    clear hd
    go_enter Try.func63, Try.ntmps63
    go_wp2_with (go_at_call 61; refine hpw.mono ?_; rintro e w' ⟨rfl, rfl⟩)
    go_ret
    exact ⟨rfl, h, Only.refl _ _⟩
  | false =>
    rw [hd] at hpw
    rw [if_neg (by simp)]
    by_cases hin : 0 ≤ s ∧ s + m.length ≤ d.b.length
    · rw [if_neg (not_not_intro hin)]
      obtain ⟨a, rfl⟩ := Int.eq_ofNat_of_zero_le hin.1
      rw [Int.toNat_natCast]
      have hfit : a + m.length ≤ d.b.length := by omega
      have hho := dholds_is (a := (a : Int)) (n := (m.length : Int)) (b := true) h (Lib.hid (decide_eq_true ⟨by omega, by omega, by omega⟩)) (by omega) (by omega) (by omega) (by omega) (by omega)
      by_cases hal : a % 8 ≠ 0 ∨ m.length % 8 ≠ 0
      · rw [if_pos hal]
        have HH := Lib.hid h
        clear hin hd h hm hA
        by_cases h1 : a % 8 ≠ 0
        · have al1 : ((a : Int) % 8 != 0) = true := by simp; omega
          have al3 : ¬ (a : Int) % 8 = 0 := by omega
          have al4 : decide ((a : Int) % 8 = 0) = false := by simp; omega
          clear hal h1
          go_enter Try.func63, Try.ntmps63
          go_wp2_with (first
            | (go_at_call 61; refine hpw.mono ?_; rintro e w' ⟨rfl, rfl⟩)
            | (go_at_call 37; refine hho.mono ?_; rintro e w' ⟨rfl, rfl⟩))
          go_ret
          exact ⟨rfl, HH.out, Only.refl _ _⟩
        · have al1 : (a : Int) % 8 = 0 := by omega
          have al2 : ((m.length : Int) % 8 != 0) = true := by simp; omega
          clear hal h1
          go_enter Try.func63, Try.ntmps63
          go_wp2_with (first
            | (go_at_call 61; refine hpw.mono ?_; rintro e w' ⟨rfl, rfl⟩)
            | (go_at_call 37; refine hho.mono ?_; rintro e w' ⟨rfl, rfl⟩))
          go_ret
          exact ⟨rfl, HH.out, Only.refl _ _⟩
      · rw [if_neg hal]
        cases hcan : canB (cut d.b a m.length) m with
        | true =>
          rw [if_neg (by simp)]
          exact dprog_in h ok a A m c hm hA hc hd hfit (by omega) hcan hst
        | false =>
          rw [if_pos rfl]
          have hcap : d.b.length ≤ cB := h.bytes.cap
          have al1 : (a : Int) % 8 = 0 := by omega
          have al2 : (m.length : Int) % 8 = 0 := by omega
          obtain ⟨AP, cP, hg, -, -⟩ := h.cells
          have c0 : w.cell? ⟨g, 0, none⟩ = some (.slice (some ⟨gB, 0, none⟩) d.b.length cB) := by rw [cell_of_row _ _ _ _ _ _ hg]; rfl
          obtain ⟨o, ho, zs0⟩ := slice_in gB a m.length cB (by omega)
          have zs : ∀ (u : World), (Instr.slice 22 (.slice (some ⟨gB, 0, none⟩) d.b.length cB) (some (.int .i64 (a : Int))) (some (.int .i64 ((a : Int) + (m.length : Int)))) none).run Try.prog u = .ok (.slice (some ⟨gB, o, none⟩) m.length (cB - a)) u := fun u => zs0 d.b.length u
          have hcl : Hid ((cut d.b a m.length).length = m.length) := Lib.hid (cut_len hfit)
          have HCan : Hid (∀ k1, Calls Try.prog 68 #[.slice (some ⟨gB, o, none⟩) m.length k1, .slice A m.length c] w fun e w' => e = .returned (.bool false) ∧ ∃ n, w' = w.drewN n) := Lib.hid (fun k1 => by
            have := can_is (A1 := some ⟨gB, o, none⟩) (A2 := A) (l := cut d.b a m.length) (m := m) (c1 := k1) (c2 := c) hcan (h.bytes.bs.cutAt hfit ho) hm (by rw [hcl.out]; omega)
            rw [hcl.out] at this
            exact this)
          have HH := Lib.hid h
          have Hho := Lib.hid ho
          have haz : a ≤ 67108864 := by omega
          clear hin hd h hm hA hg ho zs0 hal hcan hfit
          go_enter Try.func63, Try.ntmps63
          go_wp2_with (first
            | (go_at_call 61; refine hpw.mono ?_; rintro e w' ⟨rfl, rfl⟩)
            | (go_at_call 37; refine hho.mono ?_; rintro e w' ⟨rfl, rfl⟩)
            | (go_at_call 68; refine (HCan.out _).mono ?_; rintro e w' ⟨rfl, nd, rfl⟩))
          go_ret
          exact ⟨rfl, HH.out.below (below_drewN' (Below.refl _ _) nd), (Only.refl _ _).drewN nd⟩
    · rw [if_pos hin]
      have hho := dholds_is (a := s) (n := (m.length : Int)) (b := false) h (Lib.hid (decide_eq_false (by rintro ⟨q1, -, q3⟩; exact hin ⟨q1, q3⟩))) (by omega) (by omega) (by omega) (by omega) (by omega)
      clear hin hd
      go_enter Try.func63, Try.ntmps63
      go_wp2_with (first
        | (go_at_call 61; refine hpw.mono ?_; rintro e w' ⟨rfl, rfl⟩)
        | (go_at_call 37; refine hho.mono ?_; rintro e w' ⟨rfl, rfl⟩))
      go_ret
      exact ⟨rfl, h, Only.refl _ _⟩
end Go.Proofs.Ytcpkmhhlcmnfdaa

