/- The program's flash in memory: its plain state, the block of its struct, the rows of its bytes and of its counts. -/
import Derived.Test.YtlnpfndjdilfhaaRefRead
namespace Go.Proofs.Ytlnpfndjdilfhaa
open Go.RowKit
set_option linter.unusedVariables false

/-- the state of the program's flash -/
structure Dl where
  b : List UInt8
  worn : List Int
  steps : Int
  off : Bool
  armed : Bool
  after : Int
  pick : List UInt8

structure DevFl (w : World) (g gB gW cB cW N : Nat) (d : Dl) : Prop where
  cells : ∃ AP cP, w.heap[g]? = some (.cells #[.slice (some ⟨gB, 0, none⟩) d.b.length cB, .slice (some ⟨gW, 0, none⟩) d.worn.length cW, .int .i64 d.steps, .bool d.off, .bool d.armed, .int .i64 d.after, .slice AP d.pick.length cP] 56 (0, 0)) ∧
    Bs w AP d.pick ∧ ∀ k, At AP k → k ≠ g ∧ k ≠ gB ∧ k ≠ gW ∧ N ≤ k
  bytes : Ob 5 w 0 (.slice (some ⟨gB, 0, none⟩) d.b.length cB) d.b
  counts : Wb w gW cW d.worn

theorem DevFl.ne {w : World} {g gB gW cB cW N : Nat} {d : Dl} (h : DevFl w g gB gW cB cW N d) : g ≠ gB ∧ g ≠ gW ∧ gB ≠ gW := by
  obtain ⟨AP, cP, hg, _⟩ := h.cells
  obtain ⟨_, h1⟩ := h.bytes.heap
  obtain ⟨_, h2⟩ := h.counts.heap
  exact ⟨types_ne hg h1 (by decide), types_ne hg h2 (by decide), types_ne h1 h2 (by decide)⟩
theorem DevFl.blk {w : World} {g gB gW cB cW N : Nat} {d : Dl} (h : DevFl w g gB gW cB cW N d) : g < w.heap.size ∧ gB < w.heap.size ∧ gW < w.heap.size := by
  obtain ⟨AP, cP, hg, _⟩ := h.cells
  obtain ⟨_, h1⟩ := h.bytes.heap
  obtain ⟨_, h2⟩ := h.counts.heap
  exact ⟨(Array.getElem?_eq_some_iff.1 hg).1, (Array.getElem?_eq_some_iff.1 h1).1, (Array.getElem?_eq_some_iff.1 h2).1⟩

/-- only the struct's own block has turned, and there only plain fields -/
theorem DevFl.upd {w w' : World} {g gB gW cB cW N : Nat} {d : Dl} (h : DevFl w g gB gW cB cW N d) (ho : Only (fun k => k = g) w w') {AP : Option Addr} {cP : Nat} {p : List UInt8} {s f : Int} {o a : Bool} (hbp : Bs w' AP p) (hap : ∀ k, At AP k → k ≠ g ∧ k ≠ gB ∧ k ≠ gW ∧ N ≤ k)
    (hg : w'.heap[g]? = some (.cells #[.slice (some ⟨gB, 0, none⟩) d.b.length cB, .slice (some ⟨gW, 0, none⟩) d.worn.length cW, .int .i64 s, .bool o, .bool a, .int .i64 f, .slice AP p.length cP] 56 (0, 0))) :
    DevFl w' g gB gW cB cW N ⟨d.b, d.worn, s, o, a, f, p⟩ := by
  obtain ⟨n1, n2, n3⟩ := h.ne
  exact ⟨⟨AP, cP, hg, hbp, hap⟩, h.bytes.only ho (by rintro k ⟨a, e, rfl⟩; injection e with e; subst e; exact fun e => n1 e.symm), h.counts.only ho (fun e => n2 e.symm)⟩

/-- what a call on other blocks leaves -/
theorem DevFl.only {F : Nat → Prop} {w w' : World} {g gB gW cB cW N : Nat} {d : Dl} (h : DevFl w g gB gW cB cW N d) (ho : Only F w w') (h1 : ¬ F g) (h2 : ¬ F gB) (h3 : ¬ F gW) (hP : ∀ AP k, w.cell? ⟨g, 6, none⟩ = some AP → (∃ n c a, AP = .slice (some a) n c ∧ a.block = k) → ¬ F k) : DevFl w' g gB gW cB cW N d := by
  obtain ⟨AP, cP, hg, hbp, hap⟩ := h.cells
  have c4 : w.cell? ⟨g, 6, none⟩ = some (.slice AP d.pick.length cP) := by rw [cell_of_row _ _ _ _ _ _ hg]; rfl
  exact ⟨⟨AP, cP, by rw [ho.block g (Array.getElem?_eq_some_iff.1 hg).1 h1]; exact hg, hbp.only ho (by rintro k ⟨a, rfl, e⟩; exact hP _ k c4 ⟨_, _, a, rfl, e⟩), hap⟩,
    h.bytes.only ho (by rintro k ⟨a, e, rfl⟩; injection e with e; subst e; exact h2), h.counts.only ho h3⟩
theorem DevFl.below {w w' : World} {g gB gW cB cW N : Nat} {d : Dl} (h : DevFl w g gB gW cB cW N d) (hb : Below w.heap.size w w') : DevFl w' g gB gW cB cW N d :=
  h.only (F := fun _ => False) ⟨hb.os, hb.tape, hb.output, hb.size, fun k hk _ => hb.block k hk⟩ (fun h => h) (fun h => h) (fun h => h) (fun _ _ _ _ h => h)

/-- a step: by which pick was it broken, if so? -/
def dstepOf (d : Dl) : (Option (List UInt8)) × Dl :=
  if d.armed then
    if 0 < d.after then (none, ⟨d.b, d.worn, d.steps + 1, d.off, d.armed, d.after - 1, d.pick⟩)
    else (some d.pick, ⟨d.b, d.worn, d.steps + 1, true, false, 0, []⟩)
  else (none, ⟨d.b, d.worn, d.steps + 1, d.off, d.armed, d.after, d.pick⟩)

def DStepPost (w : World) (g gB gW cB cW N : Nat) (d : Dl) (e : Ending) (w' : World) : Prop :=
  (∃ A c, e = .returned (.tuple #[.slice A ((dstepOf d).1.getD []).length c, .bool (dstepOf d).1.isSome]) ∧ Bs w' A ((dstepOf d).1.getD []) ∧ ∀ k, At A k → k ≠ g ∧ k ≠ gB ∧ k ≠ gW ∧ N ≤ k) ∧ DevFl w' g gB gW cB cW N (dstepOf d).2 ∧ Only (fun k => k = g) w w'

/-- one more plain store into the struct's own block -/
theorem Only.own {g : Nat} {w w' : World} (h : Only (fun k => k = g) w w') (i : Nat) (v : Value) : Only (fun k => k = g) w (w'.setCell ⟨g, i, none⟩ v) := h.setCell (p := ⟨g, i, none⟩) (.inl rfl) v
theorem Bs.own {w w' : World} {g gB gW N : Nat} {A : Option Addr} {l : List UInt8} (h : Bs w A l) (hA : ∀ k, At A k → k ≠ g ∧ k ≠ gB ∧ k ≠ gW ∧ N ≤ k) (ho : Only (fun k => k = g) w w') : Bs w' A l := h.only ho fun k hk => (hA k hk).1

set_option maxHeartbeats 800000 in
theorem dstep_any {g gB gW cB cW N : Nat} {d : Dl} {w : World} (h : DevFl w g gB gW cB cW N d) (hs1 : 0 ≤ d.steps) (hs2 : d.steps ≤ 4611686018427387904) (ha1 : 0 ≤ d.after) (ha2 : d.after ≤ 9223372036854775807) :
    Calls Try.prog 41 #[.pointer (some ⟨g, 0, none⟩)] w (DStepPost w g gB gW cB cW N d) := by
  obtain ⟨AP, cP, hg, hbp, hap⟩ := h.cells
  have c2 : w.cell? ⟨g, 2, none⟩ = some (.int .i64 d.steps) := by rw [cell_of_row _ _ _ _ _ _ hg]; rfl
  have c3 : w.cell? ⟨g, 3, none⟩ = some (.bool d.off) := by rw [cell_of_row _ _ _ _ _ _ hg]; rfl
  have c4 : w.cell? ⟨g, 4, none⟩ = some (.bool d.armed) := by rw [cell_of_row _ _ _ _ _ _ hg]; rfl
  have c5 : w.cell? ⟨g, 5, none⟩ = some (.int .i64 d.after) := by rw [cell_of_row _ _ _ _ _ _ hg]; rfl
  have c6 : w.cell? ⟨g, 6, none⟩ = some (.slice AP d.pick.length cP) := by rw [cell_of_row _ _ _ _ _ _ hg]; rfl
  have f2 : w.frozen? ⟨g, 2, none⟩ = false := frozen_of_row w g 2 _ _ hg
  have f3 : w.frozen? ⟨g, 3, none⟩ = false := frozen_of_row w g 3 _ _ hg
  have f4 : w.frozen? ⟨g, 4, none⟩ = false := frozen_of_row w g 4 _ _ hg
  have f5 : w.frozen? ⟨g, 5, none⟩ = false := frozen_of_row w g 5 _ _ hg
  have f6 : w.frozen? ⟨g, 6, none⟩ = false := frozen_of_row w g 6 _ _ hg
  have o0 := Only.refl (fun k => k = g) w
  cases hd : d.armed with
  | false =>
    have HP : Hid (DStepPost w g gB gW cB cW N d (.returned (.tuple #[.slice none 0 0, .bool false])) (w.setCell ⟨g, 2, none⟩ (.int .i64 (d.steps + 1)))) := Lib.hid (by
      unfold DStepPost dstepOf
      simp only [hd, Bool.false_eq_true, if_false]
      exact ⟨⟨none, 0, rfl, Bs.nil_ _ _, by rintro k ⟨a, e, _⟩; cases e⟩, h.upd (o0.own _ _) (hbp.own hap (o0.own _ _)) hap (by rw [← hd]; exact heap_setCell_same _ _ _ _ _ _ hg), o0.own _ _⟩)
    rw [hd] at c4
    clear hd hg h hbp hap
    go_enter Try.func41, Try.ntmps41
    go_wp2
    go_ret2
    exact HP.out
  | true =>
    by_cases h0 : 0 < d.after
    · have HP : Hid (DStepPost w g gB gW cB cW N d (.returned (.tuple #[.slice none 0 0, .bool false])) ((w.setCell ⟨g, 2, none⟩ (.int .i64 (d.steps + 1))).setCell ⟨g, 5, none⟩ (.int .i64 (d.after - 1)))) := Lib.hid (by
        unfold DStepPost dstepOf
        simp only [hd, h0, if_true]
        exact ⟨⟨none, 0, rfl, Bs.nil_ _ _, by rintro k ⟨a, e, _⟩; cases e⟩, h.upd ((o0.own _ _).own _ _) (hbp.own hap ((o0.own _ _).own _ _)) hap (by rw [← hd]; exact heap_setCell_same _ _ _ _ _ _ (heap_setCell_same _ _ _ _ _ _ hg)), (o0.own _ _).own _ _⟩)
      rw [hd] at c4
      clear hd hg h hbp hap
      go_enter Try.func41, Try.ntmps41
      go_wp2
      go_ret2
      exact HP.out
    · have HP : Hid (DStepPost w g gB gW cB cW N d (.returned (.tuple #[.slice AP d.pick.length cP, .bool true])) (((((w.setCell ⟨g, 2, none⟩ (.int .i64 (d.steps + 1))).setCell ⟨g, 3, none⟩ (.bool true)).setCell ⟨g, 4, none⟩ (.bool false)).setCell ⟨g, 5, none⟩ (.int .i64 0)).setCell ⟨g, 6, none⟩ (.slice none 0 0))) := Lib.hid (by
        unfold DStepPost dstepOf
        simp only [hd, h0, if_true, if_false]
        have o5 := ((((o0.own 2 (.int .i64 (d.steps + 1))).own 3 (.bool true)).own 4 (.bool false)).own 5 (.int .i64 0)).own 6 (.slice none 0 0)
        exact ⟨⟨AP, cP, rfl, hbp.own hap o5, hap⟩, h.upd (AP := none) (cP := 0) (p := []) o5 (Bs.nil_ _ _) (by rintro k ⟨a, e, _⟩; cases e)
          (heap_setCell_same _ _ _ _ _ _ (heap_setCell_same _ _ _ _ _ _ (heap_setCell_same _ _ _ _ _ _ (heap_setCell_same _ _ _ _ _ _ (heap_setCell_same _ _ _ _ _ _ hg))))), o5⟩)
      rw [hd] at c4
      clear hd hg h hbp hap
      go_enter Try.func41, Try.ntmps41
      go_wp2
      go_ret2
      exact HP.out
end Go.Proofs.Ytlnpfndjdilfhaa
