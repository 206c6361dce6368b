/- The reference's flash in memory: its plain state, the block of its struct, the rows of its bytes and of its counts. -/
import Derived.Test.YtlnpfndjdilfhaaOnly
namespace Go.Proofs.Ytlnpfndjdilfhaa
open Go.RowKit
set_option linter.unusedVariables false

/-- the state of a flash -/
structure Fl where
  b : List UInt8
  worn : List Int
  steps : Int
  left : Int
  pick : List UInt8
  dark : Bool

/-- the slice of counts -/
def Wb (w : World) (g c : Nat) (l : List Int) : Prop := w.ownsRow 0 3 1 (.slice (some ⟨g, 0, none⟩) l.length c) l.length (l.map (Value.int .i64))

structure RefFl (w : World) (g gB gW cB cW N : Nat) (fl : Fl) : Prop where
  cells : ∃ AP cP, w.heap[g]? = some (.cells #[.slice (some ⟨gB, 0, none⟩) fl.b.length cB, .slice (some ⟨gW, 0, none⟩) fl.worn.length cW, .int .i64 fl.steps, .int .i64 fl.left, .slice AP fl.pick.length cP, .bool fl.dark] 35 (0, 0)) ∧
    Bs w AP fl.pick ∧ ∀ k, At AP k → k ≠ g ∧ k ≠ gB ∧ k ≠ gW ∧ N ≤ k
  bytes : Ob 5 w 0 (.slice (some ⟨gB, 0, none⟩) fl.b.length cB) fl.b
  counts : Wb w gW cW fl.worn

/-- the blocks that a call on it may turn -/
def FlF (g gB gW : Nat) (k : Nat) : Prop := k = g ∨ k = gB ∨ k = gW

theorem within_any (a n s : Int) (w : World) (hs : 0 ≤ s) (ha1 : -9223372036854775808 ≤ a) (ha2 : a ≤ 9223372036854775807) (hn1 : -9223372036854775808 ≤ n) (hn2 : n ≤ 9223372036854775807) (hs2 : s ≤ 9223372036854775807) :
    Calls Try.prog 45 #[.int .i64 a, .int .i64 n, .int .i64 s] w fun e w' => e = .returned (.bool (decide (0 ≤ a ∧ 0 ≤ n ∧ a + n ≤ s))) ∧ w = w' := by
  by_cases h1 : 0 ≤ a
  · by_cases h2 : 0 ≤ n
    · by_cases h3 : a ≤ s
      · by_cases h4 : n ≤ s - a
        · have e : decide (0 ≤ a ∧ 0 ≤ n ∧ a + n ≤ s) = true := by simp; omega
          rw [e]
          clear e
          go_enter Try.func45, Try.ntmps45
          go_wp2
          go_ret
          refine ⟨?_, rfl⟩
          first | rfl | (simp; omega)
        · have e : decide (0 ≤ a ∧ 0 ≤ n ∧ a + n ≤ s) = false := by simp; omega
          rw [e]
          clear e
          go_enter Try.func45, Try.ntmps45
          go_wp2
          go_ret
          refine ⟨?_, rfl⟩
          first | rfl | (simp; omega)
      · have e : decide (0 ≤ a ∧ 0 ≤ n ∧ a + n ≤ s) = false := by simp; omega
        rw [e]
        clear e
        go_enter Try.func45, Try.ntmps45
        go_wp2
        go_ret
        refine ⟨?_, rfl⟩
        first | rfl | (simp; omega)
    · have e : decide (0 ≤ a ∧ 0 ≤ n ∧ a + n ≤ s) = false := by simp; omega
      rw [e]
      clear e
      go_enter Try.func45, Try.ntmps45
      go_wp2
      go_ret
      refine ⟨?_, rfl⟩
      first | rfl | (simp; omega)
  · have e : decide (0 ≤ a ∧ 0 ≤ n ∧ a + n ≤ s) = false := by simp; omega
    rw [e]
    clear e
    go_enter Try.func45, Try.ntmps45
    go_wp2
    go_ret
    refine ⟨?_, rfl⟩
    first | rfl | (simp; omega)

theorem Ob.heap {E : TypeId} {w : World} {base g n c : Nat} {l : List UInt8} (h : Ob E w base (.slice (some ⟨g, 0, none⟩) n c) l) : ∃ cur, w.heap[g]? = some (.cells cur E (0, 0)) := by
  rcases h.2 with ⟨h', _⟩ | ⟨g', cap, cur, e, _, hg, _⟩
  · simp at h'
  · injection e with e1 e2 e3
    injection e1 with e1
    injection e1 with e1
    subst e1
    exact ⟨cur, hg⟩
theorem Wb.heap {w : World} {g c : Nat} {l : List Int} (h : Wb w g c l) : ∃ cur, w.heap[g]? = some (.cells cur 3 (0, 0)) := by
  rcases h.2 with ⟨h', _⟩ | ⟨g', cap, cur, e, _, hg, _⟩
  · simp at h'
  · injection e with e1 e2 e3
    injection e1 with e1
    injection e1 with e1
    subst e1
    exact ⟨cur, hg⟩
theorem Wb.only {F : Nat → Prop} {w w' : World} {g c : Nat} {l : List Int} (h : Wb w g c l) (hb : Only F w w') (hA : ¬ F g) : Wb w' g c l := by
  refine ⟨h.1, ?_⟩
  rcases h.2 with hn | ⟨g', cap, cur, e, hb', hg, rest⟩
  · exact .inl hn
  · refine .inr ⟨g', cap, cur, e, hb', ?_, rest⟩
    injection e with e1 e2 e3
    injection e1 with e1
    injection e1 with e1
    subst e1
    rw [hb.block g (Array.getElem?_eq_some_iff.1 hg).1 hA]
    exact hg
theorem types_ne {w : World} {g g' : Nat} {t t' : TypeId} {cs cs' : Array Value} (h : w.heap[g]? = some (.cells cs t (0, 0))) (h' : w.heap[g']? = some (.cells cs' t' (0, 0))) (hne : t ≠ t') : g ≠ g' := by
  rintro rfl
  rw [h] at h'
  injection h' with h'
  injection h' with _ ht
  exact hne ht

theorem RefFl.ne {w : World} {g gB gW cB cW N : Nat} {fl : Fl} (h : RefFl w g gB gW cB cW N fl) : g ≠ gB ∧ g ≠ gW ∧ gB ≠ gW := by
  obtain ⟨AP, cP, hg, _⟩ := h.cells
  obtain ⟨_, h1⟩ := h.bytes.heap
  obtain ⟨_, h2⟩ := h.counts.heap
  exact ⟨types_ne hg h1 (by decide), types_ne hg h2 (by decide), types_ne h1 h2 (by decide)⟩

/-- only the struct's own block has turned, and there only plain fields -/
theorem RefFl.upd {w w' : World} {g gB gW cB cW N : Nat} {fl : Fl} (h : RefFl w g gB gW cB cW N fl) (ho : Only (fun k => k = g) w w') {AP : Option Addr} {cP : Nat} {p : List UInt8} {s f : Int} {d : Bool} (hbp : Bs w' AP p) (hap : ∀ k, At AP k → k ≠ g ∧ k ≠ gB ∧ k ≠ gW ∧ N ≤ k)
    (hg : w'.heap[g]? = some (.cells #[.slice (some ⟨gB, 0, none⟩) fl.b.length cB, .slice (some ⟨gW, 0, none⟩) fl.worn.length cW, .int .i64 s, .int .i64 f, .slice AP p.length cP, .bool d] 35 (0, 0))) :
    RefFl w' g gB gW cB cW N ⟨fl.b, fl.worn, s, f, p, d⟩ := by
  obtain ⟨n1, n2, n3⟩ := h.ne
  exact ⟨⟨AP, cP, hg, hbp, hap⟩, h.bytes.only ho (by rintro k ⟨a, e, rfl⟩; injection e with e; subst e; exact fun e => n1 e.symm), h.counts.only ho (fun e => n2 e.symm)⟩

/-- what a call on other blocks leaves -/
theorem RefFl.only {F : Nat → Prop} {w w' : World} {g gB gW cB cW N : Nat} {fl : Fl} (h : RefFl w g gB gW cB cW N fl) (ho : Only F w w') (h1 : ¬ F g) (h2 : ¬ F gB) (h3 : ¬ F gW) (hP : ∀ AP k, w.cell? ⟨g, 4, none⟩ = some AP → (∃ n c a, AP = .slice (some a) n c ∧ a.block = k) → ¬ F k) : RefFl w' g gB gW cB cW N fl := by
  obtain ⟨AP, cP, hg, hbp, hap⟩ := h.cells
  have c4 : w.cell? ⟨g, 4, none⟩ = some (.slice AP fl.pick.length cP) := by rw [cell_of_row _ _ _ _ _ _ hg]; rfl
  exact ⟨⟨AP, cP, by rw [ho.block g (Array.getElem?_eq_some_iff.1 hg).1 h1]; exact hg, hbp.only ho (by rintro k ⟨a, rfl, e⟩; exact hP _ k c4 ⟨_, _, a, rfl, e⟩), hap⟩,
    h.bytes.only ho (by rintro k ⟨a, e, rfl⟩; injection e with e; subst e; exact h2), h.counts.only ho h3⟩

/-- a step: was it the broken one? -/
def stepOf (fl : Fl) : Bool × Fl :=
  if fl.left < 0 then (false, ⟨fl.b, fl.worn, fl.steps + 1, fl.left, fl.pick, fl.dark⟩)
  else if fl.left - 1 < 0 then (true, ⟨fl.b, fl.worn, fl.steps + 1, fl.left - 1, fl.pick, true⟩)
  else (fl.dark, ⟨fl.b, fl.worn, fl.steps + 1, fl.left - 1, fl.pick, fl.dark⟩)

def StepPost (w : World) (g gB gW cB cW N : Nat) (fl : Fl) (e : Ending) (w' : World) : Prop :=
  e = .returned (.bool (stepOf fl).1) ∧ RefFl w' g gB gW cB cW N (stepOf fl).2 ∧ Only (fun k => k = g) w w'

set_option maxHeartbeats 800000 in
theorem rstep_any {g gB gW cB cW N : Nat} {fl : Fl} {w : World} (h : RefFl w g gB gW cB cW N fl) (hs1 : 0 ≤ fl.steps) (hs2 : fl.steps ≤ 4611686018427387904) (hl1 : -1 ≤ fl.left) (hl2 : fl.left ≤ 4611686018427387904) :
    Calls Try.prog 47 #[.pointer (some ⟨g, 0, none⟩)] w (StepPost w g gB gW cB cW N fl) := by
  obtain ⟨AP, cP, hg, hbp, hap⟩ := h.cells
  have c2 : w.cell? ⟨g, 2, none⟩ = some (.int .i64 fl.steps) := by rw [cell_of_row _ _ _ _ _ _ hg]; rfl
  have c3 : w.cell? ⟨g, 3, none⟩ = some (.int .i64 fl.left) := by rw [cell_of_row _ _ _ _ _ _ hg]; rfl
  have c5 : w.cell? ⟨g, 5, none⟩ = some (.bool fl.dark) := by rw [cell_of_row _ _ _ _ _ _ hg]; rfl
  have f2 : w.frozen? ⟨g, 2, none⟩ = false := frozen_of_row w g 2 _ _ hg
  have f3 : w.frozen? ⟨g, 3, none⟩ = false := frozen_of_row w g 3 _ _ hg
  have f5 : w.frozen? ⟨g, 5, none⟩ = false := frozen_of_row w g 5 _ _ hg
  have o1 : ∀ v, Only (fun k => k = g) w (w.setCell ⟨g, 2, none⟩ v) := fun v => Only.setCell (p := ⟨g, 2, none⟩) (Only.refl (fun k => k = g) w) (.inl rfl) v
  have o2 : ∀ v u, Only (fun k => k = g) w ((w.setCell ⟨g, 2, none⟩ v).setCell ⟨g, 3, none⟩ u) := fun v u => Only.setCell (p := ⟨g, 3, none⟩) (o1 v) (.inl rfl) u
  have o3 : ∀ v u x, Only (fun k => k = g) w (((w.setCell ⟨g, 2, none⟩ v).setCell ⟨g, 3, none⟩ u).setCell ⟨g, 5, none⟩ x) := fun v u x => Only.setCell (p := ⟨g, 5, none⟩) (o2 v u) (.inl rfl) x
  have hap' : ∀ k, At AP k → ¬ (fun k => k = g) k := fun k hk => (hap k hk).1
  have Hpost1 : Hid (fl.left < 0 → StepPost w g gB gW cB cW N fl (.returned (.bool false)) (w.setCell ⟨g, 2, none⟩ (.int .i64 (fl.steps + 1)))) := Lib.hid (fun hl => by
    unfold StepPost stepOf
    rw [if_pos hl]
    exact ⟨rfl, h.upd (o1 _) (hbp.only (o1 _) hap') hap (heap_setCell_same _ _ _ _ _ _ hg), o1 _⟩)
  have Hpost2 : Hid (¬ fl.left < 0 → fl.left - 1 < 0 → StepPost w g gB gW cB cW N fl (.returned (.bool true)) (((w.setCell ⟨g, 2, none⟩ (.int .i64 (fl.steps + 1))).setCell ⟨g, 3, none⟩ (.int .i64 (fl.left - 1))).setCell ⟨g, 5, none⟩ (.bool true))) := Lib.hid (fun hl hl' => by
    unfold StepPost stepOf
    rw [if_neg hl, if_pos hl']
    exact ⟨rfl, h.upd (o3 _ _ _) (hbp.only (o3 _ _ _) hap') hap (heap_setCell_same _ _ _ _ _ _ (heap_setCell_same _ _ _ _ _ _ (heap_setCell_same _ _ _ _ _ _ hg))), o3 _ _ _⟩)
  have Hpost3 : Hid (¬ fl.left < 0 → ¬ fl.left - 1 < 0 → StepPost w g gB gW cB cW N fl (.returned (.bool fl.dark)) ((w.setCell ⟨g, 2, none⟩ (.int .i64 (fl.steps + 1))).setCell ⟨g, 3, none⟩ (.int .i64 (fl.left - 1)))) := Lib.hid (fun hl hl' => by
    unfold StepPost stepOf
    rw [if_neg hl, if_neg hl']
    exact ⟨rfl, h.upd (o2 _ _) (hbp.only (o2 _ _) hap') hap (heap_setCell_same _ _ _ _ _ _ (heap_setCell_same _ _ _ _ _ _ hg)), o2 _ _⟩)
  clear hg o1 o2 o3 hap hap' hbp h
  by_cases h1 : fl.left < 0
  · go_enter Try.func47, Try.ntmps47
    go_wp2
    go_ret
    exact Hpost1.out h1
  · by_cases h2 : fl.left - 1 < 0
    · go_enter Try.func47, Try.ntmps47
      go_wp2
      go_ret
      exact Hpost2.out h1 h2
    · go_enter Try.func47, Try.ntmps47
      go_wp2
      go_ret
      exact Hpost3.out h1 h2
end Go.Proofs.Ytlnpfndjdilfhaa
