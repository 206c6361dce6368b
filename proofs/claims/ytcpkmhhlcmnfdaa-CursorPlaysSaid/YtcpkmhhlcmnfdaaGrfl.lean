/- The reference's flash in memory: its plain state, the block of its struct, the rows of its bytes and of its counts. The contract of the reference's set: bytes laid at a place. The contract of the reference's Read. The contracts of the reference's Arm, Boot, Spoil, Erases. The contract of the reference's Erase. The contract of the reference's NewFlash. -/
import Derived.Test.YtcpkmhhlcmnfdaaGbase
import Derived.Test.YtcpkmhhlcmnfdaaGref
import Derived.Deep.RegionHeld3
import Derived.IntWalk
import Derived.Deep.RegionLaw
namespace Go.Proofs.Ytcpkmhhlcmnfdaa
open Go.RowKit
set_option linter.unusedVariables false
set_option maxRecDepth 100000

/-- the state of a flash -/
structure Fl where
  b : List UInt8
  worn : List Int
  steps : Int
  left : Int
  pick : List UInt8
  dark : Bool

/-- the slice of counts -/
def Wb (w : World) (g c : Nat) (l : List Int) : Prop := w.ownsRow 0 3 1 (.slice (some ⟨g, 0, none⟩) l.length c) l.length (l.map (Value.int .i64))

structure RefFl (w : World) (g gB gW cB cW N : Nat) (fl : Fl) : Prop where
  cells : ∃ AP cP, w.heap[g]? = some (.cells #[.slice (some ⟨gB, 0, none⟩) fl.b.length cB, .slice (some ⟨gW, 0, none⟩) fl.worn.length cW, .int .i64 fl.steps, .int .i64 fl.left, .slice AP fl.pick.length cP, .bool fl.dark] 33 (0, 0)) ∧
    Bs w AP fl.pick ∧ ∀ k, At AP k → k ≠ g ∧ k ≠ gB ∧ k ≠ gW ∧ N ≤ k
  bytes : Ob 5 w 0 (.slice (some ⟨gB, 0, none⟩) fl.b.length cB) fl.b
  counts : Wb w gW cW fl.worn

/-- the blocks that a call on it may turn -/
def FlF (g gB gW : Nat) (k : Nat) : Prop := k = g ∨ k = gB ∨ k = gW

theorem within_any (a n s : Int) (w : World) (hs : 0 ≤ s) (ha1 : -9223372036854775808 ≤ a) (ha2 : a ≤ 9223372036854775807) (hn1 : -9223372036854775808 ≤ n) (hn2 : n ≤ 9223372036854775807) (hs2 : s ≤ 9223372036854775807) :
    Calls Try.prog 41 #[.int .i64 a, .int .i64 n, .int .i64 s] w fun e w' => e = .returned (.bool (decide (0 ≤ a ∧ 0 ≤ n ∧ a + n ≤ s))) ∧ w = w' := by
  by_cases h1 : 0 ≤ a
  · by_cases h2 : 0 ≤ n
    · by_cases h3 : a ≤ s
      · by_cases h4 : n ≤ s - a
        · have e : decide (0 ≤ a ∧ 0 ≤ n ∧ a + n ≤ s) = true := by simp; omega
          rw [e]
          clear e
          go_enter Try.func41, Try.ntmps41
          go_wp2
          go_ret
          refine ⟨?_, rfl⟩
          first | rfl | (simp; omega)
        · have e : decide (0 ≤ a ∧ 0 ≤ n ∧ a + n ≤ s) = false := by simp; omega
          rw [e]
          clear e
          go_enter Try.func41, Try.ntmps41
          go_wp2
          go_ret
          refine ⟨?_, rfl⟩
          first | rfl | (simp; omega)
      · have e : decide (0 ≤ a ∧ 0 ≤ n ∧ a + n ≤ s) = false := by simp; omega
        rw [e]
        clear e
        go_enter Try.func41, Try.ntmps41
        go_wp2
        go_ret
        refine ⟨?_, rfl⟩
        first | rfl | (simp; omega)
    · have e : decide (0 ≤ a ∧ 0 ≤ n ∧ a + n ≤ s) = false := by simp; omega
      rw [e]
      clear e
      go_enter Try.func41, Try.ntmps41
      go_wp2
      go_ret
      refine ⟨?_, rfl⟩
      first | rfl | (simp; omega)
  · have e : decide (0 ≤ a ∧ 0 ≤ n ∧ a + n ≤ s) = false := by simp; omega
    rw [e]
    clear e
    go_enter Try.func41, Try.ntmps41
    go_wp2
    go_ret
    refine ⟨?_, rfl⟩
    first | rfl | (simp; omega)

theorem Ob.heap {E : TypeId} {w : World} {base g n c : Nat} {l : List UInt8} (h : Ob E w base (.slice (some ⟨g, 0, none⟩) n c) l) : ∃ cur, w.heap[g]? = some (.cells cur E (0, 0)) := by
  rcases h.2 with ⟨h', _⟩ | ⟨g', cap, cur, e, _, hg, _⟩
  · simp at h'
  · injection e with e1 e2 e3
    injection e1 with e1
    injection e1 with e1
    subst e1
    exact ⟨cur, hg⟩
theorem Wb.heap {w : World} {g c : Nat} {l : List Int} (h : Wb w g c l) : ∃ cur, w.heap[g]? = some (.cells cur 3 (0, 0)) := by
  rcases h.2 with ⟨h', _⟩ | ⟨g', cap, cur, e, _, hg, _⟩
  · simp at h'
  · injection e with e1 e2 e3
    injection e1 with e1
    injection e1 with e1
    subst e1
    exact ⟨cur, hg⟩
theorem Wb.only {F : Nat → Prop} {w w' : World} {g c : Nat} {l : List Int} (h : Wb w g c l) (hb : Only F w w') (hA : ¬ F g) : Wb w' g c l := by
  refine ⟨h.1, ?_⟩
  rcases h.2 with hn | ⟨g', cap, cur, e, hb', hg, rest⟩
  · exact .inl hn
  · refine .inr ⟨g', cap, cur, e, hb', ?_, rest⟩
    injection e with e1 e2 e3
    injection e1 with e1
    injection e1 with e1
    subst e1
    rw [hb.block g (Array.getElem?_eq_some_iff.1 hg).1 hA]
    exact hg
theorem types_ne {w : World} {g g' : Nat} {t t' : TypeId} {cs cs' : Array Value} (h : w.heap[g]? = some (.cells cs t (0, 0))) (h' : w.heap[g']? = some (.cells cs' t' (0, 0))) (hne : t ≠ t') : g ≠ g' := by
  rintro rfl
  rw [h] at h'
  injection h' with h'
  injection h' with _ ht
  exact hne ht

theorem RefFl.ne {w : World} {g gB gW cB cW N : Nat} {fl : Fl} (h : RefFl w g gB gW cB cW N fl) : g ≠ gB ∧ g ≠ gW ∧ gB ≠ gW := by
  obtain ⟨AP, cP, hg, _⟩ := h.cells
  obtain ⟨_, h1⟩ := h.bytes.heap
  obtain ⟨_, h2⟩ := h.counts.heap
  exact ⟨types_ne hg h1 (by decide), types_ne hg h2 (by decide), types_ne h1 h2 (by decide)⟩

/-- only the struct's own block has turned, and there only plain fields -/
theorem RefFl.upd {w w' : World} {g gB gW cB cW N : Nat} {fl : Fl} (h : RefFl w g gB gW cB cW N fl) (ho : Only (fun k => k = g) w w') {AP : Option Addr} {cP : Nat} {p : List UInt8} {s f : Int} {d : Bool} (hbp : Bs w' AP p) (hap : ∀ k, At AP k → k ≠ g ∧ k ≠ gB ∧ k ≠ gW ∧ N ≤ k)
    (hg : w'.heap[g]? = some (.cells #[.slice (some ⟨gB, 0, none⟩) fl.b.length cB, .slice (some ⟨gW, 0, none⟩) fl.worn.length cW, .int .i64 s, .int .i64 f, .slice AP p.length cP, .bool d] 33 (0, 0))) :
    RefFl w' g gB gW cB cW N ⟨fl.b, fl.worn, s, f, p, d⟩ := by
  obtain ⟨n1, n2, n3⟩ := h.ne
  exact ⟨⟨AP, cP, hg, hbp, hap⟩, h.bytes.only ho (by rintro k ⟨a, e, rfl⟩; injection e with e; subst e; exact fun e => n1 e.symm), h.counts.only ho (fun e => n2 e.symm)⟩

/-- what a call on other blocks leaves -/
theorem RefFl.only {F : Nat → Prop} {w w' : World} {g gB gW cB cW N : Nat} {fl : Fl} (h : RefFl w g gB gW cB cW N fl) (ho : Only F w w') (h1 : ¬ F g) (h2 : ¬ F gB) (h3 : ¬ F gW) (hP : ∀ AP k, w.cell? ⟨g, 4, none⟩ = some AP → (∃ n c a, AP = .slice (some a) n c ∧ a.block = k) → ¬ F k) : RefFl w' g gB gW cB cW N fl := by
  obtain ⟨AP, cP, hg, hbp, hap⟩ := h.cells
  have c4 : w.cell? ⟨g, 4, none⟩ = some (.slice AP fl.pick.length cP) := by rw [cell_of_row _ _ _ _ _ _ hg]; rfl
  exact ⟨⟨AP, cP, by rw [ho.block g (Array.getElem?_eq_some_iff.1 hg).1 h1]; exact hg, hbp.only ho (by rintro k ⟨a, rfl, e⟩; exact hP _ k c4 ⟨_, _, a, rfl, e⟩), hap⟩,
    h.bytes.only ho (by rintro k ⟨a, e, rfl⟩; injection e with e; subst e; exact h2), h.counts.only ho h3⟩

/-- a step: was it the broken one? -/
def stepOf (fl : Fl) : Bool × Fl :=
  if fl.left < 0 then (false, ⟨fl.b, fl.worn, fl.steps + 1, fl.left, fl.pick, fl.dark⟩)
  else if fl.left - 1 < 0 then (true, ⟨fl.b, fl.worn, fl.steps + 1, fl.left - 1, fl.pick, true⟩)
  else (fl.dark, ⟨fl.b, fl.worn, fl.steps + 1, fl.left - 1, fl.pick, fl.dark⟩)

def StepPost (w : World) (g gB gW cB cW N : Nat) (fl : Fl) (e : Ending) (w' : World) : Prop :=
  e = .returned (.bool (stepOf fl).1) ∧ RefFl w' g gB gW cB cW N (stepOf fl).2 ∧ Only (fun k => k = g) w w'

set_option maxHeartbeats 800000 in
theorem rstep_any {g gB gW cB cW N : Nat} {fl : Fl} {w : World} (h : RefFl w g gB gW cB cW N fl) (hs1 : 0 ≤ fl.steps) (hs2 : fl.steps ≤ 4611686018427387904) (hl1 : -1 ≤ fl.left) (hl2 : fl.left ≤ 4611686018427387904) :
    Calls Try.prog 73 #[.pointer (some ⟨g, 0, none⟩)] w (StepPost w g gB gW cB cW N fl) := by
  obtain ⟨AP, cP, hg, hbp, hap⟩ := h.cells
  have c2 : w.cell? ⟨g, 2, none⟩ = some (.int .i64 fl.steps) := by rw [cell_of_row _ _ _ _ _ _ hg]; rfl
  have c3 : w.cell? ⟨g, 3, none⟩ = some (.int .i64 fl.left) := by rw [cell_of_row _ _ _ _ _ _ hg]; rfl
  have c5 : w.cell? ⟨g, 5, none⟩ = some (.bool fl.dark) := by rw [cell_of_row _ _ _ _ _ _ hg]; rfl
  have f2 : w.frozen? ⟨g, 2, none⟩ = false := frozen_of_row w g 2 _ _ hg
  have f3 : w.frozen? ⟨g, 3, none⟩ = false := frozen_of_row w g 3 _ _ hg
  have f5 : w.frozen? ⟨g, 5, none⟩ = false := frozen_of_row w g 5 _ _ hg
  have o1 : ∀ v, Only (fun k => k = g) w (w.setCell ⟨g, 2, none⟩ v) := fun v => Only.setCell (p := ⟨g, 2, none⟩) (Only.refl (fun k => k = g) w) (.inl rfl) v
  have o2 : ∀ v u, Only (fun k => k = g) w ((w.setCell ⟨g, 2, none⟩ v).setCell ⟨g, 3, none⟩ u) := fun v u => Only.setCell (p := ⟨g, 3, none⟩) (o1 v) (.inl rfl) u
  have o3 : ∀ v u x, Only (fun k => k = g) w (((w.setCell ⟨g, 2, none⟩ v).setCell ⟨g, 3, none⟩ u).setCell ⟨g, 5, none⟩ x) := fun v u x => Only.setCell (p := ⟨g, 5, none⟩) (o2 v u) (.inl rfl) x
  have hap' : ∀ k, At AP k → ¬ (fun k => k = g) k := fun k hk => (hap k hk).1
  have Hpost1 : Hid (fl.left < 0 → StepPost w g gB gW cB cW N fl (.returned (.bool false)) (w.setCell ⟨g, 2, none⟩ (.int .i64 (fl.steps + 1)))) := Lib.hid (fun hl => by
    unfold StepPost stepOf
    rw [if_pos hl]
    exact ⟨rfl, h.upd (o1 _) (hbp.only (o1 _) hap') hap (heap_setCell_same _ _ _ _ _ _ hg), o1 _⟩)
  have Hpost2 : Hid (¬ fl.left < 0 → fl.left - 1 < 0 → StepPost w g gB gW cB cW N fl (.returned (.bool true)) (((w.setCell ⟨g, 2, none⟩ (.int .i64 (fl.steps + 1))).setCell ⟨g, 3, none⟩ (.int .i64 (fl.left - 1))).setCell ⟨g, 5, none⟩ (.bool true))) := Lib.hid (fun hl hl' => by
    unfold StepPost stepOf
    rw [if_neg hl, if_pos hl']
    exact ⟨rfl, h.upd (o3 _ _ _) (hbp.only (o3 _ _ _) hap') hap (heap_setCell_same _ _ _ _ _ _ (heap_setCell_same _ _ _ _ _ _ (heap_setCell_same _ _ _ _ _ _ hg))), o3 _ _ _⟩)
  have Hpost3 : Hid (¬ fl.left < 0 → ¬ fl.left - 1 < 0 → StepPost w g gB gW cB cW N fl (.returned (.bool fl.dark)) ((w.setCell ⟨g, 2, none⟩ (.int .i64 (fl.steps + 1))).setCell ⟨g, 3, none⟩ (.int .i64 (fl.left - 1)))) := Lib.hid (fun hl hl' => by
    unfold StepPost stepOf
    rw [if_neg hl, if_neg hl']
    exact ⟨rfl, h.upd (o2 _ _) (hbp.only (o2 _ _) hap') hap (heap_setCell_same _ _ _ _ _ _ (heap_setCell_same _ _ _ _ _ _ hg)), o2 _ _⟩)
  clear hg o1 o2 o3 hap hap' hbp h
  by_cases h1 : fl.left < 0
  · go_enter Try.func73, Try.ntmps73
    go_wp2
    go_ret
    exact Hpost1.out h1
  · by_cases h2 : fl.left - 1 < 0
    · go_enter Try.func73, Try.ntmps73
      go_wp2
      go_ret
      exact Hpost2.out h1 h2
    · go_enter Try.func73, Try.ntmps73
      go_wp2
      go_ret
      exact Hpost3.out h1 h2
end Go.Proofs.Ytcpkmhhlcmnfdaa

namespace Go.Proofs.Ytcpkmhhlcmnfdaa
open Go.RowKit
set_option linter.unusedVariables false
set_option maxRecDepth 100000

/-- l, with the first k bytes of s laid at a -/
def laidTo (l : List UInt8) (a : Nat) (s : List UInt8) (k : Nat) : List UInt8 := (List.range l.length).map fun i => if a ≤ i ∧ i < a + k then s.getD (i - a) 0 else l.getD i 0
def laid (l : List UInt8) (a : Nat) (s : List UInt8) : List UInt8 := laidTo l a s s.length
theorem laidTo_len (l a s k) : (laidTo l a s k).length = l.length := by simp [laidTo]
theorem laid_len (l a s) : (laid l a s).length = l.length := laidTo_len _ _ _ _
theorem laidTo_get {l : List UInt8} {a : Nat} {s : List UInt8} {k i : Nat} (h : i < l.length) : (laidTo l a s k).getD i 0 = if a ≤ i ∧ i < a + k then s.getD (i - a) 0 else l.getD i 0 := by
  simp only [laidTo]
  rw [getD_map_range _ _ _ h]
theorem laidTo_zero (l a s) : laidTo l a s 0 = l := by
  apply list_ext_getD (laidTo_len _ _ _ _)
  intro i hi
  rw [laidTo_len] at hi
  rw [laidTo_get hi, if_neg (by omega)]
theorem laidTo_step {l : List UInt8} {a : Nat} {s : List UInt8} {k : Nat} (hk : a + k < l.length) : (laidTo l a s k).set (a + k) (s.getD k 0) = laidTo l a s (k + 1) := by
  have := range_set l.length (a + k) (fun i => if a ≤ i ∧ i < a + k then s.getD (i - a) 0 else l.getD i 0) (fun i => if a ≤ i ∧ i < a + (k + 1) then s.getD (i - a) 0 else l.getD i 0) hk (by
    intro i hi
    by_cases h : a ≤ i ∧ i < a + k
    · rw [if_pos h, if_pos (by omega)]
    · rw [if_neg h, if_neg (by omega)])
  have e : a ≤ a + k ∧ a + k < a + (k + 1) := by omega
  have e2 : a + k - a = k := by omega
  simp only [e, and_self, if_true, e2] at this
  exact this

def withB (fl : Fl) (b : List UInt8) : Fl := ⟨b, fl.worn, fl.steps, fl.left, fl.pick, fl.dark⟩

/-- only the row of bytes has turned -/
theorem RefFl.withB {w w' : World} {g gB gW cB cW N : Nat} {fl : Fl} (h : RefFl w g gB gW cB cW N fl) (ho : Only (fun k => k = gB) w w') {b : List UInt8} (hlen : b.length = fl.b.length) (hb : Ob 5 w' 0 (.slice (some ⟨gB, 0, none⟩) fl.b.length cB) b) :
    RefFl w' g gB gW cB cW N (withB fl b) := by
  obtain ⟨n1, n2, n3⟩ := h.ne
  obtain ⟨AP, cP, hg, hbp, hap⟩ := h.cells
  refine ⟨⟨AP, cP, ?_, hbp.only ho (fun k hk => (hap k hk).2.1), hap⟩, ?_, h.counts.only ho (fun e => n3 e.symm)⟩
  · rw [ho.block g (Array.getElem?_eq_some_iff.1 hg).1 n1]
    have e : (Ytcpkmhhlcmnfdaa.withB fl b).b.length = fl.b.length := hlen
    rw [e]
    exact hg
  · show Ob _ _ _ (.slice _ b.length cB) b
    rw [hlen]
    exact hb

def SetPost (w : World) (g gB gW cB cW N : Nat) (fl : Fl) (a : Nat) (s : List UInt8) (e : Ending) (w' : World) : Prop :=
  e = .returned (.tuple #[]) ∧ RefFl w' g gB gW cB cW N (withB fl (laid fl.b a s)) ∧ Only (fun k => k = gB) w w'

set_option maxHeartbeats 800000 in
theorem rset_any {g gB gW cB cW N : Nat} {fl : Fl} {w : World} (h : RefFl w g gB gW cB cW N fl) (a : Nat) (A : Option Addr) (s : List UInt8) (c : Nat) (hs : Bs w A s) (hA : 0 < s.length → ∀ k, At A k → k ≠ gB) (hfit : a + s.length ≤ fl.b.length) (hlen : fl.b.length ≤ 2147483648) :
    Calls Try.prog 74 #[.pointer (some ⟨g, 0, none⟩), .int .i64 (a : Int), .slice A s.length c] w (SetPost w g gB gW cB cW N fl a s) := by
  obtain ⟨AP, cP, hg, -, -⟩ := h.cells
  obtain ⟨n1, n2, n3⟩ := h.ne
  have c0 : w.cell? ⟨g, 0, none⟩ = some (.slice (some ⟨gB, 0, none⟩) fl.b.length cB) := by rw [cell_of_row _ _ _ _ _ _ hg]; rfl
  have Hg := Lib.hid hg
  clear hg
  have Hob := Lib.hid h.bytes
  have hbnd := h.bytes
  go_enter Try.func74, Try.ntmps74
  go_wp2
  go_loopw [6] (fun i wr => ∃ k : Nat, k ≤ s.length ∧ i = .int .i64 k ∧ Ob 5 wr 0 (.slice (some ⟨gB, 0, none⟩) fl.b.length cB) (laidTo fl.b a s k) ∧ Only (fun k => k = gB) w wr) (fun i _ => s.length - (intOf i).toNat)
  case atStart => exact ⟨0, Nat.zero_le _, rfl, by rw [laidTo_zero]; exact Hob.out, Only.refl _ _⟩
  case round =>
    obtain ⟨k, hk, rfl, hown, hon⟩ := hrel
    by_cases hlt : k < s.length
    · have hlb : a + k < fl.b.length := by omega
      obtain ⟨b1, o1, e1, hc1⟩ := hown.bs.at_ (k := a + k) (by rw [laidTo_len]; exact hlb)
      injection e1 with e1
      injection e1 with e1 e2
      subst e1
      subst e2
      rw [Nat.zero_add] at hc1
      obtain ⟨b3, o3, rfl, hc3⟩ := (hs.only hon (hA (by omega))).at_ hlt
      have c0' : wr.cell? ⟨g, 0, none⟩ = some (.slice (some ⟨gB, 0, none⟩) fl.b.length cB) := by
        rw [World.cell?_of_block (hon.block g (World.block_lt_of_cell? w _ c0) n1)]; exact c0
      have hfr : wr.frozen? ⟨gB, a + k, none⟩ = false := hown.frozen _
      have hst := hown.set_ (a + k) (s.getD k 0)
      rw [laidTo_step hlb] at hst
      have hon2 : Only (fun k => k = gB) w (wr.setCell ⟨gB, a + k, none⟩ (bval (s.getD k 0))) := Only.setCell (p := ⟨gB, a + k, none⟩) hon (.inl rfl) _
      generalize s.getD k 0 = x at *
      generalize (laidTo fl.b a s k).getD (a + k) 0 = y at *
      have Hst := Lib.hid hst
      have Hon := Lib.hid hon2
      clear hst hon2 hown hon hs hbnd h
      go_wp2_with fail
      go_region
      go_wp2_with fail
      go_roundw
      case rel => exact ⟨k + 1, by omega, by go_num, Ob.drewN Hst.out 1, Hon.out.drew⟩
      case measure => simp [intOf]; omega
    · have hkk : k = s.length := by omega
      subst hkk
      have HP : Hid (SetPost w g gB gW cB cW N fl a s (.returned (.tuple #[])) wr) := Lib.hid ⟨rfl, h.withB hon (laid_len _ _ _) hown, hon⟩
      clear hown hon hs hbnd h
      go_wp2
      go_end0
      exact HP.out
end Go.Proofs.Ytcpkmhhlcmnfdaa

namespace Go.Proofs.Ytcpkmhhlcmnfdaa
open Go.RowKit
set_option linter.unusedVariables false
set_option maxRecDepth 100000

/-- n bytes from a on -/
def cut (l : List UInt8) (a n : Nat) : List UInt8 := (l.drop a).take n
theorem cut_len {l : List UInt8} {a n : Nat} (h : a + n ≤ l.length) : (cut l a n).length = n := by simp [cut]; omega
theorem cut_get {l : List UInt8} {a n i : Nat} (h : i < n) : (cut l a n).getD i 0 = l.getD (a + i) 0 := by
  simp [cut, List.getD, h, List.getElem?_drop]
theorem Bs.cut {w : World} {g : Nat} {l : List UInt8} (h : Bs w (some ⟨g, 0, none⟩) l) {a n : Nat} (hf : a + n ≤ l.length) : Bs w (some ⟨g, a, none⟩) (cut l a n) := fun hl => by
  rw [cut_len hf] at hl
  obtain ⟨b, o, e, hc⟩ := h (by omega)
  injection e with e
  injection e with e1 e2
  subst e1
  subst e2
  refine ⟨g, a, rfl, fun j hj => ?_⟩
  rw [cut_len hf] at hj
  rw [cut_get hj]
  have := hc (a + j) (by omega)
  rwa [Nat.zero_add] at this

def readOf (fl : Fl) (a n : Int) : List UInt8 × Int :=
  if fl.dark then ([], 5) else if 0 ≤ a ∧ 0 ≤ n ∧ a + n ≤ fl.b.length then (cut fl.b a.toNat n.toNat, 0) else ([], 2)

def ReadPost (w : World) (r : List UInt8 × Int) (e : Ending) (w' : World) : Prop :=
  ∃ v, e = .returned (.tuple #[v, .int .i64 r.2]) ∧ Ob 5 w' w.heap.size v r.1 ∧ Below w.heap.size w w'

theorem within_is {a n s : Int} {b : Bool} {w : World} (H : Hid (decide (0 ≤ a ∧ 0 ≤ n ∧ a + n ≤ s) = b)) (hs : 0 ≤ s) (ha1 : -9223372036854775808 ≤ a) (ha2 : a ≤ 9223372036854775807) (hn1 : -9223372036854775808 ≤ n) (hn2 : n ≤ 9223372036854775807) (hs2 : s ≤ 9223372036854775807) :
    Calls Try.prog 41 #[.int .i64 a, .int .i64 n, .int .i64 s] w fun e w' => e = .returned (.bool b) ∧ w = w' :=
  (within_any a n s w hs ha1 ha2 hn1 hn2 hs2).mono fun _ _ ⟨he, hw⟩ => ⟨by rw [he, H.out], hw⟩

set_option maxHeartbeats 800000 in
theorem rread_any {g gB gW cB cW N : Nat} {fl : Fl} {w : World} (h : RefFl w g gB gW cB cW N fl) (a n : Int) (ha1 : -9223372036854775808 ≤ a) (ha2 : a ≤ 9223372036854775807) (hn1 : -9223372036854775808 ≤ n) (hn2 : n ≤ 9223372036854775807) (hlen : fl.b.length ≤ 2147483648) :
    Calls Try.prog 55 #[.pointer (some ⟨g, 0, none⟩), .int .i64 a, .int .i64 n] w (ReadPost w (readOf fl a n)) := by
  obtain ⟨AP, cP, hg, -, -⟩ := h.cells
  have c0 : w.cell? ⟨g, 0, none⟩ = some (.slice (some ⟨gB, 0, none⟩) fl.b.length cB) := by rw [cell_of_row _ _ _ _ _ _ hg]; rfl
  have c5 : w.cell? ⟨g, 5, none⟩ = some (.bool fl.dark) := by rw [cell_of_row _ _ _ _ _ _ hg]; rfl
  clear hg
  have hbs := h.bytes.bs
  have hcap : fl.b.length ≤ cB := by
    rcases h.bytes.2 with ⟨h', _⟩ | ⟨g', cap, cur, e, _, _, hnc, _⟩
    · simp at h'
    · injection e with e1 e2 e3; subst e3; exact hnc
  cases hd : fl.dark with
  | true =>
    have e : readOf fl a n = ([], 5) := by simp [readOf, hd]
    rw [e]
    rw [hd] at c5
    clear e hd
    go_enter Try.func55, Try.ntmps55
    go_wp2
    go_ret2
    exact ⟨_, rfl, Ob.nil_ _ _ _, Below.refl _ _⟩
  | false =>
    rw [hd] at c5
    by_cases hin : 0 ≤ a ∧ 0 ≤ n ∧ a + n ≤ fl.b.length
    · have e : readOf fl a n = (cut fl.b a.toNat n.toNat, 0) := by simp only [readOf, hd]; rw [if_neg (by simp), if_pos hin]
      rw [e]
      clear e hd
      have H : Hid (decide (0 ≤ a ∧ 0 ≤ n ∧ a + n ≤ (fl.b.length : Int)) = true) := Lib.hid (decide_eq_true hin)
      obtain ⟨i1, i2, i3⟩ := hin
      obtain ⟨x, rfl⟩ := Int.eq_ofNat_of_zero_le i1
      obtain ⟨y, rfl⟩ := Int.eq_ofNat_of_zero_le i2
      rw [Int.toNat_natCast, Int.toNat_natCast]
      have hxy : x + y ≤ fl.b.length := by omega
      have hcut := Lib.hid (cut_len (l := fl.b) hxy)
      have hbc : Hid (∀ o, (o = x ∨ y = 0) → Bs w (some ⟨gB, o, none⟩) (cut fl.b x y)) := Lib.hid (fun o ho => by
        rcases ho with rfl | rfl
        · exact hbs.cut hxy
        · intro hl; rw [hcut.out] at hl; omega)
      by_cases hcx : cB = x
      · have hy : y = 0 := by omega
        subst hy
        subst hcx
        go_enter Try.func55, Try.ntmps55
        go_wp2_with fail
        refine (within_is H (by omega) ha1 ha2 hn1 hn2 (by omega)).mono ?_
        rintro e w' ⟨rfl, rfl⟩
        have he : cut fl.b cB 0 = [] := by simp [cut]
        rw [he]
        clear he
        go_wp2_with fail
        go_ret2
        exact ⟨_, rfl, Ob.nil_ _ _ _, Below.refl _ _⟩
      · go_enter Try.func55, Try.ntmps55
        go_wp2_with fail
        refine (within_is H (by omega) ha1 ha2 hn1 hn2 (by omega)).mono ?_
        rintro e w' ⟨rfl, rfl⟩
        go_wp2_with (at_builtin; refine wpList_append_bs rfl (.const (.slice none 0 0)) _ 22 rfl w.heap.size 5 Try.underlying22 info5 _ [] rfl (Ob.nil_ _ _ _) (some ⟨gB, x, none⟩) (cut fl.b x y) _ _ rfl (by rw [hcut.out]; omega) (hbc.out x (.inl rfl)) (by rw [hcut.out]; simp; omega) (Nat.le_refl _) ?_)
        intro v w2 ho hg
        have hb := below_of_grown hg
        clear hg
        go_wp2_with fail
        go_ret2
        exact ⟨_, rfl, ho, hb⟩
    · have e : readOf fl a n = ([], 2) := by simp only [readOf, hd]; rw [if_neg (by simp), if_neg hin]
      rw [e]
      clear e hd
      have H : Hid (decide (0 ≤ a ∧ 0 ≤ n ∧ a + n ≤ (fl.b.length : Int)) = false) := Lib.hid (decide_eq_false hin)
      clear hin
      go_enter Try.func55, Try.ntmps55
      go_wp2_with fail
      refine (within_is H (by omega) ha1 ha2 hn1 hn2 (by omega)).mono ?_
      rintro e w' ⟨rfl, rfl⟩
      go_wp2_with fail
      go_ret2
      exact ⟨_, rfl, Ob.nil_ _ _ _, Below.refl _ _⟩
end Go.Proofs.Ytcpkmhhlcmnfdaa

namespace Go.Proofs.Ytcpkmhhlcmnfdaa
open Go.RowKit
set_option linter.unusedVariables false
set_option maxRecDepth 100000

theorem RefFl.blk {w : World} {g gB gW cB cW N : Nat} {fl : Fl} (h : RefFl w g gB gW cB cW N fl) : g < w.heap.size ∧ gB < w.heap.size ∧ gW < w.heap.size := by
  obtain ⟨AP, cP, hg, _⟩ := h.cells
  obtain ⟨_, h1⟩ := h.bytes.heap
  obtain ⟨_, h2⟩ := h.counts.heap
  exact ⟨(Array.getElem?_eq_some_iff.1 hg).1, (Array.getElem?_eq_some_iff.1 h1).1, (Array.getElem?_eq_some_iff.1 h2).1⟩

def StatePost (w : World) (g gB gW cB cW N : Nat) (F : Nat → Prop) (v : Value) (fl : Fl) (e : Ending) (w' : World) : Prop :=
  e = .returned v ∧ RefFl w' g gB gW cB cW N fl ∧ Only F w w'

set_option maxHeartbeats 800000 in
theorem rboot_any {g gB gW cB cW N : Nat} {fl : Fl} {w : World} (h : RefFl w g gB gW cB cW N fl) :
    Calls Try.prog 26 #[.pointer (some ⟨g, 0, none⟩)] w (StatePost w g gB gW cB cW N (fun k => k = g) (.tuple #[]) ⟨fl.b, fl.worn, fl.steps, -1, [], false⟩) := by
  obtain ⟨AP, cP, hg, hbp, hap⟩ := h.cells
  have c3 : w.cell? ⟨g, 3, none⟩ = some (.int .i64 fl.left) := by rw [cell_of_row _ _ _ _ _ _ hg]; rfl
  have c4 : w.cell? ⟨g, 4, none⟩ = some (.slice AP fl.pick.length cP) := by rw [cell_of_row _ _ _ _ _ _ hg]; rfl
  have c5 : w.cell? ⟨g, 5, none⟩ = some (.bool fl.dark) := by rw [cell_of_row _ _ _ _ _ _ hg]; rfl
  have f3 : w.frozen? ⟨g, 3, none⟩ = false := frozen_of_row w g 3 _ _ hg
  have f4 : w.frozen? ⟨g, 4, none⟩ = false := frozen_of_row w g 4 _ _ hg
  have f5 : w.frozen? ⟨g, 5, none⟩ = false := frozen_of_row w g 5 _ _ hg
  have o1 : ∀ v, Only (fun k => k = g) w (w.setCell ⟨g, 5, none⟩ v) := fun v => Only.setCell (p := ⟨g, 5, none⟩) (Only.refl (fun k => k = g) w) (.inl rfl) v
  have o2 : ∀ v u, Only (fun k => k = g) w ((w.setCell ⟨g, 5, none⟩ v).setCell ⟨g, 3, none⟩ u) := fun v u => Only.setCell (p := ⟨g, 3, none⟩) (o1 v) (.inl rfl) u
  have o3 : ∀ v u x, Only (fun k => k = g) w (((w.setCell ⟨g, 5, none⟩ v).setCell ⟨g, 3, none⟩ u).setCell ⟨g, 4, none⟩ x) := fun v u x => Only.setCell (p := ⟨g, 4, none⟩) (o2 v u) (.inl rfl) x
  have Hpost : Hid (StatePost w g gB gW cB cW N (fun k => k = g) (.tuple #[]) ⟨fl.b, fl.worn, fl.steps, -1, [], false⟩ (.returned (.tuple #[])) (((w.setCell ⟨g, 5, none⟩ (.bool false)).setCell ⟨g, 3, none⟩ (.int .i64 (-1))).setCell ⟨g, 4, none⟩ (.slice none 0 0))) := Lib.hid
    ⟨rfl, h.upd (AP := none) (cP := 0) (p := []) (o3 _ _ _) (Bs.nil_ _ _) (by rintro k ⟨a, e, _⟩; cases e) (heap_setCell_same _ _ _ _ _ _ (heap_setCell_same _ _ _ _ _ _ (heap_setCell_same _ _ _ _ _ _ hg))), o3 _ _ _⟩
  clear hg o1 o2 o3 hap hbp h
  go_enter Try.func26, Try.ntmps26
  go_wp2
  go_end0
  exact Hpost.out

set_option maxHeartbeats 800000 in
theorem rarm_any {g gB gW cB cW N : Nat} {fl : Fl} {w : World} (h : RefFl w g gB gW cB cW N fl) (n : Int) (A : Option Addr) (p : List UInt8) (c : Nat) (hp : Bs w A p) (hlen : p.length ≤ 2147483648) (hN : N ≤ w.heap.size) :
    Calls Try.prog 24 #[.pointer (some ⟨g, 0, none⟩), .int .i64 n, .slice A p.length c] w (StatePost w g gB gW cB cW N (fun k => k = g) (.tuple #[]) ⟨fl.b, fl.worn, fl.steps, (if n < -1 then -1 else if 4611686018427387904 < n then 4611686018427387904 else n), p, fl.dark⟩) := by
  obtain ⟨AP, cP, hg, hbp, hap⟩ := h.cells
  obtain ⟨n1, n2, n3⟩ := h.ne
  obtain ⟨z1, z2, z3⟩ := h.blk
  have c3 : w.cell? ⟨g, 3, none⟩ = some (.int .i64 fl.left) := by rw [cell_of_row _ _ _ _ _ _ hg]; rfl
  have f3 : w.frozen? ⟨g, 3, none⟩ = false := frozen_of_row w g 3 _ _ hg
  obtain ⟨q, Hq⟩ : ∃ q, Hid ((if n < -1 then -1 else if 4611686018427387904 < n then 4611686018427387904 else n) = q) := ⟨_, rfl⟩
  rw [Hq.out]
  have Hcap : Hid (∀ W : World, Calls Try.prog 35 #[.int .i64 n, .int .i64 (-1), .int .i64 4611686018427387904] W fun e w' => e = .returned (.int .i64 q) ∧ W = w') := Lib.hid (fun W => by
    rw [← Hq.out]
    exact (cap_any n (-1) 4611686018427387904 W).mono fun e w' ⟨he, hw⟩ => ⟨he, hw.symm⟩)
  have o1 : Only (fun k => k = g) w (w.setCell ⟨g, 3, none⟩ (.int .i64 q)) := Only.setCell (p := ⟨g, 3, none⟩) (Only.refl (fun k => k = g) w) (.inl rfl) _
  have hp1 : Hid (Bs w A p) := hp
  have hg1 := heap_setCell_same w g 3 _ _ (.int .i64 q) hg
  have HG := Lib.hid hg1
  have H1 := Lib.hid o1
  have HH := Lib.hid h
  have hp2 : Hid ((∀ k, At A k → ¬ k = g) ∨ True) := .inr trivial
  have HB : Hid (Bs (w.setCell ⟨g, 3, none⟩ (.int .i64 q)) A p) := Lib.hid (fun hl => by
    obtain ⟨b, o, e, hc⟩ := hp hl
    refine ⟨b, o, e, fun j hj => ?_⟩
    have hcj := hc j hj
    by_cases hb : b = g
    · subst hb
      rw [cell_of_row _ _ _ _ _ _ hg] at hcj
      exact absurd hcj (by
        rcases o + j with _ | _ | _ | _ | _ | _ | x <;> simp)
    · rw [World.cell?_of_block (H1.out.block b (World.block_lt_of_cell? w _ hcj) hb)]
      exact hcj)
  clear hg o1 hg1 h hbp hap hp
  go_enter Try.func24, Try.ntmps24
  go_wp2_with fail
  refine (Hcap.out _).mono ?_
  rintro e w' ⟨rfl, rfl⟩
  go_wp2_with (at_builtin; refine wpList_append_bs rfl (.const (.slice none 0 0)) _ 22 rfl w.heap.size 5 Try.underlying22 info5 _ [] rfl (Ob.nil_ _ _ _) A p _ c rfl rfl HB.out (by simp; omega) (by simp [World.setCell]) ?_)
  intro v w3 ho hgr
  obtain ⟨A', c', rfl, hbs, hf⟩ := ho.form
  have o2 : Only (fun k => k = g) w w3 := H1.out.grown hgr (by intro k hk; simp [Value.ownBlock] at hk)
  have hg3 : w3.heap[g]? = _ := (hgr.block g (by simpa [World.setCell] using z1) (by simp [Value.ownBlock])).trans HG.out
  have c4 : w3.cell? ⟨g, 4, none⟩ = some (.slice AP fl.pick.length cP) := by rw [cell_of_row _ _ _ _ _ _ hg3]; rfl
  have f4 : w3.frozen? ⟨g, 4, none⟩ = false := frozen_of_row w3 g 4 _ _ hg3
  have o3 : Only (fun k => k = g) w (w3.setCell ⟨g, 4, none⟩ (.slice A' p.length c')) := Only.setCell (p := ⟨g, 4, none⟩) o2 (.inl rfl) _
  have hA' : ∀ k, At A' k → w.heap.size ≤ k := by
    rintro k ⟨a, rfl, rfl⟩
    rcases hf with hf | ⟨g', hf, hle, _⟩
    · cases hf
    · injection hf with hf; subst hf; exact hle
  have o4 : Only (fun k => k = g) w3 (w3.setCell ⟨g, 4, none⟩ (.slice A' p.length c')) := Only.setCell (p := ⟨g, 4, none⟩) (Only.refl (fun k => k = g) w3) (.inl rfl) _
  have Hpost : Hid (StatePost w g gB gW cB cW N (fun k => k = g) (.tuple #[]) ⟨fl.b, fl.worn, fl.steps, q, p, fl.dark⟩ (.returned (.tuple #[])) (w3.setCell ⟨g, 4, none⟩ (.slice A' p.length c'))) := Lib.hid
    ⟨rfl, HH.out.upd (AP := A') (cP := c') (p := p) o3 (hbs.only o4 (fun k hk e => by have := hA' k hk; omega)) (fun k hk => by have := hA' k hk; omega) (heap_setCell_same _ _ _ _ _ _ hg3), o3⟩
  clear hgr ho o2 hg3 o3 o4 hA' hbs hf
  go_wp2_with fail
  go_end0
  exact Hpost.out

/-- how often a sector was erased -/
def wornAt (l : List Int) (s : Int) : Int := if 0 ≤ s ∧ s < l.length then l.getD s.toNat 0 else 0

theorem Wb.at_ {w : World} {g c : Nat} {l : List Int} (h : Wb w g c l) {k : Nat} (hk : k < l.length) : w.cell? ⟨g, k, none⟩ = some (.int .i64 (l.getD k 0)) := by
  have := World.ownsRow.cellAt h k (by omega)
  rw [this, List.getElem?_map, List.getElem?_eq_getElem hk]
  simp [List.getD, List.getElem?_eq_getElem hk]

end Go.Proofs.Ytcpkmhhlcmnfdaa

namespace Go.Proofs.Ytcpkmhhlcmnfdaa
open Go.RowKit
set_option linter.unusedVariables false
set_option maxRecDepth 100000

def withW (fl : Fl) (l : List Int) : Fl := ⟨fl.b, l, fl.steps, fl.left, fl.pick, fl.dark⟩

/-- only the row of counts has turned -/
theorem RefFl.withW {w w' : World} {g gB gW cB cW N : Nat} {fl : Fl} (h : RefFl w g gB gW cB cW N fl) (ho : Only (fun k => k = gW) w w') {l : List Int} (hlen : l.length = fl.worn.length) (hb : Wb w' gW cW l) :
    RefFl w' g gB gW cB cW N (withW fl l) := by
  obtain ⟨n1, n2, n3⟩ := h.ne
  obtain ⟨AP, cP, hg, hbp, hap⟩ := h.cells
  refine ⟨⟨AP, cP, ?_, hbp.only ho (fun k hk => (hap k hk).2.2.1), hap⟩, h.bytes.only ho (by rintro k ⟨a, e, rfl⟩; injection e with e; subst e; exact n3), hb⟩
  rw [ho.block g (Array.getElem?_eq_some_iff.1 hg).1 n2]
  have e : (Ytcpkmhhlcmnfdaa.withW fl l).worn.length = fl.worn.length := hlen
  rw [e]
  exact hg

theorem Wb.set_ {w : World} {g c : Nat} {l : List Int} (h : Wb w g c l) (k : Nat) (x : Int) : Wb (w.setCell ⟨g, k, none⟩ (.int .i64 x)) g c (l.set k x) := by
  have := (World.ownsRow.stored h k (.int .i64 x)).1
  unfold Wb
  rw [List.map_set, List.length_set]
  exact this
theorem Wb.frozen {w : World} {g c : Nat} {l : List Int} (h : Wb w g c l) (k : Nat) : w.frozen? ⟨g, k, none⟩ = false := World.ownsRow.frozenAt h k

/-- Erase, of a sector that there is, with power on -/
def eraseIn (fl : Fl) (x : Nat) : Int × Fl :=
  match stepOf (withW fl (fl.worn.set x (fl.worn.getD x 0 + 1))) with
  | (true, f) => (5, ⟨laid f.b (1024 * x) (halfB (cut f.b (1024 * x) 1024) f.pick), f.worn, f.steps, f.left, [], f.dark⟩)
  | (false, f) => (0, withB f (laid f.b (1024 * x) (List.replicate 1024 255)))
def eraseOf (fl : Fl) (s : Int) : Int × Fl :=
  if fl.dark then (5, fl) else if 0 ≤ s ∧ s < fl.worn.length then eraseIn fl s.toNat else (2, fl)

/-- what is asked of a flash's numbers -/
structure FlOk (fl : Fl) : Prop where
  len : fl.b.length = 1024 * fl.worn.length
  few : fl.worn.length ≤ 65536
  worn : ∀ x ∈ fl.worn, 0 ≤ x ∧ x ≤ 4611686018427387904
  s0 : 0 ≤ fl.steps
  s1 : fl.steps ≤ 4611686018427387904
  l0 : -1 ≤ fl.left
  l1 : fl.left ≤ 4611686018427387904
  p : fl.pick.length ≤ 2147483648

def ErasePost (w : World) (g gB gW cB cW N : Nat) (r : Int × Fl) (e : Ending) (w' : World) : Prop :=
  e = .returned (.int .i64 r.1) ∧ RefFl w' g gB gW cB cW N r.2 ∧ Only (FlF g gB gW) w w'

theorem Only.toF {w w' : World} {g gB gW : Nat} {F : Nat → Prop} (h : Only F w w') (hF : ∀ k, F k → k = g ∨ k = gB ∨ k = gW) : Only (FlF g gB gW) w w' := h.mono fun k _ hk => hF k hk

theorem RefFl.below {w w' : World} {g gB gW cB cW N : Nat} {fl : Fl} (h : RefFl w g gB gW cB cW N fl) (hb : Below w.heap.size w w') : RefFl w' g gB gW cB cW N fl :=
  h.only (F := fun _ => False) ⟨hb.os, hb.tape, hb.output, hb.size, fun k hk _ => hb.block k hk⟩ (fun h => h) (fun h => h) (fun h => h) (fun _ _ _ _ h => h)

theorem Ob.fresh {E : TypeId} {w : World} {base : Nat} {A : Option Addr} {n c : Nat} {l : List UInt8} (h : Ob E w base (.slice A n c) l) : ∀ k, At A k → base ≤ k := by
  obtain ⟨A', c', e, _, hf⟩ := h.form
  injection e with e1 e2 e3
  subst e1
  rintro k ⟨a, rfl, rfl⟩
  rcases hf with hf | ⟨g', hf, hle, _⟩
  · cases hf
  · injection hf with hf; subst hf; exact hle

/-- a part of a row of bytes -/
theorem slice_at (u : World) (g o y z n c : Nat) (hyz : y ≤ z) (hzc : z ≤ c) (hne : ¬ c = y) :
    (Instr.slice 22 (.slice (some ⟨g, o, none⟩) n c) (some (.int .i64 (y : Int))) (some (.int .i64 (z : Int))) none).run Try.prog u = .ok (.slice (some ⟨g, o + y, none⟩) (z - y) (c - y)) u := by
  have ht : Try.prog.underlying 22 = some (.slice (Try.prog.elem 22)) := by kernel_rfl
  have hs : ∀ W : World, (sizeOf (Try.prog.elem 22)).run Try.prog W = .ok 1 W := fun W => by kernel_rfl
  rw [run_slice_lh u _ _ _ _ ht _ _ _ _ (by omega) (by omega) (by omega), hs]
  simp only [Result.andThen, sliced, Int.toNat_natCast, if_neg hne, Option.map_some, Nat.mul_one]
  rw [addr_add]

theorem stepOf_b (f : Fl) : (stepOf f).2.b = f.b ∧ (stepOf f).2.worn = f.worn ∧ (stepOf f).2.pick = f.pick := by
  unfold stepOf
  split
  · exact ⟨rfl, rfl, rfl⟩
  · split <;> exact ⟨rfl, rfl, rfl⟩
theorem rstep_is {g gB gW cB cW N : Nat} {fl f2 : Fl} {t : Bool} {w : World} (h : RefFl w g gB gW cB cW N fl) (H : Hid (stepOf fl = (t, f2))) (hs1 : 0 ≤ fl.steps) (hs2 : fl.steps ≤ 4611686018427387904) (hl1 : -1 ≤ fl.left) (hl2 : fl.left ≤ 4611686018427387904) :
    Calls Try.prog 73 #[.pointer (some ⟨g, 0, none⟩)] w fun e w' => e = .returned (.bool t) ∧ RefFl w' g gB gW cB cW N f2 ∧ Only (fun k => k = g) w w' :=
  (rstep_any h hs1 hs2 hl1 hl2).mono fun e w' ⟨he, hr, ho⟩ => by rw [H.out] at he hr; exact ⟨he, hr, ho⟩

set_option maxRecDepth 100000 in
set_option maxHeartbeats 1600000 in
theorem rerase_in {g gB gW cB cW N : Nat} {fl : Fl} {w : World} (h : RefFl w g gB gW cB cW N fl) (ok : FlOk fl) (x : Nat) (hx : x < fl.worn.length) (hd : fl.dark = false) :
    Calls Try.prog 81 #[.pointer (some ⟨g, 0, none⟩), .int .i64 (x : Int)] w (ErasePost w g gB gW cB cW N (eraseIn fl x)) := by
  obtain ⟨AP, cP, hg, hbp, hap⟩ := h.cells
  obtain ⟨n1, n2, n3⟩ := h.ne
  have c1 : w.cell? ⟨g, 1, none⟩ = some (.slice (some ⟨gW, 0, none⟩) fl.worn.length cW) := by rw [cell_of_row _ _ _ _ _ _ hg]; rfl
  have c5 : w.cell? ⟨g, 5, none⟩ = some (.bool false) := by rw [cell_of_row _ _ _ _ _ _ hg, ← hd]; rfl
  have cx := h.counts.at_ hx
  have fx := h.counts.frozen x
  have hwx : 0 ≤ fl.worn.getD x 0 ∧ fl.worn.getD x 0 ≤ 4611686018427387904 := by
    have := ok.worn fl.worn[x] (List.getElem_mem hx)
    simpa [List.getD, List.getElem?_eq_getElem hx] using this
  unfold eraseIn
  obtain ⟨v, Hv⟩ : ∃ v, Hid (fl.worn.getD x 0 = v) := ⟨_, rfl⟩
  rw [Hv.out] at cx hwx ⊢
  have hst := h.counts.set_ x (v + 1)
  have o1 : Only (fun k => k = gW) w (w.setCell ⟨gW, x, none⟩ (.int .i64 (v + 1))) := Only.setCell (p := ⟨gW, x, none⟩) (Only.refl (fun k => k = gW) w) (.inl rfl) _
  obtain ⟨fl1, Hfl1⟩ : ∃ f, Hid (withW fl (fl.worn.set x (v + 1)) = f) := ⟨_, rfl⟩
  rw [Hfl1.out]
  have h1 : Hid (RefFl (w.setCell ⟨gW, x, none⟩ (.int .i64 (v + 1))) g gB gW cB cW N fl1) := Lib.hid (by
    have := h.withW o1 (l := fl.worn.set x (v + 1)) (by simp) hst
    rw [Hfl1.out] at this
    exact this)
  have O1 := Lib.hid o1
  have hfew := ok.few
  have hlen := ok.len
  obtain ⟨y, hy⟩ : ∃ y : Nat, (x : Int) * 1024 = (y : Int) := ⟨x * 1024, by omega⟩
  have hyb : y + 1024 ≤ fl.b.length := by omega
  have hyx : 1024 * x = y := by omega
  have Hyx := Lib.hid hyx
  have Hlen := Lib.hid hlen
  have OK := Lib.hid ok
  rw [hyx]
  have k0 : 0 ≤ fl1.steps ∧ fl1.steps ≤ 4611686018427387904 ∧ -1 ≤ fl1.left ∧ fl1.left ≤ 4611686018427387904 := by
    rw [← Hfl1.out]; exact ⟨ok.s0, ok.s1, ok.l0, ok.l1⟩
  obtain ⟨k1, k2, k3, k4⟩ := k0
  have hp1 : fl.pick.length ≤ 2147483648 := ok.p
  have hfb : fl1.b = fl.b ∧ fl1.pick = fl.pick := by rw [← Hfl1.out]; exact ⟨rfl, rfl⟩
  obtain ⟨t, f2, Hst⟩ : ∃ t f2, Hid (stepOf fl1 = (t, f2)) := ⟨_, _, rfl⟩
  have hf2 := stepOf_b fl1
  rw [Hst.out] at hf2 ⊢
  obtain ⟨e1, -, e3⟩ := hf2
  have hb2 : Hid (f2.b = fl.b) := e1.trans hfb.1
  have hp2 : Hid (f2.pick = fl.pick) := e3.trans hfb.2
  have hyb2 : y + 1024 ≤ f2.b.length := by rw [hb2.out]; exact hyb
  have hlb2 : f2.b.length ≤ 2147483648 := by rw [hb2.out]; omega
  have hpl2 : f2.pick.length ≤ 2147483648 := by rw [hp2.out]; exact hp1
  obtain ⟨bl, Hbl⟩ : ∃ l, Hid (List.replicate 1024 (255 : UInt8) = l) := ⟨_, rfl⟩
  rw [Hbl.out]
  have HBL : Hid (∀ W : World, Calls Try.prog 36 #[.int .i64 1024] W (RetOb 5 W bl)) := Lib.hid (fun W => by
    refine (rblank_any 1024 W (by omega) (by omega)).mono fun e w' ⟨v, he, ho, hb⟩ => ⟨v, he, ?_, hb⟩
    have e1 : (max 0 (min (1024 : Int) 65536)).toNat = 1024 := by decide
    rw [e1, Hbl.out] at ho
    exact ho)
  have Hbln : Hid (bl.length = 1024) := Lib.hid (by rw [← Hbl.out, List.length_replicate])
  clear hyx hlen ok hst o1 hg hbp hap h e1 e3 hfb
  cases t with
  | false =>
    go_enter Try.func81, Try.ntmps81
    go_wp2_with fail
    refine (rstep_is h1.out Hst k1 k2 k3 k4).mono ?_
    rintro e w1 ⟨rfl, hr, ho⟩
    have O2 : Hid (Only (FlF g gB gW) w w1) := Lib.hid ((O1.out.toF (fun k hk => .inr (.inr hk))).trans (ho.toF (fun k hk => .inl hk)))
    clear ho
    go_wp2_with fail
    obtain ⟨-, zB, -⟩ := hr.blk
    refine (HBL.out _).mono ?_
    rintro e w2 ⟨v2, rfl, ho2, kb2⟩
    obtain ⟨A2, c2, rfl, q2, -⟩ := ho2.form
    have fr2 : ∀ k, At A2 k → k ≠ gB := fun k hk e => by have := ho2.fresh k hk; omega
    clear ho2
    rw [Hbln.out]
    go_wp2_with fail
    have HS := rset_any (hr.below kb2) y A2 bl c2 q2 (fun _ => fr2) (by rw [Hbln.out]; exact hyb2) hlb2
    rw [Hbln.out] at HS
    refine HS.mono ?_
    clear HS
    rintro e w3 ⟨rfl, hr3, ho3⟩
    have O3 : Hid (Only (FlF g gB gW) w w3) := Lib.hid ((O2.out.trans (Only.of_below kb2)).trans (ho3.toF (fun k hk => .inr (.inl hk))))
    go_wp2_with fail
    go_ret
    exact ⟨rfl, hr3, O3.out⟩
  | true =>
    go_enter Try.func81, Try.ntmps81
    go_wp2_with fail
    refine (rstep_is h1.out Hst k1 k2 k3 k4).mono ?_
    rintro e w1 ⟨rfl, hr, ho⟩
    have O2 : Hid (Only (FlF g gB gW) w w1) := Lib.hid ((O1.out.toF (fun k hk => .inr (.inr hk))).trans (ho.toF (fun k hk => .inl hk)))
    clear ho
    obtain ⟨AP, cP, hg, hbp, hap⟩ := hr.cells
    have c0 : w1.cell? ⟨g, 0, none⟩ = some (.slice (some ⟨gB, 0, none⟩) f2.b.length cB) := by rw [cell_of_row _ _ _ _ _ _ hg]; rfl
    have c4 : w1.cell? ⟨g, 4, none⟩ = some (.slice AP f2.pick.length cP) := by rw [cell_of_row _ _ _ _ _ _ hg]; rfl
    have hbB := hr.bytes.bs
    have hcapB : f2.b.length ≤ cB := by
      rcases hr.bytes.2 with ⟨h', _⟩ | ⟨g', cap, cur, e, _, _, hnc, _⟩
      · simp at h'
      · injection e with e1 e2 e3; subst e3; exact hnc
    clear hg
    have L0 : ∀ W, Only (fun k => k = gB) w1 W → W.cell? ⟨g, 0, none⟩ = some (.slice (some ⟨gB, 0, none⟩) f2.b.length cB) := fun W hW => by
      rw [World.cell?_of_block (hW.block g (World.block_lt_of_cell? w1 _ c0) n1)]; exact c0
    have L4 : ∀ W, Only (fun k => k = gB) w1 W → W.cell? ⟨g, 4, none⟩ = some (.slice AP f2.pick.length cP) := fun W hW => by
      rw [World.cell?_of_block (hW.block g (World.block_lt_of_cell? w1 _ c0) n1)]; exact c4
    go_wp2_with fail
    obtain ⟨z, hz⟩ : ∃ z : Nat, z = y + 1024 := ⟨_, rfl⟩
    have z1 : (y : Int) + 1024 = (z : Int) := by omega
    have z2 : IntKind.i64.wrap ((y : Int) + 1024) = (z : Int) := by rw [z1]; exact IntWalk.i64_in _ (by omega)
    have z3 : ¬ cB = y := by omega
    have z9 : IntKind.i64.wrap (z : Int) = (z : Int) := IntWalk.i64_in _ (by omega)
    have z4 : (z : Int) ≤ (cB : Int) := by omega
    have z5 : (y : Int) ≤ (z : Int) := by omega
    have z6 : z ≤ cB := by omega
    have z7 : y ≤ z := by omega
    have z8 : z ≤ f2.b.length := by omega
    have Hz := Lib.hid hz
    have Hyb := Lib.hid hyb
    have Hyb2 := Lib.hid hyb2
    clear hz hyb hyb2 hy
    have zs : ∀ W : World, (Instr.slice 22 (.slice (some ⟨gB, 0, none⟩) f2.b.length cB) (some (.int .i64 (y : Int))) (some (.int .i64 (z : Int))) none).run Try.prog W = .ok (.slice (some ⟨gB, y, none⟩) (z - y) (cB - y)) W := fun W => by
      have := slice_at W gB 0 y z f2.b.length cB z7 z6 z3
      rwa [Nat.zero_add] at this
    have hcl : Hid (z - y = (cut f2.b y 1024).length) := Lib.hid (by rw [cut_len (by have := Hyb2.out; omega), Hz.out]; omega)
    have hbc : Hid (Bs w1 (some ⟨gB, y, none⟩) (cut f2.b y 1024)) := hbB.cut Hyb2.out
    have HH : Hid (∀ W, W = w1.drew → Calls Try.prog 85 #[.slice (some ⟨gB, y, none⟩) (z - y) (cB - y), .slice AP f2.pick.length cP] W (RetOb 5 W (halfB (cut f2.b y 1024) f2.pick))) := Lib.hid (fun W hW => by
      subst hW
      rw [hcl.out]
      exact rhalf_any _ _ _ _ _ _ _ hbc.out hbp (by rw [← hcl.out]; omega) hpl2)
    have Hr := Lib.hid hr
    have zB : Hid (gB < w1.heap.size) := hr.blk.2.1
    have hhl : Hid ((halfB (cut f2.b y 1024) f2.pick).length = 1024) := Lib.hid (by rw [halfB_len, cut_len Hyb2.out])
    obtain ⟨hv, HV⟩ : ∃ l, Hid (halfB (cut f2.b y 1024) f2.pick = l) := ⟨_, rfl⟩
    rw [HV.out] at HH hhl ⊢
    clear hbB hbp hap hr
    go_region_held3 (fun W => Only (fun k => k = gB) w1 W) (first | assumption | exact Only.drew (Only.refl _ _)) (first
      | (go_at_call 85; refine (HH.out _ rfl).mono ?_; rintro e w4 ⟨v4, rfl, ho4, hb4⟩; obtain ⟨A4, c4', rfl, hbs4, hf4⟩ := ho4.form; have kb4 : Only (fun k => k = gB) w1 w4 := Only.of_below ⟨hb4.os, hb4.tape, hb4.output, hb4.size, hb4.block⟩)
      | (go_at_call 74; refine (rset_any (Hr.out.below ⟨hb4.os, hb4.tape, hb4.output, hb4.size, hb4.block⟩) y A4 hv c4' hbs4 (fun _ k hk e => by have := ho4.fresh k hk; have : gB < w1.drew.heap.size := zB.out; omega) (by rw [hhl.out]; exact Hyb2.out) hlb2).mono ?_; rintro e w5 ⟨rfl, hr5, ho5⟩; have kb5 : Only (fun k => k = gB) w1 w5 := kb4.trans ho5))
    obtain ⟨AP5, cP5, hg5, -, -⟩ := hr5.cells
    have c45 : w5.cell? ⟨g, 4, none⟩ = some (.slice AP5 f2.pick.length cP5) := by rw [cell_of_row _ _ _ _ _ _ hg5]; rfl
    have f45 : w5.frozen? ⟨g, 4, none⟩ = false := frozen_of_row w5 g 4 _ _ hg5
    have o6 : Only (fun k => k = g) w5 (w5.setCell ⟨g, 4, none⟩ (.slice none 0 0)) := Only.setCell (p := ⟨g, 4, none⟩) (Only.refl (fun k => k = g) w5) (.inl rfl) _
    have HP : Hid (ErasePost w g gB gW cB cW N (5, ⟨laid f2.b y hv, f2.worn, f2.steps, f2.left, [], f2.dark⟩) (.returned (.int .i64 5)) (w5.setCell ⟨g, 4, none⟩ (.slice none 0 0))) := Lib.hid
      ⟨rfl, hr5.upd (AP := none) (cP := 0) (p := []) o6 (Bs.nil_ _ _) (by rintro k ⟨a, e, _⟩; cases e) (heap_setCell_same _ _ _ _ _ _ hg5), (O2.out.trans (kb5.toF (fun k hk => .inr (.inl hk)))).trans (o6.toF (fun k hk => .inl hk))⟩
    clear hg5 o6 kb5 kb4 ho5 hr5 L0 L4 hb4 ho4 hbs4
    go_wp2_with fail
    go_ret
    rw [HV.out]
    exact HP.out

set_option maxHeartbeats 400000 in
theorem rerase_any {g gB gW cB cW N : Nat} {fl : Fl} {w : World} (h : RefFl w g gB gW cB cW N fl) (ok : FlOk fl) (s : Int) :
    Calls Try.prog 81 #[.pointer (some ⟨g, 0, none⟩), .int .i64 s] w (ErasePost w g gB gW cB cW N (eraseOf fl s)) := by
  unfold eraseOf
  cases hd : fl.dark with
  | true =>
    rw [if_pos rfl]
    obtain ⟨AP, cP, hg, -, -⟩ := h.cells
    have c5 : w.cell? ⟨g, 5, none⟩ = some (.bool true) := by rw [cell_of_row _ _ _ _ _ _ hg, ← hd]; rfl
    clear hg hd
    go_enter Try.func81, Try.ntmps81
    go_wp2_with fail
    go_ret
    exact ⟨rfl, h, Only.refl _ _⟩
  | false =>
    rw [if_neg (by simp)]
    by_cases hin : 0 ≤ s ∧ s < fl.worn.length
    · rw [if_pos hin]
      obtain ⟨x, rfl⟩ := Int.eq_ofNat_of_zero_le hin.1
      rw [Int.toNat_natCast]
      exact rerase_in h ok x (by omega) hd
    · rw [if_neg hin]
      obtain ⟨AP, cP, hg, -, -⟩ := h.cells
      have c5 : w.cell? ⟨g, 5, none⟩ = some (.bool false) := by rw [cell_of_row _ _ _ _ _ _ hg, ← hd]; rfl
      have c1 : w.cell? ⟨g, 1, none⟩ = some (.slice (some ⟨gW, 0, none⟩) fl.worn.length cW) := by rw [cell_of_row _ _ _ _ _ _ hg]; rfl
      clear hg hd
      by_cases hs : s < 0
      · clear hin
        go_enter Try.func81, Try.ntmps81
        go_wp2_with fail
        go_ret
        exact ⟨rfl, h, Only.refl _ _⟩
      · have hs2 : (fl.worn.length : Int) ≤ s := by omega
        clear hin
        go_enter Try.func81, Try.ntmps81
        go_wp2_with fail
        go_ret
        exact ⟨rfl, h, Only.refl _ _⟩
end Go.Proofs.Ytcpkmhhlcmnfdaa

namespace Go.Proofs.Ytcpkmhhlcmnfdaa
open Go.RowKit
set_option linter.unusedVariables false
set_option maxRecDepth 100000

theorem info3 : (Try.prog.info? 3).map (fun i => (i.zero, i.size, i.bytes)) = some (some (.int .i64 0), 1, 8) := by kernel_rfl
theorem make_ints (k : Nat) (hk : k ≤ 2147483648) (u : World) : (Instr.makeSlice 31 (.int .i64 (k : Int)) (.int .i64 (k : Int))).run Try.prog u =
      .ok (.slice (some ⟨u.heap.size, 0, none⟩) k k) (u.alloc (.cells (madeCells #[.int .i64 0] k) 3)) := by
  obtain ⟨i0, hi, hz0, hz1, hz2⟩ := info_parts info3
  have h := run_make (P := Try.prog) u 31 3 i0 (.int .i64 0) Try.underlying31 hi hz0 .i64 .i64 (k : Int) (k : Int) (by omega) (Int.le_refl _) (by rw [hz2]; omega) (by omega)
  simpa [hz1, Value.cells] using h
theorem ints_made (w : World) (k : Nat) (hk : k ≤ 2147483648) : Wb (w.alloc (.cells (madeCells #[.int .i64 0] k) 3)) w.heap.size k (List.replicate k 0) := by
  have h := World.ownsRow_lit (base := 0) (e := 3) (size := 1) w (madeCells #[.int .i64 0] k) k (Nat.zero_le _) (by unfold maxLen; omega) (by simp [size_madeCells])
  unfold Wb
  rw [toList_madeCells_one] at h
  simpa [List.map_replicate] using h

theorem Ob.ne {E : TypeId} {w : World} {base n c g : Nat} {A : Option Addr} {l : List UInt8} {cs : Array Value} {ty : TypeId} (h : Ob E w base (.slice A n c) l) (hg : w.heap[g]? = some (.cells cs ty (0, 0))) (hne : E ≠ ty) : ∀ k, At A k → k ≠ g := by
  rintro k ⟨a, rfl, rfl⟩
  obtain ⟨A', c', e, -, hf⟩ := h.form
  injection e with e1 e2 e3
  subst e1
  rcases hf with hf | ⟨g', hf, -⟩
  · cases hf
  · injection hf with hf
    subst hf
    obtain ⟨cur, hcur⟩ := h.heap
    exact types_ne hcur hg hne
theorem own_at {A : Option Addr} {n c k : Nat} (h : (Value.slice A n c).ownBlock = some k) : At A k := by
  rcases A with _ | a
  · simp [Value.ownBlock] at h
  · simp [Value.ownBlock] at h
    exact ⟨a, rfl, h⟩

/-- k blank sectors -/
def blanks (k : Nat) : List UInt8 := List.replicate (1024 * k) 255
theorem blanks_len (k : Nat) : (blanks k).length = 1024 * k := by simp [blanks]
theorem blanks_succ (k : Nat) : blanks k ++ List.replicate 1024 255 = blanks (k + 1) := by
  unfold blanks
  rw [List.replicate_append_replicate, Nat.mul_succ]

def NewPost (w : World) (n : Nat) (e : Ending) (w' : World) : Prop :=
  ∃ g gB gW cB cW, e = .returned (.pointer (some ⟨g, 0, none⟩)) ∧ (∀ N, RefFl w' g gB gW cB cW N ⟨blanks n, List.replicate n 0, 0, -1, [], false⟩) ∧ Below w.heap.size w w' ∧
    w.heap.size ≤ g ∧ w.heap.size ≤ gB ∧ w.heap.size ≤ gW

set_option maxRecDepth 100000 in
set_option maxHeartbeats 1600000 in
theorem rnew_any (s : Int) (n : Nat) (w : World) (hn : Hid ((if s < 1 then 1 else if 256 < s then 256 else s) = (n : Int))) (hn1 : 1 ≤ n) (hn2 : n ≤ 256) :
    Calls Try.prog 12 #[.int .i64 s] w (NewPost w n) := by
  have Hcap : Hid (∀ W : World, Calls Try.prog 35 #[.int .i64 s, .int .i64 1, .int .i64 256] W fun e w' => e = .returned (.int .i64 (n : Int)) ∧ W = w') := Lib.hid (fun W => by
    rw [← hn.out]
    exact (cap_any s 1 256 W).mono fun e w' ⟨he, hw⟩ => ⟨he, hw.symm⟩)
  have mk : ∀ u : World, (Instr.makeSlice 31 (.int .i64 (n : Int)) (.int .i64 (n : Int))).run Try.prog u = _ := fun u => make_ints n (by omega) u
  go_enter Try.func12, Try.ntmps12
  go_wp2_with fail
  refine (Hcap.out _).mono ?_
  rintro e w' ⟨rfl, rfl⟩
  go_wp2_with fail
  have Hg0 : Hid (w.heap.size + 1 = (w.alloc (.cells (madeCells #[.int .i64 0] n) 3)).heap.size) := Lib.hid (by simp)
  obtain ⟨bl, Hbl⟩ : ∃ l, Hid (List.replicate 1024 (255 : UInt8) = l) := ⟨_, rfl⟩
  have HBL : Hid (∀ W : World, Calls Try.prog 36 #[.int .i64 1024] W (RetOb 5 W bl)) := Lib.hid (fun W => by
    refine (rblank_any 1024 W (by omega) (by omega)).mono fun e w' ⟨v, he, ho, hb⟩ => ⟨v, he, ?_, hb⟩
    have e1 : (max 0 (min (1024 : Int) 65536)).toNat = 1024 := by decide
    rw [e1, Hbl.out] at ho
    exact ho)
  have Hbln : Hid (bl.length = 1024) := Lib.hid (by rw [← Hbl.out, List.length_replicate])
  go_loopw [5] (fun i wr => ∃ (k : Nat) (A : Option Addr) (c : Nat) (r : List UInt8), k ≤ n ∧ i = .int .i64 k ∧ Hid (r = blanks k) ∧
      wr.heap[w.heap.size + 1]? = some (.cells #[.slice A r.length c, .slice (some ⟨w.heap.size, 0, none⟩) n n, .int .i64 0, .int .i64 (-1), .slice none 0 0, .bool false] 33 (0, 0)) ∧
      Ob 5 wr w.heap.size (.slice A r.length c) r ∧ Wb wr w.heap.size n (List.replicate n 0) ∧ Below w.heap.size w wr) (fun i _ => n - (intOf i).toNat)
  case atStart =>
    refine ⟨0, none, 0, [], Nat.zero_le _, rfl, rfl, ?_, Ob.nil_ _ _ _, ?_, ((Below.refl _ _).alloc (Nat.le_refl _) _).alloc (by simp) _⟩
    · rw [Hg0.out]; exact heap_alloc_new _ _
    · exact (ints_made w n (by omega)).only (F := fun _ => False) ((Only.refl _ _).alloc _) (fun h => h)
  case round =>
    obtain ⟨k, A, c, r, hk, rfl, Hr, hg, hown, hwb, hbel⟩ := hrel
    have Hg := Lib.hid hg
    have Hown := Lib.hid hown
    have Hwb := Lib.hid hwb
    have Hbel := Lib.hid hbel
    have hglt : w.heap.size + 1 < wr.heap.size := (Array.getElem?_eq_some_iff.1 hg).1
    by_cases hlt : k < n
    · have c0 : wr.cell? ⟨w.heap.size + 1, 0, none⟩ = some (.slice A r.length c) := by rw [cell_of_row _ _ _ _ _ _ hg]; rfl
      have hrl : r.length ≤ 262144 := by rw [Hr.out, blanks_len]; omega
      have Hgw : Hid (∀ k, At A k → k ≠ w.heap.size) := Lib.hid (by obtain ⟨cur, hcur⟩ := hwb.heap; exact hown.ne hcur (by decide))
      have Hfr : Hid (∀ k, At A k → w.heap.size ≤ k) := Lib.hid hown.fresh
      have hne : ∀ j, (Value.slice A r.length c).ownBlock = some j → j ≠ w.heap.size + 1 := by
        intro j hj
        rcases A with _ | a
        · simp [Value.ownBlock] at hj
        · obtain ⟨A', c', e, -, hf⟩ := hown.form
          injection e with e1 e2 e3
          subst e1
          rcases hf with hf | ⟨g', hf, -⟩
          · cases hf
          · injection hf with hf
            subst hf
            obtain ⟨cur, hcur⟩ := hown.heap
            simp [Value.ownBlock] at hj
            subst hj
            exact types_ne hcur hg (by decide)
      clear hg hown hwb hbel mk
      go_wp2_with fail
      go_region_law (first
        | (go_simp; go_at_call 36; refine (HBL.out _).mono ?_; rintro e w4 ⟨v4, rfl, ho4, hb4⟩; obtain ⟨A4, c4, rfl, hbs4, -⟩ := ho4.form; have Hb4 : Hid (bl.length = bl.length) := rfl; have kb4 : Below wr.heap.size wr w4 := ⟨hb4.os, hb4.tape, hb4.output, hb4.size, hb4.block⟩; have c04 : w4.cell? ⟨w.heap.size + 1, 0, none⟩ = some (.slice A r.length c) := by rw [kb4.cell (p := ⟨w.heap.size + 1, 0, none⟩) hglt]; exact c0)
        | (refine step_append_bs rfl (.tmp 21) (.tmp 22) 22 rfl w.heap.size 5 Try.underlying22 info5 _ r rfl (Hown.out.below kb4) A4 bl _ c4 rfl Hb4.out hbs4 (by have := Hbln.out; omega) (by have := kb4.size; omega) ?_; intro v5 w5 ho5 hgr5; obtain ⟨A5, c5, rfl, -, -⟩ := ho5.form; have Hgr := Lib.hid hgr5; have hg5 := (hgr5.block (w.heap.size + 1) (by have := kb4.size; omega) (fun e => hne _ e.symm rfl)).trans ((kb4.block _ hglt).trans Hg.out); have c05 : w5.cell? ⟨w.heap.size + 1, 0, none⟩ = some (.slice A r.length c) := (by rw [cell_of_row _ _ _ _ _ _ hg5]; rfl); have f05 : w5.frozen? ⟨w.heap.size + 1, 0, none⟩ = false := frozen_of_row w5 (w.heap.size + 1) 0 _ _ hg5; have Hg5 := Lib.hid hg5; have Ho5 := Lib.hid ho5; clear hgr5 hg5 ho5))
      all_goals
        go_wp2_with fail
        have O5 : Hid (Only (fun j => (Value.slice A r.length c).ownBlock = some j) wr w5) := Lib.hid ((Only.of_below kb4).grown Hgr.out (fun j hj => .inl hj))
        have B5 : Hid (Below w.heap.size w w5) := Lib.hid ((Hbel.out.trans (kb4.mono Hbel.out.size)).grown Hgr.out (by have := Hbel.out.size; have := kb4.size; omega) (fun j hj => Hfr.out j (own_at hj)))
        have S5 : Hid (Only (fun j => j = w.heap.size + 1) w5 (w5.setCell ⟨w.heap.size + 1, 0, none⟩ (.slice A5 (r.length + bl.length) c5))) := Lib.hid (Only.setCell (p := ⟨w.heap.size + 1, 0, none⟩) (Only.refl (fun j => j = w.heap.size + 1) w5) (.inl rfl) _)
        go_roundw
        case rel =>
          refine ⟨k + 1, A5, c5, r ++ bl, by omega, by go_num, ?_, ?_, ?_, ?_, ?_⟩
          · show r ++ bl = blanks (k + 1)
            rw [Hr.out, ← Hbl.out]
            exact blanks_succ k
          · rw [List.length_append]
            exact heap_setCell_same _ _ _ _ _ _ Hg5.out
          · exact Ho5.out.only S5.out (Ho5.out.ne Hg5.out (by decide))
          · exact (Hwb.out.only O5.out (fun e => Hgw.out _ (own_at e) rfl)).only S5.out (by omega)
          · exact B5.out.setCell (by simp) _
        case measure => simp [intOf]; omega
    · obtain rfl : k = n := by omega
      have hrl : 0 < r.length := by rw [Hr.out, blanks_len]; omega
      obtain ⟨b1, o1, rfl, -⟩ := hown.bs.at_ hrl
      have ho1 : o1 = 0 := by
        obtain ⟨A', c', e, -, hf⟩ := hown.form
        injection e with e1
        subst e1
        rcases hf with hf | ⟨g', hf, -⟩
        · cases hf
        · injection hf with hf; injection hf with _ hf
      subst ho1
      have HP : Hid (NewPost w k (.returned (.pointer (some ⟨w.heap.size + 1, 0, none⟩))) wr) := Lib.hid
        ⟨w.heap.size + 1, b1, w.heap.size, c, k, rfl, fun N => ⟨⟨none, 0, by rw [← Hr.out]; simpa using hg, Bs.nil_ _ _, by rintro k ⟨a, e, _⟩; cases e⟩, by rw [← Hr.out]; exact hown.low (Nat.zero_le _), by simpa [Wb] using hwb⟩, hbel, by omega, hown.fresh b1 ⟨_, rfl, rfl⟩, Nat.le_refl _⟩
      clear hg hown hwb hbel
      go_wp2_with fail
      go_ret
      exact HP.out
end Go.Proofs.Ytcpkmhhlcmnfdaa

