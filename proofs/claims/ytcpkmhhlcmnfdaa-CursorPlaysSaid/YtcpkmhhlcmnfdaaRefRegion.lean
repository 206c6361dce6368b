/- The contracts of the reference's Region: Size, Read, Program, Erase. -/
import Derived.Test.YtcpkmhhlcmnfdaaGsim
namespace Go.Proofs.Ytcpkmhhlcmnfdaa
open Go.RowKit
set_option linter.unusedVariables false
set_option maxRecDepth 100000

/-- a region of the reference, as a value -/
def rgV (g : Nat) (a c : Nat) : Value := .agg #[.pointer (some ⟨g, 0, none⟩), .int .i64 (a : Int), .int .i64 (c : Int)]
def rgO (g : Nat) (a c : Nat) : Obj := .cells #[.pointer (some ⟨g, 0, none⟩), .int .i64 (a : Int), .int .i64 (c : Int)] 40

theorem rgsize_any (q : Value) (a : Int) (c : Nat) (w : World) (hc : c ≤ 65536) :
    Calls Try.prog 44 #[.agg #[q, .int .i64 a, .int .i64 (c : Int)]] w fun e w' => e = .returned (.int .i64 ((c : Int) * 1024)) ∧ Below w.heap.size w w' := by
  go_enter Try.func44, Try.ntmps44
  go_wp2
  go_ret
  exact ⟨rfl, (Below.refl _ _).alloc (Nat.le_refl _) _⟩

def rgRead (f : Fl) (a c : Nat) (t n : Int) : List UInt8 × Int :=
  if f.dark then ([], 5) else if 0 ≤ t ∧ 0 ≤ n ∧ t + n ≤ (c : Int) * 1024 then readOf f ((a : Int) * 1024 + t) n else ([], 2)

set_option maxHeartbeats 1600000 in
theorem rgread_any {g gB gW cB cW N : Nat} {f : Fl} {w : World} (h : RefFl w g gB gW cB cW N f) (a c : Nat) (ha : a ≤ 65536) (hc : c ≤ 65536) (t n : Int) (t1 : -9223372036854775808 ≤ t) (t2 : t ≤ 9223372036854775807) (n1 : -9223372036854775808 ≤ n) (n2 : n ≤ 9223372036854775807) (hlen : f.b.length ≤ 2147483648) :
    Calls Try.prog 45 #[.agg #[.pointer (some ⟨g, 0, none⟩), .int .i64 (a : Int), .int .i64 (c : Int)], .int .i64 t, .int .i64 n] w (ReadPost w (rgRead f a c t n)) := by
  obtain ⟨AP, cP, hg, -, -⟩ := h.cells
  have c5 : w.cell? ⟨g, 5, none⟩ = some (.bool f.dark) := by rw [cell_of_row _ _ _ _ _ _ hg]; rfl
  have hz : g < w.heap.size := (Array.getElem?_eq_some_iff.1 hg).1
  have hb0 : Below w.heap.size w (w.alloc (.cells #[.pointer (some ⟨g, 0, none⟩), .int .i64 (a : Int), .int .i64 (c : Int)] 40)) := (Below.refl _ _).alloc (Nat.le_refl _) _
  have HB0 := Lib.hid hb0
  have H0 := Lib.hid (h.below hb0)
  unfold rgRead
  clear hg h hb0
  cases hd : f.dark with
  | true =>
    rw [hd] at c5
    rw [if_pos rfl]
    clear hd
    go_enter Try.func45, Try.ntmps45
    go_wp2
    go_ret2
    exact ⟨_, rfl, Ob.nil_ _ _ _, HB0.out⟩
  | false =>
    rw [hd] at c5
    rw [if_neg (by simp)]
    by_cases hin : 0 ≤ t ∧ 0 ≤ n ∧ t + n ≤ (c : Int) * 1024
    · rw [if_pos hin]
      have H : Hid (decide (0 ≤ t ∧ 0 ≤ n ∧ t + n ≤ (c : Int) * 1024) = true) := Lib.hid (decide_eq_true hin)
      obtain ⟨i1, i2, i3⟩ := hin
      go_enter Try.func45, Try.ntmps45
      go_wp2_with fail
      refine (rgsize_any _ _ c _ hc).mono ?_
      rintro e w1 ⟨rfl, hb1⟩
      have HB1 := Lib.hid (below_on HB0.out hb1)
      have H1 := Lib.hid (H0.out.below hb1)
      have hg0 := hb1.block w.heap.size (by simp)
      have k0 : w1.heap[w.heap.size]? = _ := hg0.trans (heap_alloc_new w _)
      have m0 : w1.cell? ⟨w.heap.size, 0, none⟩ = some (.pointer (some ⟨g, 0, none⟩)) := by rw [cell_of_row _ _ _ _ _ _ k0]; rfl
      have m1 : w1.cell? ⟨w.heap.size, 1, none⟩ = some (.int .i64 (a : Int)) := by rw [cell_of_row _ _ _ _ _ _ k0]; rfl
      clear hb1 hg0 k0
      go_wp2_with fail
      refine (within_is H (by omega) t1 t2 n1 n2 (by omega)).mono ?_
      rintro e w2 ⟨rfl, rfl⟩
      go_wp2_with fail
      refine (rread_any H1.out ((a : Int) * 1024 + t) n (by omega) (by omega) n1 n2 hlen).mono ?_
      rintro e w2 ⟨v, rfl, ho, hb2⟩
      have HB2 := Lib.hid (below_on HB1.out hb2)
      have HO2 := Lib.hid (ho.low HB1.out.size)
      clear ho hb2
      go_wp2_with fail
      go_ret2
      exact ⟨_, rfl, HO2.out, HB2.out⟩
    · rw [if_neg hin]
      have H : Hid (decide (0 ≤ t ∧ 0 ≤ n ∧ t + n ≤ (c : Int) * 1024) = false) := Lib.hid (decide_eq_false hin)
      clear hin
      go_enter Try.func45, Try.ntmps45
      go_wp2_with fail
      refine (rgsize_any _ _ c _ hc).mono ?_
      rintro e w1 ⟨rfl, hb1⟩
      have HB1 := Lib.hid (below_on HB0.out hb1)
      clear hb1
      go_wp2_with fail
      refine (within_is H (by omega) t1 t2 n1 n2 (by omega)).mono ?_
      rintro e w2 ⟨rfl, rfl⟩
      go_wp2_with fail
      go_ret2
      exact ⟨_, rfl, Ob.nil_ _ _ _, HB1.out⟩

def rgProg (f : Fl) (a c : Nat) (t : Int) (m : List UInt8) : Int × Fl :=
  if f.dark then (5, f) else if 0 ≤ t ∧ t + m.length ≤ (c : Int) * 1024 then rprogOf f ((a : Int) * 1024 + t) m else (2, f)

set_option maxHeartbeats 1600000 in
theorem rgprog_any {g gB gW cB cW N : Nat} {f : Fl} {w : World} (h : RefFl w g gB gW cB cW N f) (ok : FlOk f) (a c : Nat) (ha : a ≤ 65536) (hc : c ≤ 65536) (t : Int) (t1 : -9223372036854775808 ≤ t) (t2 : t ≤ 9223372036854775807)
    (A : Option Addr) (m : List UInt8) (k : Nat) (hm : Bs w A m) (hA : Off (FlF g gB gW) A m) (hk : m.length ≤ k) (hmz : m.length ≤ 2147483648) (hst : f.steps + m.length ≤ 4611686018427387904) :
    Calls Try.prog 59 #[.agg #[.pointer (some ⟨g, 0, none⟩), .int .i64 (a : Int), .int .i64 (c : Int)], .int .i64 t, .slice A m.length k] w (ErasePost w g gB gW cB cW N (rgProg f a c t m)) := by
  obtain ⟨AP, cP, hg, -, -⟩ := h.cells
  have c5 : w.cell? ⟨g, 5, none⟩ = some (.bool f.dark) := by rw [cell_of_row _ _ _ _ _ _ hg]; rfl
  have hz : g < w.heap.size := (Array.getElem?_eq_some_iff.1 hg).1
  have hb0 : Below w.heap.size w (w.alloc (.cells #[.pointer (some ⟨g, 0, none⟩), .int .i64 (a : Int), .int .i64 (c : Int)] 40)) := (Below.refl _ _).alloc (Nat.le_refl _) _
  have HB0 := Lib.hid hb0
  have H0 := Lib.hid (h.below hb0)
  have HM := Lib.hid hm
  have HA := Lib.hid hA
  have OK := Lib.hid ok
  unfold rgProg
  clear hg h hb0 hm hA ok
  cases hd : f.dark with
  | true =>
    rw [hd] at c5
    rw [if_pos rfl]
    clear hd
    go_enter Try.func59, Try.ntmps59
    go_wp2
    go_ret
    exact ⟨rfl, H0.out, Only.of_below HB0.out⟩
  | false =>
    rw [hd] at c5
    rw [if_neg (by simp)]
    by_cases hin : 0 ≤ t ∧ t + m.length ≤ (c : Int) * 1024
    · rw [if_pos hin]
      have H : Hid (decide (0 ≤ t ∧ 0 ≤ (m.length : Int) ∧ t + (m.length : Int) ≤ (c : Int) * 1024) = true) := Lib.hid (decide_eq_true ⟨hin.1, by omega, hin.2⟩)
      obtain ⟨i1, i2⟩ := hin
      go_enter Try.func59, Try.ntmps59
      go_wp2_with fail
      refine (rgsize_any _ _ c _ hc).mono ?_
      rintro e w1 ⟨rfl, hb1⟩
      have HB1 := Lib.hid (below_on HB0.out hb1)
      have H1 := Lib.hid (H0.out.below hb1)
      have hg0 := hb1.block w.heap.size (by simp)
      have k0 : w1.heap[w.heap.size]? = _ := hg0.trans (heap_alloc_new w _)
      have m0 : w1.cell? ⟨w.heap.size, 0, none⟩ = some (.pointer (some ⟨g, 0, none⟩)) := by rw [cell_of_row _ _ _ _ _ _ k0]; rfl
      have m1 : w1.cell? ⟨w.heap.size, 1, none⟩ = some (.int .i64 (a : Int)) := by rw [cell_of_row _ _ _ _ _ _ k0]; rfl
      clear hb1 hg0 k0
      go_wp2_with fail
      refine (within_is H (by omega) t1 t2 (by omega) (by omega) (by omega)).mono ?_
      rintro e w2 ⟨rfl, rfl⟩
      go_wp2_with fail
      refine (rprog_any H1.out OK.out ((a : Int) * 1024 + t) A m k (HM.out.below HB1.out) HA.out hk (by omega) (by omega) hmz hst).mono ?_
      rintro e w2 ⟨rfl, hr, ho⟩
      have HR := Lib.hid hr
      have HO := Lib.hid ho
      clear hr ho
      go_wp2_with fail
      go_ret
      exact ⟨rfl, HR.out, (Only.of_below HB1.out).trans HO.out⟩
    · rw [if_neg hin]
      have H : Hid (decide (0 ≤ t ∧ 0 ≤ (m.length : Int) ∧ t + (m.length : Int) ≤ (c : Int) * 1024) = false) := Lib.hid (decide_eq_false (fun h => hin ⟨h.1, h.2.2⟩))
      clear hin
      go_enter Try.func59, Try.ntmps59
      go_wp2_with fail
      refine (rgsize_any _ _ c _ hc).mono ?_
      rintro e w1 ⟨rfl, hb1⟩
      have HB1 := Lib.hid (below_on HB0.out hb1)
      have H1 := Lib.hid (H0.out.below hb1)
      clear hb1
      go_wp2_with fail
      refine (within_is H (by omega) t1 t2 (by omega) (by omega) (by omega)).mono ?_
      rintro e w2 ⟨rfl, rfl⟩
      go_wp2_with fail
      go_ret
      exact ⟨rfl, H1.out, Only.of_below HB1.out⟩

def rgErase (f : Fl) (a c : Nat) (s : Int) : Int × Fl := if f.dark then (5, f) else if 0 ≤ s ∧ s < (c : Int) then eraseOf f ((a : Int) + s) else (2, f)

set_option maxHeartbeats 1600000 in
theorem rgerase_any {g gB gW cB cW N : Nat} {f : Fl} {w : World} (h : RefFl w g gB gW cB cW N f) (ok : FlOk f) (a c : Nat) (ha : a ≤ 65536) (hc : c ≤ 65536) (s : Int) (s1 : -9223372036854775808 ≤ s) (s2 : s ≤ 9223372036854775807) :
    Calls Try.prog 71 #[.agg #[.pointer (some ⟨g, 0, none⟩), .int .i64 (a : Int), .int .i64 (c : Int)], .int .i64 s] w (ErasePost w g gB gW cB cW N (rgErase f a c s)) := by
  obtain ⟨AP, cP, hg, -, -⟩ := h.cells
  have c5 : w.cell? ⟨g, 5, none⟩ = some (.bool f.dark) := by rw [cell_of_row _ _ _ _ _ _ hg]; rfl
  have hz : g < w.heap.size := (Array.getElem?_eq_some_iff.1 hg).1
  have hb0 : Below w.heap.size w (w.alloc (.cells #[.pointer (some ⟨g, 0, none⟩), .int .i64 (a : Int), .int .i64 (c : Int)] 40)) := (Below.refl _ _).alloc (Nat.le_refl _) _
  have HB0 := Lib.hid hb0
  have H0 := Lib.hid (h.below hb0)
  have OK := Lib.hid ok
  unfold rgErase
  clear hg h hb0 ok
  cases hd : f.dark with
  | true =>
    rw [hd] at c5
    rw [if_pos rfl]
    clear hd
    go_enter Try.func71, Try.ntmps71
    go_wp2
    go_ret
    exact ⟨rfl, H0.out, Only.of_below HB0.out⟩
  | false =>
    rw [hd] at c5
    rw [if_neg (by simp)]
    by_cases h1 : 0 ≤ s
    · by_cases h2 : s < (c : Int)
      · rw [if_pos ⟨h1, h2⟩]
        have d1 : decide (s < 0) = false := decide_eq_false (by omega)
        have d2 : decide ((c : Int) ≤ s) = false := decide_eq_false (by omega)
        clear hd
        go_enter Try.func71, Try.ntmps71
        go_wp2_with fail
        refine (rerase_any H0.out OK.out ((a : Int) + s)).mono ?_
        rintro e w2 ⟨rfl, hr, ho⟩
        have HR := Lib.hid hr
        have HO := Lib.hid ho
        clear hr ho
        go_wp2_with fail
        go_ret
        exact ⟨rfl, HR.out, (Only.of_below HB0.out).trans HO.out⟩
      · rw [if_neg (fun h => h2 h.2)]
        have d1 : decide (s < 0) = false := decide_eq_false (by omega)
        have d2 : decide ((c : Int) ≤ s) = true := decide_eq_true (by omega)
        clear hd
        go_enter Try.func71, Try.ntmps71
        go_wp2
        go_ret
        exact ⟨rfl, H0.out, Only.of_below HB0.out⟩
    · rw [if_neg (fun h => h1 h.1)]
      have d1 : decide (s < 0) = true := decide_eq_true (by omega)
      clear hd
      go_enter Try.func71, Try.ntmps71
      go_wp2
      go_ret
      exact ⟨rfl, H0.out, Only.of_below HB0.out⟩
end Go.Proofs.Ytcpkmhhlcmnfdaa

