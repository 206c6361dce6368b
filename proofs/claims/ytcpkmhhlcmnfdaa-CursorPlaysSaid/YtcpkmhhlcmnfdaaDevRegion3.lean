/- The contracts of the program's Region: Part, Of. -/
import Derived.Test.YtcpkmhhlcmnfdaaDevRegion2
namespace Go.Proofs.Ytcpkmhhlcmnfdaa
open Go.RowKit
set_option linter.unusedVariables false
set_option maxRecDepth 100000

/-- what Part and Of return -/
def PartPost (w : World) (q : Value) (a c : Int) (b : Bool) (e : Ending) (w' : World) : Prop :=
  e = .returned (if b then .tuple #[.agg #[q, .int .i64 a, .int .i64 c], .int .i64 0] else .tuple #[.agg #[.pointer none, .int .i64 0, .int .i64 0], .int .i64 1]) ∧ Below w.heap.size w w'

set_option maxHeartbeats 1600000 in
theorem dgpart_any (p : Option Addr) (a c : Nat) (w : World) (ha : a ≤ 65536) (hc : c ≤ 65536) (s n : Int) (s1 : -9223372036854775808 ≤ s) (s2 : s ≤ 9223372036854775807) (n1 : -9223372036854775808 ≤ n) (n2 : n ≤ 9223372036854775807) :
    Calls Try.prog 40 #[.agg #[.pointer p, .int .i64 (a : Int), .int .i64 (c : Int)], .int .i64 s, .int .i64 n] w (PartPost w (.pointer p) ((a : Int) + s) n (ofB c s n)) := by
  have HB : ∀ (x : World) (o : Obj), Below w.heap.size w x → Below w.heap.size w (x.alloc o) := fun x o hx => hx.alloc hx.size o
  unfold PartPost
  by_cases h2 : 1 ≤ n
  · have d2 : decide (n < 1) = false := decide_eq_false (by omega)
    by_cases h3 : 0 ≤ s ∧ 0 ≤ n ∧ s + n ≤ (c : Int)
    · have hb : ofB c s n = true := ofB_iff.2 ⟨h3.1, h2, h3.2.2⟩
      rw [hb, if_pos rfl]
      have H : Hid (decide (0 ≤ s ∧ 0 ≤ n ∧ s + n ≤ (c : Int)) = true) := Lib.hid (decide_eq_true h3)
      obtain ⟨i1, i2, i3⟩ := h3
      clear hb
      go_enter Try.func40, Try.ntmps40
      go_wp2_with (go_at_call 51; (with_reducible refine (dgwithin_is H (by omega) s1 s2 n1 n2 (by omega)).mono ?_); rintro e w2 ⟨rfl, rfl⟩)
      exact bodyPost_ret (v := .tuple #[.agg #[.pointer p, .int .i64 ((a : Int) + s), .int .i64 n], .int .i64 0]) (by simp [results, Try.results40, go_sem]) rfl ⟨rfl, by repeat (first | exact Below.refl _ _ | apply HB)⟩
    · have hb : ofB c s n = false := by rw [Bool.eq_false_iff]; intro h; have := ofB_iff.1 h; exact h3 ⟨this.1, by omega, this.2.2⟩
      rw [hb, if_neg (by simp)]
      have H : Hid (decide (0 ≤ s ∧ 0 ≤ n ∧ s + n ≤ (c : Int)) = false) := Lib.hid (decide_eq_false h3)
      clear hb h3
      go_enter Try.func40, Try.ntmps40
      go_wp2_with (go_at_call 51; (with_reducible refine (dgwithin_is H (by omega) s1 s2 n1 n2 (by omega)).mono ?_); rintro e w2 ⟨rfl, rfl⟩)
      exact bodyPost_ret (v := .tuple #[.agg #[.pointer none, .int .i64 0, .int .i64 0], .int .i64 1]) (by simp [results, Try.results40, go_sem]) rfl ⟨rfl, by repeat (first | exact Below.refl _ _ | apply HB)⟩
  · have d2 : decide (n < 1) = true := decide_eq_true (by omega)
    have hb : ofB c s n = false := by rw [Bool.eq_false_iff]; intro h; exact h2 (ofB_iff.1 h).2.1
    rw [hb, if_neg (by simp)]
    clear hb
    go_enter Try.func40, Try.ntmps40
    go_wp2
    exact bodyPost_ret (v := .tuple #[.agg #[.pointer none, .int .i64 0, .int .i64 0], .int .i64 1]) (by simp [results, Try.results40, go_sem]) rfl ⟨rfl, by repeat (first | exact Below.refl _ _ | apply HB)⟩
/-- .. told with the answer known -/
theorem dgpart_is {p : Option Addr} {a c : Nat} {w : World} {s n y : Int} {b : Bool} (H : Hid (ofB c s n = b)) (hy : (a : Int) + s = y) (ha : a ≤ 65536) (hc : c ≤ 65536) (s1 : -9223372036854775808 ≤ s) (s2 : s ≤ 9223372036854775807) (n1 : -9223372036854775808 ≤ n) (n2 : n ≤ 9223372036854775807) :
    Calls Try.prog 40 #[.agg #[.pointer p, .int .i64 (a : Int), .int .i64 (c : Int)], .int .i64 s, .int .i64 n] w (PartPost w (.pointer p) y n b) := by
  rw [← H.out, ← hy]
  exact dgpart_any p a c w ha hc s n s1 s2 n1 n2

theorem dsize_none (w : World) : Calls Try.prog 39 #[.pointer none] w fun e w' => e = .returned (.int .i64 0) ∧ w = w' := by
  go_enter Try.func39, Try.ntmps39
  go_wp2
  go_ret
  exact ⟨rfl, rfl⟩

set_option maxHeartbeats 1600000 in
theorem dof_is (p : Option Addr) (n : Nat) (hn : n ≤ 65536) (L : Int) (hL : L = (n : Int) * 1024) (w : World) (hsz : ∀ W, Below w.heap.size w W → Calls Try.prog 39 #[.pointer p] W fun e w' => e = .returned (.int .i64 L) ∧ W = w') (a c : Int) (a1 : -9223372036854775808 ≤ a) (a2 : a ≤ 9223372036854775807) (c1 : -9223372036854775808 ≤ c) (c2 : c ≤ 9223372036854775807) :
    Calls Try.prog 14 #[.pointer p, .int .i64 a, .int .i64 c] w (PartPost w (.pointer p) a c (ofB n a c)) := by
  have hq : L / 1024 = (n : Int) := by omega
  have hq2 : IntKind.i64.wrap (L.tdiv 1024) = (n : Int) := by rw [IntWalk.i64_quo _ _ ⟨by omega, by omega, by omega⟩]; exact hq
  have hL1 : 0 ≤ L := by omega
  have hL2 : L ≤ 9223372036854775807 := by omega
  have HSZ := Lib.hid hsz
  clear hsz hL
  obtain ⟨b, Hb⟩ : ∃ b, Hid (ofB n a c = b) := ⟨_, rfl⟩
  have HPT : Hid (∀ W, Calls Try.prog 40 #[.agg #[.pointer p, .int .i64 0, .int .i64 (n : Int)], .int .i64 a, .int .i64 c] W (PartPost W (.pointer p) a c b)) := Lib.hid fun W => dgpart_is (a := 0) Hb (by omega) (by omega) hn a1 a2 c1 c2
  rw [Hb.out]
  cases b with
  | true =>
    go_enter Try.func14, Try.ntmps14
    go_wp2_with fail
    refine (HSZ.out _ ((Below.refl _ _).alloc (Nat.le_refl _) _)).mono ?_
    rintro e w2 ⟨rfl, rfl⟩
    go_wp2_with fail
    refine (HPT.out _).mono ?_
    rintro e w3 ⟨rfl, hb3⟩
    have hg := hb3.block w.heap.size (by simp; omega)
    rw [Below.heap_alloc _ _ _ (by simp), heap_alloc_new] at hg
    have f0 : w3.frozen? ⟨w.heap.size, 0, none⟩ = false := frozen_of_row w3 _ 0 _ _ hg
    have f1 : w3.frozen? ⟨w.heap.size, 1, none⟩ = false := frozen_of_row w3 _ 1 _ _ hg
    have f2 : w3.frozen? ⟨w.heap.size, 2, none⟩ = false := frozen_of_row w3 _ 2 _ _ hg
    have g0 : w3.cell? ⟨w.heap.size, 0, none⟩ = some (.pointer none) := by rw [cell_of_row _ _ _ _ _ _ hg]; rfl
    have g1 : w3.cell? ⟨w.heap.size, 1, none⟩ = some (.int .i64 0) := by rw [cell_of_row _ _ _ _ _ _ hg]; rfl
    have g2 : w3.cell? ⟨w.heap.size, 2, none⟩ = some (.int .i64 0) := by rw [cell_of_row _ _ _ _ _ _ hg]; rfl
    go_wp2_with fail
    have hB : Below w.heap.size w w3 := ((Below.refl _ _).alloc (Nat.le_refl _) _ |>.alloc (by simp) _).trans (hb3.mono (by simp; omega))
    have hB4 := ((hB.setCell (p := ⟨w.heap.size, 0, none⟩) (Nat.le_refl _) (.pointer p)).setCell (p := ⟨w.heap.size, 1, none⟩) (Nat.le_refl _) (.int .i64 a)).setCell (p := ⟨w.heap.size, 2, none⟩) (Nat.le_refl _) (.int .i64 c)
    exact bodyPost_ret (v := .tuple #[.agg #[.pointer p, .int .i64 a, .int .i64 c], .int .i64 0]) (by simp [results, Try.results14, go_sem, g0, g1, g2]) rfl ⟨rfl, hB4⟩
  | false =>
    go_enter Try.func14, Try.ntmps14
    go_wp2_with fail
    refine (HSZ.out _ ((Below.refl _ _).alloc (Nat.le_refl _) _)).mono ?_
    rintro e w2 ⟨rfl, rfl⟩
    go_wp2_with fail
    refine (HPT.out _).mono ?_
    rintro e w3 ⟨rfl, hb3⟩
    have hg := hb3.block w.heap.size (by simp; omega)
    rw [Below.heap_alloc _ _ _ (by simp), heap_alloc_new] at hg
    have f0 : w3.frozen? ⟨w.heap.size, 0, none⟩ = false := frozen_of_row w3 _ 0 _ _ hg
    have f1 : w3.frozen? ⟨w.heap.size, 1, none⟩ = false := frozen_of_row w3 _ 1 _ _ hg
    have f2 : w3.frozen? ⟨w.heap.size, 2, none⟩ = false := frozen_of_row w3 _ 2 _ _ hg
    have g0 : w3.cell? ⟨w.heap.size, 0, none⟩ = some (.pointer none) := by rw [cell_of_row _ _ _ _ _ _ hg]; rfl
    have g1 : w3.cell? ⟨w.heap.size, 1, none⟩ = some (.int .i64 0) := by rw [cell_of_row _ _ _ _ _ _ hg]; rfl
    have g2 : w3.cell? ⟨w.heap.size, 2, none⟩ = some (.int .i64 0) := by rw [cell_of_row _ _ _ _ _ _ hg]; rfl
    go_wp2_with fail
    have hB : Below w.heap.size w w3 := ((Below.refl _ _).alloc (Nat.le_refl _) _ |>.alloc (by simp) _).trans (hb3.mono (by simp; omega))
    have hB4 := ((hB.setCell (p := ⟨w.heap.size, 0, none⟩) (Nat.le_refl _) (.pointer none)).setCell (p := ⟨w.heap.size, 1, none⟩) (Nat.le_refl _) (.int .i64 0)).setCell (p := ⟨w.heap.size, 2, none⟩) (Nat.le_refl _) (.int .i64 0)
    exact bodyPost_ret (v := .tuple #[.agg #[.pointer none, .int .i64 0, .int .i64 0], .int .i64 1]) (by simp [results, Try.results14, go_sem, g0, g1, g2]) rfl ⟨rfl, hB4⟩
end Go.Proofs.Ytcpkmhhlcmnfdaa

