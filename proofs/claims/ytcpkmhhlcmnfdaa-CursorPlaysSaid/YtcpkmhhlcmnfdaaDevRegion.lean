/- The contracts of the program's Region: within, Size, start, refusal, Read. -/
import Derived.Test.YtcpkmhhlcmnfdaaSim3
import Derived.Deep.RegionHeld3
namespace Go.Proofs.Ytcpkmhhlcmnfdaa
open Go.RowKit
set_option linter.unusedVariables false
set_option maxRecDepth 100000

theorem dgwithin_any (a n s : Int) (w : World) (hs : 0 ≤ s) (ha1 : -9223372036854775808 ≤ a) (ha2 : a ≤ 9223372036854775807) (hn1 : -9223372036854775808 ≤ n) (hn2 : n ≤ 9223372036854775807) (hs2 : s ≤ 9223372036854775807) :
    Calls Try.prog 51 #[.int .i64 a, .int .i64 n, .int .i64 s] w fun e w' => e = .returned (.bool (decide (0 ≤ a ∧ 0 ≤ n ∧ a + n ≤ s))) ∧ w = w' := by
  by_cases h1 : 0 ≤ a
  · by_cases h2 : 0 ≤ n
    · by_cases h4 : n ≤ s - a
      · have e : decide (0 ≤ a ∧ 0 ≤ n ∧ a + n ≤ s) = true := by simp; omega
        rw [e]
        clear e
        go_enter Try.func51, Try.ntmps51
        go_wp2
        go_ret
        exact ⟨rfl, rfl⟩
      · have e : decide (0 ≤ a ∧ 0 ≤ n ∧ a + n ≤ s) = false := by simp; omega
        rw [e]
        clear e
        go_enter Try.func51, Try.ntmps51
        go_wp2
        go_ret
        exact ⟨rfl, rfl⟩
    · have e : decide (0 ≤ a ∧ 0 ≤ n ∧ a + n ≤ s) = false := by simp; omega
      rw [e]
      clear e
      have h2' : decide (0 ≤ n) = false := decide_eq_false h2
      go_enter Try.func51, Try.ntmps51
      go_wp2
      go_ret
      exact ⟨rfl, rfl⟩
  · have e : decide (0 ≤ a ∧ 0 ≤ n ∧ a + n ≤ s) = false := by simp; omega
    rw [e]
    clear e
    have h1' : decide (0 ≤ a) = false := decide_eq_false h1
    go_enter Try.func51, Try.ntmps51
    go_wp2
    go_ret
    exact ⟨rfl, rfl⟩
theorem dgwithin_is {a n s : Int} {b : Bool} {w : World} (H : Hid (decide (0 ≤ a ∧ 0 ≤ n ∧ a + n ≤ s) = b)) (hs : 0 ≤ s) (ha1 : -9223372036854775808 ≤ a) (ha2 : a ≤ 9223372036854775807) (hn1 : -9223372036854775808 ≤ n) (hn2 : n ≤ 9223372036854775807) (hs2 : s ≤ 9223372036854775807) :
    Calls Try.prog 51 #[.int .i64 a, .int .i64 n, .int .i64 s] w fun e w' => e = .returned (.bool b) ∧ w = w' := by
  rw [← H.out]
  exact dgwithin_any a n s w hs ha1 ha2 hn1 hn2 hs2

theorem dgsize_any (q : Value) (a : Int) (c : Nat) (w : World) (hc : c ≤ 65536) :
    Calls Try.prog 42 #[.agg #[q, .int .i64 a, .int .i64 (c : Int)]] w fun e w' => e = .returned (.int .i64 ((c : Int) * 1024)) ∧ Below w.heap.size w w' := by
  go_enter Try.func42, Try.ntmps42
  go_wp2
  go_ret
  exact ⟨rfl, (Below.refl _ _).alloc (Nat.le_refl _) _⟩

theorem dgstart_any (q c : Value) (a : Nat) (w : World) (ha : a ≤ 65536) :
    Calls Try.prog 54 #[.agg #[q, .int .i64 (a : Int), c]] w fun e w' => e = .returned (.int .i64 ((a : Int) * 1024)) ∧ Below w.heap.size w w' := by
  go_enter Try.func54, Try.ntmps54
  go_wp2
  go_ret
  exact ⟨rfl, (Below.refl _ _).alloc (Nat.le_refl _) _⟩

def refuseOf (d : Dl) (b : Bool) : Int := if d.off then 5 else if b then 0 else 2
def CodePost (w : World) (k : Int) (e : Ending) (w' : World) : Prop := e = .returned (.int .i64 k) ∧ Below w.heap.size w w'

set_option maxHeartbeats 400000 in
theorem dgrefuse_any {g gB gW cB cW N : Nat} {d : Dl} {w : World} (h : DevFl w g gB gW cB cW N d) (x y : Value) (b : Bool) :
    Calls Try.prog 52 #[.agg #[.pointer (some ⟨g, 0, none⟩), x, y], .bool b] w (CodePost w (refuseOf d b)) := by
  have hb0 : Below w.heap.size w (w.alloc (.cells #[.pointer (some ⟨g, 0, none⟩), x, y] 35)) := (Below.refl _ _).alloc (Nat.le_refl _) _
  have HB0 := Lib.hid hb0
  have hof := doff_any (h.below hb0)
  clear h hb0
  unfold refuseOf
  cases hd : d.off with
  | true =>
    rw [hd] at hof
    have HOF := Lib.hid hof
    clear hof hd
    go_enter Try.func52, Try.ntmps52
    go_wp2_with (go_at_call 60; refine HOF.out.mono ?_; rintro e w4 ⟨rfl, rfl⟩)
    go_ret
    exact ⟨rfl, HB0.out⟩
  | false =>
    rw [hd] at hof
    have HOF := Lib.hid hof
    clear hof hd
    cases b with
    | true =>
      go_enter Try.func52, Try.ntmps52
      go_wp2_with (go_at_call 60; refine HOF.out.mono ?_; rintro e w4 ⟨rfl, rfl⟩)
      go_ret
      exact ⟨rfl, HB0.out⟩
    | false =>
      go_enter Try.func52, Try.ntmps52
      go_wp2_with (go_at_call 60; refine HOF.out.mono ?_; rintro e w4 ⟨rfl, rfl⟩)
      go_ret
      exact ⟨rfl, HB0.out⟩
/-- .. told with the answer known -/
theorem dgrefuse_is {g gB gW cB cW N : Nat} {d : Dl} {w : World} {k : Int} {b : Bool} (h : DevFl w g gB gW cB cW N d) (H : Hid (refuseOf d b = k)) (x y : Value) :
    Calls Try.prog 52 #[.agg #[.pointer (some ⟨g, 0, none⟩), x, y], .bool b] w (CodePost w k) := by
  rw [← H.out]
  exact dgrefuse_any h x y b
theorem dgrefuse_none (w : World) (x y : Value) (b : Bool) :
    Calls Try.prog 52 #[.agg #[.pointer none, x, y], .bool b] w (CodePost w 2) := by
  go_enter Try.func52, Try.ntmps52
  go_wp2
  go_ret
  exact ⟨rfl, (Below.refl _ _).alloc (Nat.le_refl _) _⟩

/-- a region's value, boxed: its three cells in whatever later world -/
theorem box_cells (w : World) (q x y : Value) (E : TypeId) : ∀ W, Below (w.alloc (.cells #[q, x, y] E)).heap.size (w.alloc (.cells #[q, x, y] E)) W →
    W.cell? ⟨w.heap.size, 0, none⟩ = some q ∧ W.cell? ⟨w.heap.size, 1, none⟩ = some x ∧ W.cell? ⟨w.heap.size, 2, none⟩ = some y := fun W hW => by
  have hg := (hW.block w.heap.size (by simp)).trans (heap_alloc_new w _)
  exact ⟨by rw [cell_of_row _ _ _ _ _ _ hg]; rfl, by rw [cell_of_row _ _ _ _ _ _ hg]; rfl, by rw [cell_of_row _ _ _ _ _ _ hg]; rfl⟩

set_option maxRecDepth 100000 in
set_option maxHeartbeats 1600000 in
theorem dgread_any {g gB gW cB cW N : Nat} {d : Dl} {w : World} (h : DevFl w g gB gW cB cW N d) (a c : Nat) (ha : a ≤ 65536) (hc : c ≤ 65536) (t n : Int) (t1 : -9223372036854775808 ≤ t) (t2 : t ≤ 9223372036854775807) (n1 : -9223372036854775808 ≤ n) (n2 : n ≤ 9223372036854775807) (hlen : d.b.length ≤ 2147483648) :
    Calls Try.prog 43 #[.agg #[.pointer (some ⟨g, 0, none⟩), .int .i64 (a : Int), .int .i64 (c : Int)], .int .i64 t, .int .i64 n] w (ReadPost w (dgRead d a c t n)) := by
  have hcell := box_cells w (.pointer (some ⟨g, 0, none⟩)) (.int .i64 (a : Int)) (.int .i64 (c : Int)) 35
  obtain ⟨w1, Hw1⟩ : ∃ w1, Hid (w.alloc (.cells #[.pointer (some ⟨g, 0, none⟩), .int .i64 (a : Int), .int .i64 (c : Int)] 35) = w1) := ⟨_, rfl⟩
  have hb1 : Below w.heap.size w w1 := by rw [← Hw1.out]; exact (Below.refl _ _).alloc (Nat.le_refl _) _
  rw [Hw1.out] at hcell
  have HB1 := Lib.hid hb1
  have H1 := Lib.hid (h.below hb1)
  have L0 : ∀ W, Below w1.heap.size w1 W → W.cell? ⟨w.heap.size, 0, none⟩ = some (.pointer (some ⟨g, 0, none⟩)) := fun W hW => (hcell W hW).1
  have L1 : ∀ W, Below w1.heap.size w1 W → W.cell? ⟨w.heap.size, 1, none⟩ = some (.int .i64 (a : Int)) := fun W hW => (hcell W hW).2.1
  have L2 : ∀ W, Below w1.heap.size w1 W → W.cell? ⟨w.heap.size, 2, none⟩ = some (.int .i64 (c : Int)) := fun W hW => (hcell W hW).2.2
  have HD : Hid (∀ W, Below w1.heap.size w1 W → DevFl W g gB gW cB cW N d) := Lib.hid fun W hW => H1.out.below hW
  obtain ⟨b, Hb⟩ : ∃ b, Hid (decide (0 ≤ t ∧ 0 ≤ n ∧ t + n ≤ (c : Int) * 1024) = b) := ⟨_, rfl⟩
  obtain ⟨k, Hk⟩ : ∃ k, Hid (refuseOf d b = k) := ⟨_, rfl⟩
  have hS0 : Below w1.heap.size w1 w1 := Below.refl _ _
  clear h hb1 hcell
  by_cases hk : k = 0
  · subst hk
    have hoff : d.off = false ∧ b = true := by
      have := Hk.out
      unfold refuseOf at this
      revert this
      cases d.off <;> cases b <;> simp
    obtain ⟨ho, rfl⟩ := hoff
    have hin := of_decide_eq_true Hb.out
    have e : dgRead d a c t n = dreadOf d ((a : Int) * 1024 + t) n := by unfold dgRead; rw [ho, if_neg (by simp), if_pos hin]
    rw [e]
    clear e
    obtain ⟨i1, i2, i3⟩ := hin
    obtain ⟨y, hy⟩ : ∃ y : Int, (a : Int) * 1024 + t = y := ⟨_, rfl⟩
    have hwr : IntKind.i64.wrap ((a : Int) * 1024 + t) = y := by rw [hy]; exact IntWalk.i64_in _ (by omega)
    have y1 : -9223372036854775808 ≤ y ∧ y ≤ 9223372036854775807 := by omega
    rw [hy]
    clear hy
    have HRD : Hid (∀ W, Below w1.heap.size w1 W → Calls Try.prog 53 #[.pointer (some ⟨g, 0, none⟩), .int .i64 y, .int .i64 n] W (ReadPost W (dreadOf d y n))) := Lib.hid fun W hW => dread_any (HD.out W hW) _ n y1.1 y1.2 n1 n2 hlen
    clear ho
    go_enter Try.func43, Try.ntmps43
    go_wp2_with fail
    rw [Hw1.out]
    go_region_held3 (fun W => Below w1.heap.size w1 W) (first | assumption | exact Below.drew (by assumption)) (first
      | (go_at_call 42; refine (dgsize_any _ _ c _ hc).mono ?_; rintro e w4 ⟨rfl, hb4⟩; have kS := below_on (by assumption) hb4; clear hb4)
      | (go_at_call 51; refine (dgwithin_is Hb (by omega) t1 t2 n1 n2 (by omega)).mono ?_; rintro e w4 ⟨rfl, rfl⟩)
      | (go_at_call 52; refine (dgrefuse_is (HD.out _ (by assumption)) Hk _ _).mono ?_; rintro e w4 ⟨rfl, hb4⟩; have kS := below_on (by assumption) hb4; clear hb4))
    go_wp2_with fail
    go_region_held3 (fun W => Below w1.heap.size w1 W) (first | assumption | exact Below.drew (by assumption)) (first
      | (go_at_call 54; refine (dgstart_any _ _ a _ ha).mono ?_; rintro e w4 ⟨rfl, hb4⟩; have kS := below_on (by assumption) hb4; clear hb4)
      | (go_at_call 53; (with_reducible refine (HRD.out _ (by assumption)).mono ?_); rintro e w4 ⟨v, rfl, ho4, hb4⟩; have HO := Lib.hid (Ob.low ho4 (Nat.le_trans HB1.out.size (Below.size (by assumption)))); have kS := below_on (by assumption) hb4; clear hb4 ho4))
    all_goals
      go_wp2_with fail
      go_ret2
      exact ⟨_, rfl, HO.out, below_on HB1.out (by assumption)⟩
  · have e : dgRead d a c t n = ([], k) := by
      have h1 := Hk.out
      have h2 := Hb.out
      unfold refuseOf at h1
      unfold dgRead
      split
      · rename_i ho; rw [ho] at h1; rw [← h1]; rfl
      · rename_i ho
        rw [if_neg ho] at h1
        split
        · rename_i hin
          rw [decide_eq_true hin] at h2
          subst h2
          exact absurd h1.symm hk
        · rename_i hin
          rw [decide_eq_false hin] at h2
          subst h2
          rw [← h1]; rfl
    rw [e]
    clear e
    have hk2 : (k == 0) = false := by simpa using hk
    go_enter Try.func43, Try.ntmps43
    go_wp2_with fail
    rw [Hw1.out]
    go_region_held3 (fun W => Below w1.heap.size w1 W) (first | assumption | exact Below.drew (by assumption)) (first
      | (go_at_call 42; refine (dgsize_any _ _ c _ hc).mono ?_; rintro e w4 ⟨rfl, hb4⟩; have kS := below_on (by assumption) hb4; clear hb4)
      | (go_at_call 51; refine (dgwithin_is Hb (by omega) t1 t2 n1 n2 (by omega)).mono ?_; rintro e w4 ⟨rfl, rfl⟩)
      | (go_at_call 52; refine (dgrefuse_is (HD.out _ (by assumption)) Hk _ _).mono ?_; rintro e w4 ⟨rfl, hb4⟩; have kS := below_on (by assumption) hb4; clear hb4))
    go_wp2_with fail
    go_ret2
    exact ⟨_, rfl, Ob.nil_ _ _ _, below_on HB1.out (by assumption)⟩
end Go.Proofs.Ytcpkmhhlcmnfdaa

