/- The contracts of bootjacklaw3.num and alive, of the calls on the zero region, and of RegionNone. -/
import Derived.Test.YtcpkmhhlcmnfdaaDevRegion3
import Derived.Test.YtcpkmhhlcmnfdaaPair
namespace Go.Proofs.Ytcpkmhhlcmnfdaa
open Go.RowKit
set_option linter.unusedVariables false
set_option maxRecDepth 100000

/-- a region over a flash: Of -/
theorem dof_any {g gB gW cB cW N : Nat} {d : Dl} {w : World} (h : DevFl w g gB gW cB cW N d) (ok : DlOk d) (n : Nat) (hn : d.worn.length = n) (a c : Int) (a1 : -9223372036854775808 ≤ a) (a2 : a ≤ 9223372036854775807) (c1 : -9223372036854775808 ≤ c) (c2 : c ≤ 9223372036854775807) :
    Calls Try.prog 14 #[.pointer (some ⟨g, 0, none⟩), .int .i64 a, .int .i64 c] w (PartPost w (.pointer (some ⟨g, 0, none⟩)) a c (ofB n a c)) := by
  have h1 := ok.len
  have h2 := ok.few
  exact dof_is (some ⟨g, 0, none⟩) n (by omega) (d.b.length : Int) (by omega) w (fun W hW => dsize_any (h.below hW)) a c a1 a2 c1 c2

section
variable (t n : Int) (w : World)
set_option maxHeartbeats 800000 in
theorem zread_any (t1 : -9223372036854775808 ≤ t) (t2 : t ≤ 9223372036854775807) (n1 : -9223372036854775808 ≤ n) (n2 : n ≤ 9223372036854775807) :
    Calls Try.prog 43 #[.agg #[.pointer none, .int .i64 0, .int .i64 0], .int .i64 t, .int .i64 n] w fun e w' => e = .returned (.tuple #[.slice none 0 0, .int .i64 2]) ∧ Below w.heap.size w w' := by
  have hcell := box_cells w (.pointer none) (.int .i64 0) (.int .i64 0) 35
  obtain ⟨w1, Hw1⟩ : ∃ w1, Hid (w.alloc (.cells #[.pointer none, .int .i64 0, .int .i64 0] 35) = w1) := ⟨_, rfl⟩
  have hb1 : Below w.heap.size w w1 := by rw [← Hw1.out]; exact (Below.refl _ _).alloc (Nat.le_refl _) _
  rw [Hw1.out] at hcell
  have HB1 := Lib.hid hb1
  have L0 : ∀ W, Below w1.heap.size w1 W → W.cell? ⟨w.heap.size, 0, none⟩ = some (.pointer none) := fun W hW => (hcell W hW).1
  have L1 : ∀ W, Below w1.heap.size w1 W → W.cell? ⟨w.heap.size, 1, none⟩ = some (.int .i64 0) := fun W hW => (hcell W hW).2.1
  have L2 : ∀ W, Below w1.heap.size w1 W → W.cell? ⟨w.heap.size, 2, none⟩ = some (.int .i64 0) := fun W hW => (hcell W hW).2.2
  obtain ⟨b, Hb⟩ : ∃ b, Hid (decide (0 ≤ t ∧ 0 ≤ n ∧ t + n ≤ 0) = b) := ⟨_, rfl⟩
  have hS0 : Below w1.heap.size w1 w1 := Below.refl _ _
  have hsz : Hid (∀ W, Calls Try.prog 42 #[.agg #[.pointer none, .int .i64 0, .int .i64 0]] W fun e w' => e = .returned (.int .i64 0) ∧ Below W.heap.size W w') := Lib.hid fun W => dgsize_any _ 0 0 W (by omega)
  clear hb1 hcell
  go_enter Try.func43, Try.ntmps43
  go_wp2_with fail
  rw [Hw1.out]
  go_region_held3 (fun W => Below w1.heap.size w1 W) (first | assumption | exact Below.drew (by assumption)) (first
    | (go_at_call 42; refine (hsz.out _).mono ?_; rintro e w4 ⟨rfl, hb4⟩; have kS := below_on (by assumption) hb4; clear hb4)
    | (go_at_call 51; refine (dgwithin_is Hb (by omega) t1 t2 n1 n2 (by omega)).mono ?_; rintro e w4 ⟨rfl, rfl⟩)
    | (go_at_call 52; refine (dgrefuse_none _ _ _ _).mono ?_; rintro e w4 ⟨rfl, hb4⟩; have kS := below_on (by assumption) hb4; clear hb4))
  go_wp2_with fail
  go_ret2
  exact ⟨rfl, below_on HB1.out kS⟩

set_option maxHeartbeats 800000 in
theorem zprog_any (t1 : -9223372036854775808 ≤ t) (t2 : t ≤ 9223372036854775807) (A : Option Addr) (z c : Nat) (hz : z ≤ 2147483648) :
    Calls Try.prog 57 #[.agg #[.pointer none, .int .i64 0, .int .i64 0], .int .i64 t, .slice A z c] w fun e w' => e = .returned (.int .i64 2) ∧ Below w.heap.size w w' := by
  have hcell := box_cells w (.pointer none) (.int .i64 0) (.int .i64 0) 35
  obtain ⟨w1, Hw1⟩ : ∃ w1, Hid (w.alloc (.cells #[.pointer none, .int .i64 0, .int .i64 0] 35) = w1) := ⟨_, rfl⟩
  have hb1 : Below w.heap.size w w1 := by rw [← Hw1.out]; exact (Below.refl _ _).alloc (Nat.le_refl _) _
  rw [Hw1.out] at hcell
  have HB1 := Lib.hid hb1
  have L0 : ∀ W, Below w1.heap.size w1 W → W.cell? ⟨w.heap.size, 0, none⟩ = some (.pointer none) := fun W hW => (hcell W hW).1
  have L1 : ∀ W, Below w1.heap.size w1 W → W.cell? ⟨w.heap.size, 1, none⟩ = some (.int .i64 0) := fun W hW => (hcell W hW).2.1
  have L2 : ∀ W, Below w1.heap.size w1 W → W.cell? ⟨w.heap.size, 2, none⟩ = some (.int .i64 0) := fun W hW => (hcell W hW).2.2
  obtain ⟨b, Hb⟩ : ∃ b, Hid (decide (0 ≤ t ∧ 0 ≤ (z : Int) ∧ t + (z : Int) ≤ 0) = b) := ⟨_, rfl⟩
  have hS0 : Below w1.heap.size w1 w1 := Below.refl _ _
  have hsz : Hid (∀ W, Calls Try.prog 42 #[.agg #[.pointer none, .int .i64 0, .int .i64 0]] W fun e w' => e = .returned (.int .i64 0) ∧ Below W.heap.size W w') := Lib.hid fun W => dgsize_any _ 0 0 W (by omega)
  clear hb1 hcell
  go_enter Try.func57, Try.ntmps57
  go_wp2_with fail
  rw [Hw1.out]
  go_region_held3 (fun W => Below w1.heap.size w1 W) (first | assumption | exact Below.drew (by assumption)) (first
    | (go_at_call 42; refine (hsz.out _).mono ?_; rintro e w4 ⟨rfl, hb4⟩; have kS := below_on (by assumption) hb4; clear hb4)
    | (go_at_call 51; refine (dgwithin_is Hb (by omega) t1 t2 (by omega) (by omega) (by omega)).mono ?_; rintro e w4 ⟨rfl, rfl⟩)
    | (go_at_call 52; refine (dgrefuse_none _ _ _ _).mono ?_; rintro e w4 ⟨rfl, hb4⟩; have kS := below_on (by assumption) hb4; clear hb4))
  go_wp2_with fail
  go_ret
  exact ⟨rfl, below_on HB1.out kS⟩

set_option maxHeartbeats 800000 in
theorem zerase_any (t1 : -9223372036854775808 ≤ t) (t2 : t ≤ 9223372036854775807) :
    Calls Try.prog 67 #[.agg #[.pointer none, .int .i64 0, .int .i64 0], .int .i64 t] w fun e w' => e = .returned (.int .i64 2) ∧ Below w.heap.size w w' := by
  have hcell := box_cells w (.pointer none) (.int .i64 0) (.int .i64 0) 35
  obtain ⟨w1, Hw1⟩ : ∃ w1, Hid (w.alloc (.cells #[.pointer none, .int .i64 0, .int .i64 0] 35) = w1) := ⟨_, rfl⟩
  have hb1 : Below w.heap.size w w1 := by rw [← Hw1.out]; exact (Below.refl _ _).alloc (Nat.le_refl _) _
  rw [Hw1.out] at hcell
  have HB1 := Lib.hid hb1
  have L0 : ∀ W, Below w1.heap.size w1 W → W.cell? ⟨w.heap.size, 0, none⟩ = some (.pointer none) := fun W hW => (hcell W hW).1
  have L1 : ∀ W, Below w1.heap.size w1 W → W.cell? ⟨w.heap.size, 1, none⟩ = some (.int .i64 0) := fun W hW => (hcell W hW).2.1
  have L2 : ∀ W, Below w1.heap.size w1 W → W.cell? ⟨w.heap.size, 2, none⟩ = some (.int .i64 0) := fun W hW => (hcell W hW).2.2
  obtain ⟨b, Hb⟩ : ∃ b, Hid (decide (0 ≤ t ∧ 0 ≤ (1 : Int) ∧ t + 1 ≤ 0) = b) := ⟨_, rfl⟩
  have hS0 : Below w1.heap.size w1 w1 := Below.refl _ _
  clear hb1 hcell
  go_enter Try.func67, Try.ntmps67
  go_wp2_with fail
  rw [Hw1.out]
  go_region_held3 (fun W => Below w1.heap.size w1 W) (first | assumption | exact Below.drew (by assumption)) (first
    | (go_at_call 51; refine (dgwithin_is Hb (by omega) t1 t2 (by omega) (by omega) (by omega)).mono ?_; rintro e w4 ⟨rfl, rfl⟩)
    | (go_at_call 52; refine (dgrefuse_none _ _ _ _).mono ?_; rintro e w4 ⟨rfl, hb4⟩; have kS := below_on (by assumption) hb4; clear hb4))
  go_wp2_with fail
  go_ret
  exact ⟨rfl, below_on HB1.out kS⟩

set_option maxHeartbeats 800000 in
theorem zblank_any (t1 : -9223372036854775808 ≤ t) (t2 : t ≤ 9223372036854775807) :
    Calls Try.prog 66 #[.agg #[.pointer none, .int .i64 0, .int .i64 0], .int .i64 t] w fun e w' => e = .returned (.tuple #[.bool false, .int .i64 2]) ∧ Below w.heap.size w w' := by
  have hcell := box_cells w (.pointer none) (.int .i64 0) (.int .i64 0) 35
  obtain ⟨w1, Hw1⟩ : ∃ w1, Hid (w.alloc (.cells #[.pointer none, .int .i64 0, .int .i64 0] 35) = w1) := ⟨_, rfl⟩
  have hb1 : Below w.heap.size w w1 := by rw [← Hw1.out]; exact (Below.refl _ _).alloc (Nat.le_refl _) _
  rw [Hw1.out] at hcell
  have HB1 := Lib.hid hb1
  have L0 : ∀ W, Below w1.heap.size w1 W → W.cell? ⟨w.heap.size, 0, none⟩ = some (.pointer none) := fun W hW => (hcell W hW).1
  have L1 : ∀ W, Below w1.heap.size w1 W → W.cell? ⟨w.heap.size, 1, none⟩ = some (.int .i64 0) := fun W hW => (hcell W hW).2.1
  have L2 : ∀ W, Below w1.heap.size w1 W → W.cell? ⟨w.heap.size, 2, none⟩ = some (.int .i64 0) := fun W hW => (hcell W hW).2.2
  obtain ⟨b, Hb⟩ : ∃ b, Hid (decide (0 ≤ t ∧ 0 ≤ (1 : Int) ∧ t + 1 ≤ 0) = b) := ⟨_, rfl⟩
  have hS0 : Below w1.heap.size w1 w1 := Below.refl _ _
  clear hb1 hcell
  go_enter Try.func66, Try.ntmps66
  go_wp2_with fail
  rw [Hw1.out]
  go_region_held3 (fun W => Below w1.heap.size w1 W) (first | assumption | exact Below.drew (by assumption)) (first
    | (go_at_call 51; refine (dgwithin_is Hb (by omega) t1 t2 (by omega) (by omega) (by omega)).mono ?_; rintro e w4 ⟨rfl, rfl⟩)
    | (go_at_call 52; refine (dgrefuse_none _ _ _ _).mono ?_; rintro e w4 ⟨rfl, hb4⟩; have kS := below_on (by assumption) hb4; clear hb4))
  go_wp2_with fail
  go_ret2
  exact ⟨rfl, below_on HB1.out kS⟩
end
end Go.Proofs.Ytcpkmhhlcmnfdaa

