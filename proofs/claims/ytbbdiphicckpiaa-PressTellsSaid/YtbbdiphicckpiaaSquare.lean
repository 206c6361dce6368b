/- The closures of roots.Square and Cube, and the two functions themselves. -/
import Derived.Test.YtbbdiphicckpiaaGreatest
namespace Go.Proofs.Ytbbdiphicckpiaa
open Go.RowKit
set_option linter.unusedVariables false
set_option maxRecDepth 100000

/-- a cell stays behind a new block -/
theorem cell_alloc {w : World} {a : Addr} {v : Value} (h : w.cell? a = some v) (o : Obj) : (w.alloc o).cell? a = some v := by
  have := World.block_lt_of_cell? w _ h
  rw [((Below.refl w.heap.size w).alloc (Nat.le_refl _) o).cell this]; exact h
theorem cell_below {w w' : World} {a : Addr} {v : Value} (h : w.cell? a = some v) (hb : Below w.heap.size w w') : w'.cell? a = some v := by
  rw [hb.cell (World.block_lt_of_cell? w _ h)]; exact h
theorem below_next {w w1 w2 : World} (h : Below w.heap.size w w1) (h2 : Below w1.heap.size w1 w2) : Below w.heap.size w w2 := h.trans (h2.mono h.size)
theorem below_alloc {w w1 : World} (h : Below w.heap.size w w1) (o : Obj) : Below w.heap.size w (w1.alloc o) := h.alloc h.size o

set_option maxHeartbeats 1600000 in
theorem cu1_any (g p x : Nat) (hx : x < 65536) (W : World) (hc : W.cell? ⟨g, 0, none⟩ = some (.int .u64 (p : Int))) :
    Calls Try.prog 33 #[.int .u64 (x : Int), .pointer (some ⟨g, 0, none⟩)] W fun e W' => e = .returned (.bool (decide (pw true x ≤ p))) ∧ Below W.heap.size W W' := by
  have hq : x * x ≤ 65535 * 65535 := Nat.mul_le_mul (by omega) (by omega)
  have hm : pw true x ≤ 65535 * 65535 * 65535 := Nat.mul_le_mul hq (by omega)
  have hw : ∃ q : Nat, IntKind.u64.wrap ((x : Int) * (x : Int)) = (q : Int) ∧ IntKind.u64.wrap ((q : Int) * (x : Int)) = ((pw true x : Nat) : Int) := by
    refine ⟨x * x, ?_, ?_⟩
    · rw [← Int.natCast_mul, IntKind.wrap_u64]; omega
    · rw [← Int.natCast_mul, show x * x * x = pw true x from rfl, IntKind.wrap_u64]; omega
  obtain ⟨q, w1, w2⟩ := hw
  generalize pw true x = m at *
  clear hx hm hq
  go_enter Try.func33, Try.ntmps33
  go_wp2
  go_ret
  exact ⟨rfl, Below.refl _ _⟩

theorem atMost2 (a0 a1 a2 a3 r : Nat) (ha0 : a0 < 18446744073709551616) (ha1 : a1 < 18446744073709551616) (ha2 : a2 < 18446744073709551616) (ha3 : a3 < 18446744073709551616) (hr : r < 18446744073709551616) (w : World) :
    Calls Try.prog 36 #[.agg #[.int .u64 (a0 : Int), .int .u64 (a1 : Int), .int .u64 (a2 : Int), .int .u64 (a3 : Int)], .agg #[.int .u64 0, .int .u64 0, .int .u64 (r : Int), .int .u64 0]] w fun e w' =>
      e = .returned (.bool (decide (val4 a0 a1 a2 a3 ≤ val4 0 0 r 0))) ∧ Below w.heap.size w w' :=
  atMost_any a0 a1 a2 a3 0 0 r 0 ha0 ha1 ha2 ha3 (by omega) (by omega) hr (by omega) w
theorem atMost3 (a0 a1 a2 a3 r : Nat) (ha0 : a0 < 18446744073709551616) (ha1 : a1 < 18446744073709551616) (ha2 : a2 < 18446744073709551616) (ha3 : a3 < 18446744073709551616) (hr : r < 18446744073709551616) (w : World) :
    Calls Try.prog 36 #[.agg #[.int .u64 (a0 : Int), .int .u64 (a1 : Int), .int .u64 (a2 : Int), .int .u64 (a3 : Int)], .agg #[.int .u64 0, .int .u64 0, .int .u64 0, .int .u64 (r : Int)]] w fun e w' =>
      e = .returned (.bool (decide (val4 a0 a1 a2 a3 ≤ val4 0 0 0 r))) ∧ Below w.heap.size w w' :=
  atMost_any a0 a1 a2 a3 0 0 0 r ha0 ha1 ha2 ha3 (by omega) (by omega) (by omega) hr w

theorem val4_two (x t : Nat) : val4 x t 0 0 = t * 18446744073709551616 + x := by unfold val4; omega
theorem val4_2 (r : Nat) : val4 0 0 r 0 = r * sc false := by
  have : sc false = 340282366920938463463374607431768211456 := by unfold sc; simp only [Bool.false_eq_true, if_false]
  rw [this]; unfold val4; omega
theorem val4_3 (r : Nat) : val4 0 0 0 r = r * sc true := by
  have : sc true = 6277101735386680763835789423207666416102355444464034512896 := by unfold sc; simp only [if_true]
  rw [this]; unfold val4; omega
theorem ex_sq (a x : Nat) : ex false a x = (2 * a * 18446744073709551616 + x) * x := by unfold ex; simp only [Bool.false_eq_true, if_false]
theorem ex_cu (a x : Nat) : ex true a x = ((3 * a * 18446744073709551616 + x) * x + 3 * a * a * 340282366920938463463374607431768211456) * x := by unfold ex; simp only [if_true]
theorem val4_up (a b c m : Nat) : val4 a b (c + m) 0 = val4 a b c 0 + m * 340282366920938463463374607431768211456 := by unfold val4; omega

set_option maxHeartbeats 1600000 in
theorem cu2_any (ga gr a r x : Nat) (ha : a < 65536) (hr : r < 18446744073709551616) (hx : x < 18446744073709551616) (W : World) (hca : W.cell? ⟨ga, 0, none⟩ = some (.int .u64 (a : Int))) (hcr : W.cell? ⟨gr, 0, none⟩ = some (.int .u64 (r : Int))) :
    Calls Try.prog 34 #[.int .u64 (x : Int), .pointer (some ⟨ga, 0, none⟩), .pointer (some ⟨gr, 0, none⟩)] W fun e W' => e = .returned (.bool (decide (ex true a x ≤ r * sc true))) ∧ Below W.heap.size W W' := by
  obtain ⟨t, ht⟩ : ∃ t : Nat, t = 3 * a := ⟨_, rfl⟩
  obtain ⟨m, hm⟩ : ∃ m : Nat, m = t * a := ⟨_, rfl⟩
  have hml : m ≤ 196605 * 65535 := by rw [hm]; exact Nat.mul_le_mul (by omega) (by omega)
  have hw1 : IntKind.u64.wrap (3 * (a : Int)) = (t : Int) := by rw [IntKind.wrap_u64]; omega
  have hw2 : IntKind.u64.wrap ((t : Int) * (a : Int)) = (m : Int) := by rw [← Int.natCast_mul, ← hm, IntKind.wrap_u64]; omega
  obtain ⟨r0, r1, r2, r3, HT, hv, k0, k1, k2, k3⟩ := times_ex x t 0 x hx (by omega) (by omega) hx
  have hbig : val4 x t 0 0 * x ≤ 3626777458843887524118527 * 18446744073709551615 := Nat.mul_le_mul (by unfold val4; omega) (by omega)
  obtain rfl : r3 = 0 := by rw [← hv] at hbig; unfold val4 at hbig; omega
  have hr2 : r2 ≤ 196608 := by rw [← hv] at hbig; unfold val4 at hbig; omega
  obtain ⟨s, hs⟩ : ∃ s : Nat, s = r2 + m := ⟨_, rfl⟩
  have hw3 : IntKind.u64.wrap ((r2 : Int) + (m : Int)) = (s : Int) := by rw [IntKind.wrap_u64]; omega
  have hsl : s < 18446744073709551616 := by omega
  obtain ⟨q0, q1, q2, q3, HU, hu, j0, j1, j2, j3⟩ := times_ex r0 r1 s x k0 k1 hsl hx
  have HA := Lib.hid (fun w => atMost3 q0 q1 q2 q3 r j0 j1 j2 j3 hr w)
  have hd : (decide (val4 q0 q1 q2 q3 ≤ val4 0 0 0 r)) = decide (ex true a x ≤ r * sc true) := by
    rw [val4_3, hu, hs, val4_up, hv, val4_two, hm, ht, ex_cu]
  rw [← hd]
  have HT' : Hid (∀ w : World, Calls Try.prog 35 #[.agg #[.int .u64 (x : Int), .int .u64 (t : Int), .int .u64 0, .int .u64 0], .int .u64 (x : Int)] w fun e w' =>
      e = .returned (.agg #[.int .u64 (r0 : Int), .int .u64 (r1 : Int), .int .u64 (r2 : Int), .int .u64 0]) ∧ Below w.heap.size w w') := HT
  clear hd hv hu k0 k1 k2 k3 j0 j1 j2 j3 HT ht hm hs hml hbig hr2 hsl ha hr hx
  go_enter Try.func34, Try.ntmps34
  go_wp2_with fail
  with_reducible refine (HT'.out _).mono ?_
  rintro e w1 ⟨rfl, hb1⟩
  have c1 := fun o => cell_alloc (cell_below hcr hb1) o
  have c2 := fun o => cell_alloc (cell_below hca hb1) o
  have hb1s : gr < w1.heap.size := World.block_lt_of_cell? w1 _ (cell_below hcr hb1)
  have HB1 := Lib.hid hb1
  clear hb1 HT' hcr hca
  go_wp2_with fail
  with_reducible refine (HU.out _).mono ?_
  rintro e w2 ⟨rfl, hb2⟩
  have hblk := hb2.block w1.heap.size (by simp)
  rw [heap_alloc_new] at hblk
  have hfz : ∀ j, w2.frozen? ⟨w1.heap.size, j, none⟩ = false := fun j => by simp [World.frozen?, hblk]
  have hC : ∀ j, w2.cell? ⟨w1.heap.size, j, none⟩ = _ := fun j => cell_of_row _ _ _ _ _ _ hblk
  have g0 := hC 0
  have g1 := hC 1
  have g2 := hC 2
  have g3 := hC 3
  simp at g0 g1 g2 g3
  have c3 := cell_below (c1 _) hb2
  have hne : ¬ gr = w1.heap.size := fun h => by have := hb1s; omega
  have HB2 := Lib.hid (below_next (below_alloc HB1.out _) hb2)
  have hge := HB1.out.size
  clear hb2 HB1 c1 c2 hw1 hw2 hw3 hblk hC hb1s
  go_wp2_with fail
  go_loud (with_reducible refine (HA.out _).mono ?_)
  rintro e w3 ⟨rfl, hb3⟩
  have HB3 : Hid (Below W.heap.size W w3) := Lib.hid (below_next ((((HB2.out.setCell (p := ⟨w1.heap.size, 0, none⟩) hge _).setCell (p := ⟨w1.heap.size, 1, none⟩) hge _).setCell (p := ⟨w1.heap.size, 2, none⟩) hge _).setCell (p := ⟨w1.heap.size, 3, none⟩) hge _) hb3)
  clear hb3 HB2
  go_wp2_with fail
  go_ret
  exact ⟨rfl, HB3⟩
end Go.Proofs.Ytbbdiphicckpiaa

