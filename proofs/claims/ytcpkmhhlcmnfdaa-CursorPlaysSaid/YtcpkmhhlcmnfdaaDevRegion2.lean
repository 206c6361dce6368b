/- The contracts of the program's Region: Program, Erase, IsBlank. -/
import Derived.Test.YtcpkmhhlcmnfdaaDevRegion
namespace Go.Proofs.Ytcpkmhhlcmnfdaa
open Go.RowKit
set_option linter.unusedVariables false
set_option maxRecDepth 100000

theorem refuse_zero {d : Dl} {b : Bool} (h : refuseOf d b = 0) : d.off = false ∧ b = true := by
  unfold refuseOf at h
  revert h
  cases d.off <;> cases b <;> simp
theorem refuse_ne {d : Dl} {b : Bool} {k : Int} (h : refuseOf d b = k) (hk : k ≠ 0) : (d.off = true ∧ k = 5) ∨ (d.off = false ∧ b = false ∧ k = 2) := by
  unfold refuseOf at h
  revert h
  cases d.off <;> cases b <;> simp <;> omega

theorem flF_old {g gB gW cB cW N : Nat} {d : Dl} {w : World} (h : DevFl w g gB gW cB cW N d) {j : Nat} (hj : w.heap.size ≤ j) : ¬ FlF g gB gW j := by
  obtain ⟨h1, h2, h3⟩ := h.blk
  rintro (rfl | rfl | rfl) <;> omega
/-- .. in whatever world that keeps off the box -/
theorem box_only (w : World) (q x y : Value) (E : TypeId) (F : Nat → Prop) (hF : ¬ F w.heap.size) : ∀ W, Only F (w.alloc (.cells #[q, x, y] E)) W →
    W.cell? ⟨w.heap.size, 0, none⟩ = some q ∧ W.cell? ⟨w.heap.size, 1, none⟩ = some x ∧ W.cell? ⟨w.heap.size, 2, none⟩ = some y := fun W hW => by
  have hg := (hW.block w.heap.size (by simp) hF).trans (heap_alloc_new w _)
  exact ⟨by rw [cell_of_row _ _ _ _ _ _ hg]; rfl, by rw [cell_of_row _ _ _ _ _ _ hg]; rfl, by rw [cell_of_row _ _ _ _ _ _ hg]; rfl⟩

set_option maxRecDepth 100000 in
set_option maxHeartbeats 1600000 in
theorem dgprog_any {g gB gW cB cW N : Nat} {d : Dl} {w : World} (h : DevFl w g gB gW cB cW N d) (ok : DlOk d) (a c : Nat) (ha : a ≤ 65536) (hc : c ≤ 65536) (t : Int) (t1 : -9223372036854775808 ≤ t) (t2 : t ≤ 9223372036854775807)
    (A : Option Addr) (m : List UInt8) (z : Nat) (hm : Bs w A m) (hA : Off (FlF g gB gW) A m) (hz : m.length ≤ z) (hmz : m.length ≤ 2147483648) (hst : d.steps + m.length ≤ 4611686018427387904) :
    Calls Try.prog 57 #[.agg #[.pointer (some ⟨g, 0, none⟩), .int .i64 (a : Int), .int .i64 (c : Int)], .int .i64 t, .slice A m.length z] w (DErasePost w g gB gW cB cW N (dgProg d a c t m)) := by
  have hcell := box_only w (.pointer (some ⟨g, 0, none⟩)) (.int .i64 (a : Int)) (.int .i64 (c : Int)) 35 (FlF g gB gW) (flF_old h (Nat.le_refl _))
  obtain ⟨w1, Hw1⟩ : ∃ w1, Hid (w.alloc (.cells #[.pointer (some ⟨g, 0, none⟩), .int .i64 (a : Int), .int .i64 (c : Int)] 35) = w1) := ⟨_, rfl⟩
  have hb1 : Below w.heap.size w w1 := by rw [← Hw1.out]; exact (Below.refl _ _).alloc (Nat.le_refl _) _
  rw [Hw1.out] at hcell
  have HB1 := Lib.hid hb1
  have HDx : Hid (DevFl w1.drew g gB gW cB cW N d) := Lib.hid ((h.below hb1).below (Below.refl _ _).drew)
  have L0 : ∀ W, Only (FlF g gB gW) w1 W → W.cell? ⟨w.heap.size, 0, none⟩ = some (.pointer (some ⟨g, 0, none⟩)) := fun W hW => (hcell W hW).1
  have L1 : ∀ W, Only (FlF g gB gW) w1 W → W.cell? ⟨w.heap.size, 1, none⟩ = some (.int .i64 (a : Int)) := fun W hW => (hcell W hW).2.1
  have L2 : ∀ W, Only (FlF g gB gW) w1 W → W.cell? ⟨w.heap.size, 2, none⟩ = some (.int .i64 (c : Int)) := fun W hW => (hcell W hW).2.2
  have HM : Hid (∀ W, Only (FlF g gB gW) w1 W → Bs W A m) := Lib.hid fun W hW => (hm.below hb1).offs hA hW
  obtain ⟨b, Hb⟩ : ∃ b, Hid (decide (0 ≤ t ∧ 0 ≤ (m.length : Int) ∧ t + (m.length : Int) ≤ (c : Int) * 1024) = b) := ⟨_, rfl⟩
  obtain ⟨k, Hk⟩ : ∃ k, Hid (refuseOf d b = k) := ⟨_, rfl⟩
  have hS0 : Only (FlF g gB gW) w1 w1 := Only.refl _ _
  clear h hb1 hcell hm
  by_cases hk : k = 0
  · subst hk
    obtain ⟨ho, rfl⟩ := refuse_zero Hk.out
    have hin := of_decide_eq_true Hb.out
    have e : dgProg d a c t m = dprogOf d ((a : Int) * 1024 + t) m := by unfold dgProg; rw [ho, if_neg (by simp), if_pos ⟨hin.1, hin.2.2⟩]
    rw [e]
    clear e
    obtain ⟨i1, i2, i3⟩ := hin
    obtain ⟨y, hy⟩ : ∃ y : Int, (a : Int) * 1024 + t = y := ⟨_, rfl⟩
    have hwr : IntKind.i64.wrap ((a : Int) * 1024 + t) = y := by rw [hy]; exact IntWalk.i64_in _ (by omega)
    have y1 : -9223372036854775808 ≤ y ∧ y ≤ 9223372036854775807 := by omega
    rw [hy]
    clear hy
    obtain ⟨kc, d', Hd⟩ : ∃ kc d', Hid (dprogOf d y m = (kc, d')) := ⟨_, _, rfl⟩
    rw [Hd.out]
    have HPR : Hid (∀ W, Only (FlF g gB gW) w1 W → DevFl W g gB gW cB cW N d → Calls Try.prog 63 #[.pointer (some ⟨g, 0, none⟩), .int .i64 y, .slice A m.length z] W (DErasePost W g gB gW cB cW N (kc, d'))) := Lib.hid fun W hW hD => by rw [← Hd.out]; exact dprog_any hD ok y A m z (HM.out W hW) hA hz y1.1 y1.2 hmz hst
    clear ho
    go_enter Try.func57, Try.ntmps57
    go_wp2_with fail
    rw [Hw1.out]
    go_region_held3 (fun W => Only (FlF g gB gW) w1 W) (first | assumption | exact Only.drew (by assumption)) (first
      | (go_at_call 42; refine (dgsize_any _ _ c _ hc).mono ?_; rintro e w4 ⟨rfl, hb4⟩; have HDx := Lib.hid (HDx.out.below hb4); have kS := Only.trans (by assumption) (Only.of_below hb4); clear hb4)
      | (go_at_call 51; refine (dgwithin_is Hb (by omega) t1 t2 (by omega) (by omega) (by omega)).mono ?_; rintro e w4 ⟨rfl, rfl⟩)
      | (go_at_call 52; refine (dgrefuse_is HDx.out Hk _ _).mono ?_; rintro e w4 ⟨rfl, hb4⟩; have HDx := Lib.hid (HDx.out.below (hb4.trans (Below.refl _ _).drew)); have kS := Only.trans (by assumption) (Only.of_below hb4); clear hb4))
    go_wp2_with fail
    go_region_held3 (fun W => Only (FlF g gB gW) w1 W) (first | assumption | exact Only.drew (by assumption)) (first
      | (go_at_call 54; refine (dgstart_any _ _ a _ ha).mono ?_; rintro e w4 ⟨rfl, hb4⟩; have HDx := Lib.hid (HDx.out.below hb4); have kS := Only.trans (by assumption) (Only.of_below hb4); clear hb4)
      | (go_at_call 63; (with_reducible refine (HPR.out _ (by assumption) HDx.out).mono ?_); rintro e w4 ⟨rfl, hd4, ho4⟩; have HDx := Lib.hid hd4; have kS := Only.trans (by assumption) ho4; clear hd4 ho4))
    all_goals
      go_wp2_with fail
      go_ret
      exact ⟨rfl, HDx.out, (Only.of_below HB1.out).trans (by assumption)⟩
  · have e : dgProg d a c t m = (k, d) := by
      unfold dgProg
      rcases refuse_ne Hk.out hk with ⟨ho, rfl⟩ | ⟨ho, rfl, rfl⟩
      · rw [if_pos ho]
      · have := of_decide_eq_false Hb.out
        rw [if_neg (by rw [ho]; simp), if_neg (fun h => this ⟨h.1, by omega, h.2⟩)]
    rw [e]
    clear e
    have hk2 : (k == 0) = false := by simpa using hk
    go_enter Try.func57, Try.ntmps57
    go_wp2_with fail
    rw [Hw1.out]
    go_region_held3 (fun W => Only (FlF g gB gW) w1 W) (first | assumption | exact Only.drew (by assumption)) (first
      | (go_at_call 42; refine (dgsize_any _ _ c _ hc).mono ?_; rintro e w4 ⟨rfl, hb4⟩; have HDx := Lib.hid (HDx.out.below hb4); have kS := Only.trans (by assumption) (Only.of_below hb4); clear hb4)
      | (go_at_call 51; refine (dgwithin_is Hb (by omega) t1 t2 (by omega) (by omega) (by omega)).mono ?_; rintro e w4 ⟨rfl, rfl⟩)
      | (go_at_call 52; refine (dgrefuse_is HDx.out Hk _ _).mono ?_; rintro e w4 ⟨rfl, hb4⟩; have HDx := Lib.hid (HDx.out.below hb4); have kS := Only.trans (by assumption) (Only.of_below hb4); clear hb4))
    go_wp2_with fail
    go_ret
    exact ⟨rfl, HDx.out, (Only.of_below HB1.out).trans (by assumption)⟩

set_option maxRecDepth 100000 in
set_option maxHeartbeats 1600000 in
theorem dgerase_any {g gB gW cB cW N : Nat} {d : Dl} {w : World} (h : DevFl w g gB gW cB cW N d) (ok : DlOk d) (a c : Nat) (ha : a ≤ 65536) (hc : c ≤ 65536) (s : Int) (s1 : -9223372036854775808 ≤ s) (s2 : s ≤ 9223372036854775807) :
    Calls Try.prog 67 #[.agg #[.pointer (some ⟨g, 0, none⟩), .int .i64 (a : Int), .int .i64 (c : Int)], .int .i64 s] w (DErasePost w g gB gW cB cW N (dgErase d a c s)) := by
  have hcell := box_cells w (.pointer (some ⟨g, 0, none⟩)) (.int .i64 (a : Int)) (.int .i64 (c : Int)) 35
  obtain ⟨w1, Hw1⟩ : ∃ w1, Hid (w.alloc (.cells #[.pointer (some ⟨g, 0, none⟩), .int .i64 (a : Int), .int .i64 (c : Int)] 35) = w1) := ⟨_, rfl⟩
  have hb1 : Below w.heap.size w w1 := by rw [← Hw1.out]; exact (Below.refl _ _).alloc (Nat.le_refl _) _
  rw [Hw1.out] at hcell
  have HB1 := Lib.hid hb1
  have H1 := Lib.hid (h.below hb1)
  have L0 : ∀ W, Below w1.heap.size w1 W → W.cell? ⟨w.heap.size, 0, none⟩ = some (.pointer (some ⟨g, 0, none⟩)) := fun W hW => (hcell W hW).1
  have L1 : ∀ W, Below w1.heap.size w1 W → W.cell? ⟨w.heap.size, 1, none⟩ = some (.int .i64 (a : Int)) := fun W hW => (hcell W hW).2.1
  have L2 : ∀ W, Below w1.heap.size w1 W → W.cell? ⟨w.heap.size, 2, none⟩ = some (.int .i64 (c : Int)) := fun W hW => (hcell W hW).2.2
  have HD : Hid (∀ W, Below w1.heap.size w1 W → DevFl W g gB gW cB cW N d) := Lib.hid fun W hW => H1.out.below hW
  obtain ⟨b, Hb⟩ : ∃ b, Hid (decide (0 ≤ s ∧ 0 ≤ (1 : Int) ∧ s + 1 ≤ (c : Int)) = b) := ⟨_, rfl⟩
  obtain ⟨k, Hk⟩ : ∃ k, Hid (refuseOf d b = k) := ⟨_, rfl⟩
  have hS0 : Below w1.heap.size w1 w1 := Below.refl _ _
  clear h hb1 hcell
  by_cases hk : k = 0
  · subst hk
    obtain ⟨ho, rfl⟩ := refuse_zero Hk.out
    have hin := of_decide_eq_true Hb.out
    have e : dgErase d a c s = deraseOf d ((a : Int) + s) := by unfold dgErase; rw [ho, if_neg (by simp), if_pos ⟨hin.1, by omega⟩]
    rw [e]
    clear e
    obtain ⟨i1, i2, i3⟩ := hin
    obtain ⟨kc, d', Hd⟩ : ∃ kc d', Hid (deraseOf d ((a : Int) + s) = (kc, d')) := ⟨_, _, rfl⟩
    rw [Hd.out]
    clear ho
    go_enter Try.func67, Try.ntmps67
    go_wp2_with fail
    rw [Hw1.out]
    go_region_held3 (fun W => Below w1.heap.size w1 W) (first | assumption | exact Below.drew (by assumption)) (first
      | (go_at_call 51; refine (dgwithin_is Hb (by omega) s1 s2 (by omega) (by omega) (by omega)).mono ?_; rintro e w4 ⟨rfl, rfl⟩)
      | (go_at_call 52; refine (dgrefuse_is (HD.out _ (by assumption)) Hk _ _).mono ?_; rintro e w4 ⟨rfl, hb4⟩; have kS := below_on (by assumption) hb4; clear hb4))
    have m0 := L0 w4 kS
    have m1 := L1 w4 kS
    have m2 := L2 w4 kS
    have hER := derase_any (HD.out w4 kS) ok ((a : Int) + s)
    rw [Hd.out] at hER
    have HER := Lib.hid hER
    clear hER
    go_wp2_with (go_at_call 76; (with_reducible refine HER.out.mono ?_); rintro e w5 ⟨rfl, hd5, ho5⟩; have HD5 := Lib.hid hd5; have HO5 := Lib.hid ho5; clear hd5 ho5)
    go_ret
    exact ⟨rfl, HD5.out, (Only.of_below (below_on HB1.out kS)).trans HO5.out⟩
  · have e : dgErase d a c s = (k, d) := by
      unfold dgErase
      rcases refuse_ne Hk.out hk with ⟨ho, rfl⟩ | ⟨ho, rfl, rfl⟩
      · rw [if_pos ho]
      · have := of_decide_eq_false Hb.out
        rw [if_neg (by rw [ho]; simp), if_neg (fun h => this ⟨h.1, by omega, by omega⟩)]
    rw [e]
    clear e
    have hk2 : (k == 0) = false := by simpa using hk
    go_enter Try.func67, Try.ntmps67
    go_wp2_with fail
    rw [Hw1.out]
    go_region_held3 (fun W => Below w1.heap.size w1 W) (first | assumption | exact Below.drew (by assumption)) (first
      | (go_at_call 51; refine (dgwithin_is Hb (by omega) s1 s2 (by omega) (by omega) (by omega)).mono ?_; rintro e w4 ⟨rfl, rfl⟩)
      | (go_at_call 52; refine (dgrefuse_is (HD.out _ (by assumption)) Hk _ _).mono ?_; rintro e w4 ⟨rfl, hb4⟩; have kS := below_on (by assumption) hb4; clear hb4))
    go_wp2_with fail
    go_ret
    exact ⟨rfl, HD.out w4 kS, Only.of_below (below_on HB1.out kS)⟩

set_option maxRecDepth 100000 in
set_option maxHeartbeats 1600000 in
theorem dgblank_any {g gB gW cB cW N : Nat} {d : Dl} {w : World} (h : DevFl w g gB gW cB cW N d) (a c : Nat) (ha : a ≤ 65536) (hc : c ≤ 65536) (s : Int) (s1 : -9223372036854775808 ≤ s) (s2 : s ≤ 9223372036854775807) (hlen : d.b.length ≤ 2147483648) (hrg : (a + c) * 1024 ≤ d.b.length) :
    Calls Try.prog 66 #[.agg #[.pointer (some ⟨g, 0, none⟩), .int .i64 (a : Int), .int .i64 (c : Int)], .int .i64 s] w (FlagPost w (dgBlank d a c s)) := by
  have hcell := box_cells w (.pointer (some ⟨g, 0, none⟩)) (.int .i64 (a : Int)) (.int .i64 (c : Int)) 35
  obtain ⟨w1, Hw1⟩ : ∃ w1, Hid (w.alloc (.cells #[.pointer (some ⟨g, 0, none⟩), .int .i64 (a : Int), .int .i64 (c : Int)] 35) = w1) := ⟨_, rfl⟩
  have hb1 : Below w.heap.size w w1 := by rw [← Hw1.out]; exact (Below.refl _ _).alloc (Nat.le_refl _) _
  rw [Hw1.out] at hcell
  have HB1 := Lib.hid hb1
  have H1 := Lib.hid (h.below hb1)
  have L0 : ∀ W, Below w1.heap.size w1 W → W.cell? ⟨w.heap.size, 0, none⟩ = some (.pointer (some ⟨g, 0, none⟩)) := fun W hW => (hcell W hW).1
  have L1 : ∀ W, Below w1.heap.size w1 W → W.cell? ⟨w.heap.size, 1, none⟩ = some (.int .i64 (a : Int)) := fun W hW => (hcell W hW).2.1
  have L2 : ∀ W, Below w1.heap.size w1 W → W.cell? ⟨w.heap.size, 2, none⟩ = some (.int .i64 (c : Int)) := fun W hW => (hcell W hW).2.2
  have HD : Hid (∀ W, Below w1.heap.size w1 W → DevFl W g gB gW cB cW N d) := Lib.hid fun W hW => H1.out.below hW
  obtain ⟨b, Hb⟩ : ∃ b, Hid (decide (0 ≤ s ∧ 0 ≤ (1 : Int) ∧ s + 1 ≤ (c : Int)) = b) := ⟨_, rfl⟩
  obtain ⟨k, Hk⟩ : ∃ k, Hid (refuseOf d b = k) := ⟨_, rfl⟩
  have hS0 : Below w1.heap.size w1 w1 := Below.refl _ _
  clear h hb1 hcell
  by_cases hk : k = 0
  · subst hk
    obtain ⟨ho, rfl⟩ := refuse_zero Hk.out
    have hin := of_decide_eq_true Hb.out
    obtain ⟨i1, i2, i3⟩ := hin
    obtain ⟨rl, Hr⟩ : ∃ rl, Hid (cut d.b (((a : Int) + s) * 1024).toNat 1024 = rl) := ⟨_, rfl⟩
    have e : dgBlank d a c s = (rl.all (· == 255), 0) := by
      unfold dgBlank dgRead
      rw [ho, if_neg (by simp), if_pos ⟨i1, by omega⟩, if_neg (by simp), if_pos ⟨by omega, by omega, by omega⟩]
      unfold dreadOf
      rw [ho, if_neg (by simp), if_pos ⟨by omega, by omega, by omega⟩, ← Hr.out]
      show (List.all (cut d.b ((a : Int) * 1024 + s * 1024).toNat 1024) _, _) = _
      rw [show (a : Int) * 1024 + s * 1024 = ((a : Int) + s) * 1024 by omega]
    rw [e]
    clear e
    have hrl : rl.length = 1024 := by rw [← Hr.out]; exact cut_len (by omega)
    have Hrl := Lib.hid hrl
    have HRD : Hid (∀ W, Below w1.heap.size w1 W → Calls Try.prog 53 #[.pointer (some ⟨g, 0, none⟩), .int .i64 (((a : Int) + s) * 1024), .int .i64 1024] W (ReadPost W (rl, 0))) := Lib.hid fun W hW => by
      have := dread_any (HD.out W hW) (((a : Int) + s) * 1024) 1024 (by omega) (by omega) (by omega) (by omega) hlen
      unfold dreadOf at this
      rw [ho, if_neg (by simp), if_pos ⟨by omega, by omega, by omega⟩] at this
      rw [← Hr.out]
      exact this
    obtain ⟨q, Hq⟩ : ∃ q, Hid (rl.all (· == 255) = q) := ⟨_, rfl⟩
    clear ho hrl
    go_enter Try.func66, Try.ntmps66
    go_wp2_with fail
    rw [Hw1.out]
    go_region_held3 (fun W => Below w1.heap.size w1 W) (first | assumption | exact Below.drew (by assumption)) (first
      | (go_at_call 51; refine (dgwithin_is Hb (by omega) s1 s2 (by omega) (by omega) (by omega)).mono ?_; rintro e w4 ⟨rfl, rfl⟩)
      | (go_at_call 52; refine (dgrefuse_is (HD.out _ (by assumption)) Hk _ _).mono ?_; rintro e w4 ⟨rfl, hb4⟩; have kS := below_on (by assumption) hb4; clear hb4))
    have m0 := L0 w4 kS
    have m1 := L1 w4 kS
    have m2 := L2 w4 kS
    have HR4 := Lib.hid (HRD.out w4 kS)
    go_wp2_with fail
    (with_reducible refine HR4.out.mono ?_)
    rintro e w5 ⟨v, rfl, ho5, hb5⟩
    obtain ⟨A5, c5, rfl, hbs5, -⟩ := ho5.form
    have HB5 := Lib.hid (below_on (below_on HB1.out kS) hb5)
    have HIB : Hid (Calls Try.prog 31 #[.slice A5 rl.length c5] w5 fun e w' => e = .returned (.bool q) ∧ w5 = w') := Lib.hid (by rw [← Hq.out]; exact isBlank_any A5 rl c5 w5 hbs5 (by rw [Hrl.out]; omega))
    clear ho5 hb5 hbs5
    go_wp2_with (go_at_call 31; (with_reducible refine HIB.out.mono ?_); rintro e w6 ⟨rfl, rfl⟩)
    go_ret2
    refine ⟨?_, HB5.out⟩
    rw [← Hq.out]
    rfl
  · have e : dgBlank d a c s = (false, k) := by
      unfold dgBlank
      rcases refuse_ne Hk.out hk with ⟨ho, rfl⟩ | ⟨ho, rfl, rfl⟩
      · rw [if_pos ho]
      · have := of_decide_eq_false Hb.out
        rw [if_neg (by rw [ho]; simp), if_neg (fun h => this ⟨h.1, by omega, by omega⟩)]
    rw [e]
    clear e
    have hk2 : (k == 0) = false := by simpa using hk
    go_enter Try.func66, Try.ntmps66
    go_wp2_with fail
    rw [Hw1.out]
    go_region_held3 (fun W => Below w1.heap.size w1 W) (first | assumption | exact Below.drew (by assumption)) (first
      | (go_at_call 51; refine (dgwithin_is Hb (by omega) s1 s2 (by omega) (by omega) (by omega)).mono ?_; rintro e w4 ⟨rfl, rfl⟩)
      | (go_at_call 52; refine (dgrefuse_is (HD.out _ (by assumption)) Hk _ _).mono ?_; rintro e w4 ⟨rfl, hb4⟩; have kS := below_on (by assumption) hb4; clear hb4))
    go_wp2_with fail
    go_ret2
    exact ⟨rfl, below_on HB1.out kS⟩
end Go.Proofs.Ytcpkmhhlcmnfdaa

