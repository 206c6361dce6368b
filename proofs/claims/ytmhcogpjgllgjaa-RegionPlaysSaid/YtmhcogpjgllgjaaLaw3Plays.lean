/- RegionPlays walked. Written by wip/tools/mk_plays3.py. -/
import Derived.Test.YtmhcogpjgllgjaaLaw3Do
import Derived.Test.YtmhcogpjgllgjaaLaw3Alive
import Derived.Test.YtmhcogpjgllgjaaLaw3Few
import Derived.Test.YtmhcogpjgllgjaaLaw2Play
import Derived.Test.YtmhcogpjgllgjaaLaw2Plays
import Derived.Test.YtmhcogpjgllgjaaRegion3
namespace Go.Proofs.Ytmhcogpjgllgjaa
open Go.RowKit
set_option linter.unusedVariables false

theorem play_in3 {N : Nat} {w0 wr : World} {p : Ad} {n k : Nat} (h : Play N w0 p n k wr) (hk : k ≤ 1000) (hn : 0 < n) {a : ActD} {g o : Nat} (ha : ActAt w0 g o a) (hl : a.b.length ≤ 1100) :
    ∃ d f, d.worn.length = n ∧ DoIn N wr p d f a.t a.n a.A a.b a.c ∧ (∀ e w', DoPost N wr p d e w' → e = .returned (.bool true) ∧ Play N w0 p n (k + 1) w') := by
  obtain ⟨d, f, hp, hs, ok, rok, hst, hwn, hwl, hb, hlo⟩ := h
  refine ⟨d, f, hwl, ⟨hp, hs, ok, rok, ha.b.below hb, ?_, ha.c, hl, by omega, fun x hx => by have := hwn x hx; omega, by omega, ha.t1, ha.t2, ha.n1, ha.n2⟩, ?_⟩
  · intro hpos j hj hf
    obtain ⟨b, o', e, hc⟩ := ha.b hpos
    obtain ⟨a', e', rfl⟩ := hj
    rw [e] at e'
    injection e' with e'
    subst e'
    have := World.block_lt_of_cell? w0 _ (hc 0 hpos)
    have := hlo _ hf
    simp at *
    omega
  · rintro e w' ⟨he, d', f', hp', hs', hnum, rok', ho⟩
    refine ⟨he, d', f', hp', hs', hnum.ok, rok', by have := hnum.steps; omega, fun x hx => by have := hnum.worn k hwn x hx; omega, hnum.len.trans hwl, hb.trans (ho.below hb.size (fun j hj hf => by have := hlo j hf; omega)), hlo⟩

/-- the two regions' cells -/
structure RCells (W : World) (b1 b2 : Nat) (q q2 x y : Value) : Prop where
  r0 : W.cell? ⟨b1, 0, none⟩ = some q
  r1 : W.cell? ⟨b1, 1, none⟩ = some x
  r2 : W.cell? ⟨b1, 2, none⟩ = some y
  s0 : W.cell? ⟨b2, 0, none⟩ = some q2
  s1 : W.cell? ⟨b2, 1, none⟩ = some x
  s2 : W.cell? ⟨b2, 2, none⟩ = some y
theorem rcells_of (w4 w5 : World) (q q2 x y : Value) (E1 E2 : TypeId) (F : Nat → Prop) (hF : ∀ j, w4.heap.size ≤ j → ¬ F j) (hb : Below (w4.alloc (.cells #[q, x, y] E1)).heap.size (w4.alloc (.cells #[q, x, y] E1)) w5) :
    ∀ W, Only F (w5.alloc (.cells #[q2, x, y] E2)) W → RCells W w4.heap.size w5.heap.size q q2 x y := fun W hW => by
  have hs : w4.heap.size < w5.heap.size := by have := hb.size; simp at this; omega
  have h4 := ((hb.block w4.heap.size (by simp)).trans (heap_alloc_new w4 _))
  have h4' := (Below.heap_alloc w5 (.cells #[q2, x, y] E2) w4.heap.size hs).trans h4
  have g1 := (hW.block w4.heap.size (by simp; omega) (hF _ (by omega))).trans h4'
  have g2 := (hW.block w5.heap.size (by simp) (hF _ (by omega))).trans (heap_alloc_new w5 (.cells #[q2, x, y] E2))
  exact ⟨by rw [cell_of_row _ _ _ _ _ _ g1]; rfl, by rw [cell_of_row _ _ _ _ _ _ g1]; rfl, by rw [cell_of_row _ _ _ _ _ _ g1]; rfl,
    by rw [cell_of_row _ _ _ _ _ _ g2]; rfl, by rw [cell_of_row _ _ _ _ _ _ g2]; rfl, by rw [cell_of_row _ _ _ _ _ _ g2]; rfl⟩

set_option maxRecDepth 100000 in
set_option maxHeartbeats 6400000 in
theorem law3Plays_some (a_ c_ : Nat) (A0 : Option Addr) (L : List ActD) (c0 : Nat) (w : World) (hL : Acts w A0 L) (hLm : L.length ≤ 9223372036854775807) (hfew : fewB L = true) (hof : ofB 5 (a_ : Int) (c_ : Int) = true) (hac : a_ + c_ ≤ 5) :
    Calls Try.prog 3 #[.int .i64 (a_ : Int), .int .i64 (c_ : Int), .slice A0 L.length c0] w fun e w' => e = .returned (.bool true) ∧ Below w.heap.size w w' := by
  have HFEW : Hid (∀ W, Below w.heap.size w W → Calls Try.prog 8 #[.slice A0 L.length c0] W fun e w' => e = .returned (.bool true) ∧ W = w') := Lib.hid (fun W hW => by rw [← hfew]; exact few3_any W A0 L c0 (hL.below hW) hLm)
  have Hfew : Hid (fewB L = true) := hfew
  have HND : Hid (∀ W, Calls Try.prog 9 #[.int .i64 5] W (DNewPost W 5)) := Lib.hid (fun W => dnew_any 5 5 W (by show (if (5 : Int) < 1 then 1 else if 256 < (5 : Int) then 256 else 5) = ((5 : Nat) : Int); decide) (by omega) (by omega))
  have HNR : Hid (∀ W, Calls Try.prog 10 #[.int .i64 5] W (NewPost W 5)) := Lib.hid (fun W => rnew_any 5 5 W (by show (if (5 : Int) < 1 then 1 else if 256 < (5 : Int) then 256 else 5) = ((5 : Nat) : Int); decide) (by omega) (by omega))
  have HL := Lib.hid hL
  have Hof : Hid (ofB 5 (a_ : Int) (c_ : Int) = true) := Lib.hid hof
  clear hfew hL hof
  go_enter Try.func3, Try.ntmps3
  go_wp2_with fail
  refine (alive3_any _).mono ?_
  rintro e w1 ⟨rfl, hb1⟩
  have B1 := Lib.hid hb1
  clear hb1
  go_wp2_with fail
  refine (HFEW.out _ B1.out).mono ?_
  rintro e w' ⟨rfl, rfl⟩
  go_wp2_with fail
  refine (HND.out _).mono ?_
  rintro e w2 ⟨g, gB, gW, cB, cW, rfl, hf, hb2, hg, hgB, hgW⟩
  have HF := Lib.hid hf
  have B2 := Lib.hid hb2
  have G1 : Hid (w1.heap.size ≤ g ∧ w1.heap.size ≤ gB ∧ w1.heap.size ≤ gW) := Lib.hid ⟨hg, hgB, hgW⟩
  clear hf hb2 hg hgB hgW
  go_wp2_with fail
  refine (HNR.out _).mono ?_
  rintro e w3 ⟨h, hB, hW, kB, kW, rfl, hr, hb3, q1, q2, q3⟩
  have HPL : Hid (Play w3.heap.size w ⟨g, gB, gW, cB, cW, h, hB, hW, kB, kW⟩ 5 0 w3) := Lib.hid (play_new (by omega) HF.out G1.out.1 G1.out.2.1 G1.out.2.2 B2.out hr q1 q2 q3 hb3 B1.out)
  obtain ⟨p, Hp⟩ : ∃ p : Ad, Hid ((⟨g, gB, gW, cB, cW, h, hB, hW, kB, kW⟩ : Ad) = p) := ⟨_, rfl⟩
  rw [Hp.out] at HPL
  obtain rfl : p.g = g := by rw [← Hp.out]
  obtain rfl : p.h = h := by rw [← Hp.out]
  clear hr hb3 q1 q2 q3
  obtain ⟨N, HN⟩ : ∃ N, Hid (w3.heap.size = N) := ⟨_, rfl⟩
  rw [HN.out] at HPL
  obtain ⟨d0, f0, hp0, hs0, ok0, rok0, -, -, hwl0, -, -⟩ := HPL.out
  have HOF : Hid (∀ W, Below w3.heap.size w3 W → Calls Try.prog 11 #[.pointer (some ⟨p.g, 0, none⟩), .int .i64 (a_ : Int), .int .i64 (c_ : Int)] W (PartPost W (.pointer (some ⟨p.g, 0, none⟩)) (a_ : Int) (c_ : Int) true)) := Lib.hid fun W hW => by
    have := dof_any (hp0.below hW).dev ok0 5 hwl0 (a_ : Int) (c_ : Int) (by omega) (by omega) (by omega) (by omega)
    rw [Hof.out] at this
    exact this
  have HOR : Hid (∀ W, Below w3.heap.size w3 W → Calls Try.prog 12 #[.pointer (some ⟨p.h, 0, none⟩), .int .i64 (a_ : Int), .int .i64 (c_ : Int)] W (OfPost W p.h (a_ : Int) (c_ : Int) true)) := Lib.hid fun W hW => by
    have := rof_any (hp0.below hW).ref rok0.few (a_ : Int) (c_ : Int) (by omega) (by omega) (by omega) (by omega)
    rw [show f0.worn.length = 5 by rw [← hs0.worn]; exact hwl0, Hof.out] at this
    exact this
  have HFR : Hid (∀ j, w3.heap.size ≤ j → ¬ AdF p j) := Lib.hid fun j hj hf => by
    have := hp0.lo j hf
    have := HN.out
    omega
  clear hp0 hs0 ok0 rok0 hwl0
  go_wp2_with fail
  refine (HOF.out _ (Below.refl _ _)).mono ?_
  rintro e w4 ⟨rfl, hb4⟩
  obtain ⟨w4a, Hw4a⟩ : ∃ w4a, Hid (w4.alloc (.cells #[.pointer (some ⟨p.g, 0, none⟩), .int .i64 (a_ : Int), .int .i64 (c_ : Int)] 30) = w4a) := ⟨_, rfl⟩
  have hb4a : Below w4.heap.size w4 w4a := by rw [← Hw4a.out]; exact (Below.refl _ _).alloc (Nat.le_refl _) _
  have hb34 := below_on hb4 hb4a
  have hz34 : w3.heap.size ≤ w4.heap.size := hb4.size
  clear hb4 hb4a
  go_wp2_with fail
  rw [Hw4a.out]
  refine (HOR.out _ hb34).mono ?_
  rintro e w5 ⟨rfl, hb5⟩
  have hcells := rcells_of w4 w5 (.pointer (some ⟨p.g, 0, none⟩)) (.pointer (some ⟨p.h, 0, none⟩)) (.int .i64 (a_ : Int)) (.int .i64 (c_ : Int)) 30 35 (AdF p) (fun j hj => HFR.out j (by omega)) (by rw [Hw4a.out]; exact hb5)
  obtain ⟨wx, Hwx⟩ : ∃ wx, Hid (w5.alloc (.cells #[.pointer (some ⟨p.h, 0, none⟩), .int .i64 (a_ : Int), .int .i64 (c_ : Int)] 35) = wx) := ⟨_, rfl⟩
  have hbx : Below w5.heap.size w5 wx := by rw [← Hwx.out]; exact (Below.refl _ _).alloc (Nat.le_refl _) _
  rw [Hwx.out] at hcells
  have HCELL := Lib.hid hcells
  have hb3x : Below w3.heap.size w3 wx := below_on (below_on hb34 hb5) hbx
  have HPX0 : Hid (Play N w p 5 0 wx) := Lib.hid (HPL.out.below hb3x)
  have HSZ1 : Hid (∀ W, Calls Try.prog 14 #[.agg #[.pointer (some ⟨p.g, 0, none⟩), .int .i64 (a_ : Int), .int .i64 (c_ : Int)]] W fun e w' => e = .returned (.int .i64 ((c_ : Int) * 1024)) ∧ Below W.heap.size W w') := Lib.hid fun W => dgsize_any _ _ c_ W (by omega)
  have HSZ2 : Hid (∀ W, Calls Try.prog 15 #[.agg #[.pointer (some ⟨p.h, 0, none⟩), .int .i64 (a_ : Int), .int .i64 (c_ : Int)]] W fun e w' => e = .returned (.int .i64 ((c_ : Int) * 1024)) ∧ Below W.heap.size W w') := Lib.hid fun W => rgsize_any _ _ c_ W (by omega)
  have R0 : ∀ W, Below wx.heap.size wx W → W.cell? ⟨w4.heap.size, 0, none⟩ = some (.pointer (some ⟨p.g, 0, none⟩)) := fun W hW => (HCELL.out W (Only.of_below hW)).r0
  have R1 : ∀ W, Below wx.heap.size wx W → W.cell? ⟨w4.heap.size, 1, none⟩ = some (.int .i64 (a_ : Int)) := fun W hW => (HCELL.out W (Only.of_below hW)).r1
  have R2 : ∀ W, Below wx.heap.size wx W → W.cell? ⟨w4.heap.size, 2, none⟩ = some (.int .i64 (c_ : Int)) := fun W hW => (HCELL.out W (Only.of_below hW)).r2
  have S0 : ∀ W, Below wx.heap.size wx W → W.cell? ⟨w5.heap.size, 0, none⟩ = some (.pointer (some ⟨p.h, 0, none⟩)) := fun W hW => (HCELL.out W (Only.of_below hW)).s0
  have S1 : ∀ W, Below wx.heap.size wx W → W.cell? ⟨w5.heap.size, 1, none⟩ = some (.int .i64 (a_ : Int)) := fun W hW => (HCELL.out W (Only.of_below hW)).s1
  have S2 : ∀ W, Below wx.heap.size wx W → W.cell? ⟨w5.heap.size, 2, none⟩ = some (.int .i64 (c_ : Int)) := fun W hW => (HCELL.out W (Only.of_below hW)).s2
  clear hcells hbx hb5 hb34 hz34 hb3x
  go_wp2_with fail
  rw [Hwx.out]
  refine wp_region_noPanic ?_
  refine wp_region_held_drew (S := fun W => Below wx.heap.size wx W) (by kernel_rfl) (by exact (Below.refl _ _).drew) (fun hS => ?_)
  refine' take_at 0 rfl (by kernel_rfl) (by kernel_rfl) (by kernel_rfl) (fun _ _ _ h => h) (by rfl) hS ?_ ?_ ?_
  rotate_left 2
  · intro W hSW; go_simp; try with_reducible rfl
  · simp only [List.set_cons_succ, List.set_cons_zero]; rfl
  refine' take_at 2 rfl (by kernel_rfl) (by kernel_rfl) (by kernel_rfl) (fun _ _ _ h => h) (by rfl) hS ?_ ?_ ?_
  rotate_left 2
  · intro W hSW; go_simp; try with_reducible rfl
  · simp only [List.set_cons_succ, List.set_cons_zero]; rfl
  refine call_at 1 rfl (by kernel_rfl) (by rfl) (fun K hK => ?_)
  go_simp
  refine (num3_any _ _).mono ?_
  rintro e w7 ⟨rfl, rfl⟩
  refine hK.out _ _ (by assumption) (fun hS => ?_)
  clear hK K
  refine' take_at 3 rfl (by kernel_rfl) (by kernel_rfl) (by kernel_rfl) (fun _ _ _ h => h) (by rfl) hS ?_ ?_ ?_
  rotate_left 2
  · intro W hSW; go_simp; try with_reducible rfl
  · simp only [List.set_cons_succ, List.set_cons_zero]; rfl
  refine' take_at 4 rfl (by kernel_rfl) (by kernel_rfl) (by kernel_rfl) (fun _ _ _ h => h) (by rfl) hS ?_ ?_ ?_
  rotate_left 2
  · intro W hSW; go_simp; try with_reducible rfl
  · simp only [List.set_cons_succ, List.set_cons_zero]; rfl
  refine' take_at 5 rfl (by kernel_rfl) (by kernel_rfl) (by kernel_rfl) (fun _ _ _ h => h) (by rfl) hS ?_ ?_ ?_
  rotate_left 2
  · intro W hSW; go_simp; try with_reducible rfl
  · simp only [List.set_cons_succ, List.set_cons_zero]; rfl
  refine' take_at 6 rfl (by kernel_rfl) (by kernel_rfl) (by kernel_rfl) (fun _ _ _ h => h) (by rfl) hS ?_ ?_ ?_
  rotate_left 2
  · intro W hSW; go_simp; try with_reducible rfl
  · simp only [List.set_cons_succ, List.set_cons_zero]; rfl
  refine' take_at 7 rfl (by kernel_rfl) (by kernel_rfl) (by kernel_rfl) (fun _ _ _ h => h) (by rfl) hS ?_ ?_ ?_
  rotate_left 2
  · intro W hSW; go_simp; try with_reducible rfl
  · simp only [List.set_cons_succ, List.set_cons_zero]; rfl
  refine' take_at 8 rfl (by kernel_rfl) (by kernel_rfl) (by kernel_rfl) (fun _ _ _ h => h) (by rfl) hS ?_ ?_ ?_
  rotate_left 2
  · intro W hSW; go_simp; try with_reducible rfl
  · simp only [List.set_cons_succ, List.set_cons_zero]; rfl
  refine' take_at 10 rfl (by kernel_rfl) (by kernel_rfl) (by kernel_rfl) (fun _ _ _ h => h) (by rfl) hS ?_ ?_ ?_
  rotate_left 2
  · intro W hSW; go_simp; try with_reducible rfl
  · simp only [List.set_cons_succ, List.set_cons_zero]; rfl
  refine call_at 9 rfl (by kernel_rfl) (by rfl) (fun K hK => ?_)
  go_simp
  with_reducible refine (HSZ1.out _).mono ?_
  rintro e w9 ⟨rfl, hb9⟩
  have kS9 := below_on hS hb9
  clear hS hb9
  refine hK.out _ _ (by exact kS9) (fun hS => ?_)
  clear hK K
  refine call_at 11 rfl (by kernel_rfl) (by rfl) (fun K hK => ?_)
  go_simp
  with_reducible refine (HSZ2.out _).mono ?_
  rintro e w11 ⟨rfl, hb11⟩
  have kS11 := below_on hS hb11
  clear hS hb11
  refine hK.out _ _ (by exact kS11) (fun hS => ?_)
  clear hK K
  refine' take_at 12 rfl (by kernel_rfl) (by kernel_rfl) (by kernel_rfl) (fun _ _ _ h => h) (by rfl) hS ?_ ?_ ?_
  rotate_left 2
  · intro W hSW; go_simp; try with_reducible rfl
  · simp only [List.set_cons_succ, List.set_cons_zero]; rfl
  refine' take_at 13 rfl (by kernel_rfl) (by kernel_rfl) (by kernel_rfl) (fun _ _ _ h => h) (by rfl) hS ?_ ?_ ?_
  rotate_left 2
  · intro W hSW; go_simp; try with_reducible rfl
  · simp only [List.set_cons_succ, List.set_cons_zero]; rfl
  refine' take_at 14 rfl (by kernel_rfl) (by kernel_rfl) (by kernel_rfl) (fun _ _ _ h => h) (by rfl) hS ?_ ?_ ?_
  rotate_left 2
  · intro W hSW; go_simp; try with_reducible rfl
  · simp only [List.set_cons_succ, List.set_cons_zero]; rfl
  refine wpAnyH_done (by kernel_rfl) ?_ _
  refine NoPanic.normal ?_
  have kE : Below wx.heap.size wx _ := kS11
  clear R0 R1 R2 S0 S1 S2
  go_wp2_with fail
  go_loopw [14] (fun i wr => ∃ k : Nat, k ≤ L.length ∧ i = .int .i64 k ∧ Hid (Play N w p 5 k wr ∧ Only (AdF p) wx wr)) (fun i _ => L.length - (intOf i).toNat)
  case atStart => exact ⟨0, Nat.zero_le _, rfl, Lib.hid ⟨HPX0.out.below kE, Only.of_below kE⟩⟩
  case round =>
    obtain ⟨k, hk, rfl, HK⟩ := hrel
    have hl30 : L.length ≤ 30 := by have := Hfew.out; unfold fewB at this; rw [Bool.and_eq_true] at this; exact of_decide_eq_true this.1
    by_cases hlt : k < L.length
    · obtain ⟨ga, oa, rfl, hat⟩ := HL.out (by omega)
      have ha0 := hat k hlt
      obtain ⟨a, Ha⟩ : ∃ a, Hid (L[k] = a) := ⟨L[k], Lib.hid rfl⟩
      rw [Ha.out] at ha0
      have hal : a.b.length ≤ 1100 := by have := Hfew.out; unfold fewB at this; rw [Bool.and_eq_true, List.all_eq_true] at this; have := this.2 L[k] (List.getElem_mem hlt); rw [Ha.out] at this; exact of_decide_eq_true this
      obtain ⟨d, f, hwl, hin, hout⟩ := play_in3 (HK.out.1.below (Below.refl wr.heap.size wr).drew) (by omega) (by omega) ha0 hal
      have hbw : Below w.heap.size w wr := by obtain ⟨_, _, _, _, _, _, _, _, _, hb, _⟩ := HK.out.1; exact hb
      have hgal : ¬ AdF p ga := fun hf => by
        have hlo : ∀ j, AdF p j → w.heap.size ≤ j := by obtain ⟨_, _, _, _, _, _, _, _, _, _, h⟩ := HK.out.1; exact h
        have := hlo _ hf
        have := World.block_lt_of_cell? w _ ha0.k
        simp at this
        omega
      have ha1' := ha0.below hbw
      have LK : ∀ j v, wr.cell? ⟨ga, j, none⟩ = some v → ∀ W, Only (AdF p) wr W → W.cell? ⟨ga, j, none⟩ = some v := fun j v hv W hW => by
        rw [World.cell?_of_block (hW.block _ (World.block_lt_of_cell? wr _ hv) hgal)]; exact hv
      have e1 := LK _ _ ha1'.k
      have e2 := LK _ _ ha1'.t
      have e3 := LK _ _ ha1'.n
      have e4 := LK _ _ ha1'.s
      have HKO := Lib.hid HK.out.2
      have R0 : ∀ W, Only (AdF p) wr W → W.cell? ⟨w4.heap.size, 0, none⟩ = some (.pointer (some ⟨p.g, 0, none⟩)) := fun W hW => (HCELL.out W (HKO.out.trans hW)).r0
      have R1 : ∀ W, Only (AdF p) wr W → W.cell? ⟨w4.heap.size, 1, none⟩ = some (.int .i64 (a_ : Int)) := fun W hW => (HCELL.out W (HKO.out.trans hW)).r1
      have R2 : ∀ W, Only (AdF p) wr W → W.cell? ⟨w4.heap.size, 2, none⟩ = some (.int .i64 (c_ : Int)) := fun W hW => (HCELL.out W (HKO.out.trans hW)).r2
      have S0 : ∀ W, Only (AdF p) wr W → W.cell? ⟨w5.heap.size, 0, none⟩ = some (.pointer (some ⟨p.h, 0, none⟩)) := fun W hW => (HCELL.out W (HKO.out.trans hW)).s0
      have S1 : ∀ W, Only (AdF p) wr W → W.cell? ⟨w5.heap.size, 1, none⟩ = some (.int .i64 (a_ : Int)) := fun W hW => (HCELL.out W (HKO.out.trans hW)).s1
      have S2 : ∀ W, Only (AdF p) wr W → W.cell? ⟨w5.heap.size, 2, none⟩ = some (.int .i64 (c_ : Int)) := fun W hW => (HCELL.out W (HKO.out.trans hW)).s2
      have hlen : d.b.length = 5120 := by have := hin.ok.len; omega
      have HRG : Hid (RgOk d.b.length (some (a_, c_))) := Lib.hid ⟨by show a_ ≤ _; omega, by show c_ ≤ _; omega, by show (a_ + c_) * 1024 ≤ _; omega⟩
      have HV : Hid (RgV p (some (a_, c_)) (.pointer (some ⟨p.g, 0, none⟩)) (.pointer (some ⟨p.h, 0, none⟩)) (.int .i64 (a_ : Int)) (.int .i64 (c_ : Int))) := Lib.hid ⟨rfl, rfl, rfl, rfl⟩
      have HIN := Lib.hid hin
      have HOUT := Lib.hid hout
      clear hat ha0 hin hout hbw ha1' LK hgal hlen hwl
      go_wp2_with fail
      refine wp_region_noPanic ?_
      refine wp_region_held_drew (S := fun W => Only (AdF p) wr W) (by kernel_rfl) (by exact Only.drew (Only.refl _ _)) (fun hS => ?_)
      refine' take_at 0 rfl (by kernel_rfl) (by kernel_rfl) (by kernel_rfl) (fun _ _ _ h => h) (by rfl) hS ?_ ?_ ?_
      rotate_left 2
      · intro W hSW; go_simp; try with_reducible rfl
      · simp only [List.set_cons_succ, List.set_cons_zero]; rfl
      refine' take_at 1 rfl (by kernel_rfl) (by kernel_rfl) (by kernel_rfl) (fun _ _ _ h => h) (by rfl) hS ?_ ?_ ?_
      rotate_left 2
      · intro W hSW; go_simp; try with_reducible rfl
      · simp only [List.set_cons_succ, List.set_cons_zero]; rfl
      refine' take_at 2 rfl (by kernel_rfl) (by kernel_rfl) (by kernel_rfl) (fun _ _ _ h => h) (by rfl) hS ?_ ?_ ?_
      rotate_left 2
      · intro W hSW; go_simp; try with_reducible rfl
      · simp only [List.set_cons_succ, List.set_cons_zero]; rfl
      refine' take_at 3 rfl (by kernel_rfl) (by kernel_rfl) (by kernel_rfl) (fun _ _ _ h => h) (by rfl) hS ?_ ?_ ?_
      rotate_left 2
      · intro W hSW; go_simp; try with_reducible rfl
      · simp only [List.set_cons_succ, List.set_cons_zero]; rfl
      refine' take_at 4 rfl (by kernel_rfl) (by kernel_rfl) (by kernel_rfl) (fun _ _ _ h => h) (by rfl) hS ?_ ?_ ?_
      rotate_left 2
      · intro W hSW; go_simp; try with_reducible rfl
      · simp only [List.set_cons_succ, List.set_cons_zero]; rfl
      refine' take_at 5 rfl (by kernel_rfl) (by kernel_rfl) (by kernel_rfl) (fun _ _ _ h => h) (by rfl) hS ?_ ?_ ?_
      rotate_left 2
      · intro W hSW; go_simp; try with_reducible rfl
      · simp only [List.set_cons_succ, List.set_cons_zero]; rfl
      refine' take_at 6 rfl (by kernel_rfl) (by kernel_rfl) (by kernel_rfl) (fun _ _ _ h => h) (by rfl) hS ?_ ?_ ?_
      rotate_left 2
      · intro W hSW; go_simp; try with_reducible rfl
      · simp only [List.set_cons_succ, List.set_cons_zero]; rfl
      refine' take_at 7 rfl (by kernel_rfl) (by kernel_rfl) (by kernel_rfl) (fun _ _ _ h => h) (by rfl) hS ?_ ?_ ?_
      rotate_left 2
      · intro W hSW; go_simp; try with_reducible rfl
      · simp only [List.set_cons_succ, List.set_cons_zero]; rfl
      refine call_at 8 rfl (by kernel_rfl) (by rfl) (fun K hK => ?_)
      go_simp
      refine (do3_any a.k HIN.out HRG.out HV.out).mono ?_
      rintro e w6 hpost
      have hpost2 := hpost
      obtain ⟨-, dx, fx, -, -, -, -, ho5⟩ := hpost2
      obtain ⟨rfl, hnext⟩ := HOUT.out _ _ hpost
      have HNX := Lib.hid hnext
      have kO5 : Only (AdF p) wr w6 := (Only.drew (Only.refl _ _)).trans ho5
      clear hS hpost ho5 hnext
      refine hK.out _ _ (by exact kO5) (fun hS => ?_)
      clear hK K
      refine' take_at 9 rfl (by kernel_rfl) (by kernel_rfl) (by kernel_rfl) (fun _ _ _ h => h) (by rfl) hS ?_ ?_ ?_
      rotate_left 2
      · intro W hSW; go_simp; try with_reducible rfl
      · simp only [List.set_cons_succ, List.set_cons_zero]; rfl
      refine wpAnyH_done (by kernel_rfl) ?_ _
      refine NoPanic.normal ?_
      have HPX : Hid (Play N w p 5 (k + 1) w6 ∧ Only (AdF p) wx w6) := Lib.hid ⟨HNX.out, HKO.out.trans kO5⟩
      clear hS e1 e2 e3 e4 kO5 R0 R1 R2 S0 S1 S2
      go_wp2_with fail
      go_roundw
      case rel => exact ⟨k + 1, by omega, by go_num, HPX⟩
      case measure => simp [intOf]; omega
    · have hkl : k = L.length := by omega
      subst hkl
      obtain ⟨d, f, hp, hs, ok, rok, -, -, hwl, hbw, -⟩ := HK.out.1
      have hbl : d.b.length ≤ 67108864 := by have := ok.len; have := ok.few; omega
      have HP := Lib.hid hp
      have HSM := Lib.hid hs
      have BW := Lib.hid hbw
      obtain ⟨sb, Hs⟩ : ∃ sb, Hid (strB d.b = sb) := ⟨_, rfl⟩
      have HSZ : Hid (∀ W, Below wr.heap.size wr W → Calls Try.prog 18 #[.pointer (some ⟨p.g, 0, none⟩)] W fun e w' => e = .returned (.int .i64 (d.b.length : Int)) ∧ W = w') := Lib.hid (fun W hW => dsize_any (HP.out.below hW).dev)
      have HOFF : Hid (∀ W, Below wr.heap.size wr W → Calls Try.prog 19 #[.pointer (some ⟨p.g, 0, none⟩)] W fun e w' => e = .returned (.bool d.off) ∧ W = w') := Lib.hid (fun W hW => doff_any (HP.out.below hW).dev)
      have HPK : Hid (∀ W, Below wr.heap.size wr W → Calls Try.prog 17 #[.pointer (some ⟨p.g, 0, none⟩), .int .i64 0, .int .i64 (d.b.length : Int)] W (RetOb 5 W d.b)) := Lib.hid (fun W hW => by
        have hpk := dpeek_any (HP.out.below hW).dev 0 (d.b.length : Int) (by omega) (by omega) (by omega) (by omega) (by omega)
        have hpe : peekOf d 0 (d.b.length : Int) = d.b := by
          unfold peekOf
          rw [if_pos (by omega), Int.toNat_natCast]
          exact cut_self _
        rwa [hpe] at hpk)
      have L0 : ∀ W, Below wr.heap.size wr W → W.cell? ⟨p.h, 0, none⟩ = some (.slice (some ⟨p.hB, 0, none⟩) d.b.length p.kB) := fun W hW => by
        obtain ⟨AP, cP, hg, -, -⟩ := (HP.out.below hW).ref.cells
        rw [cell_of_row _ _ _ _ _ _ hg, HSM.out.b]
        rfl
      have L5 : ∀ W, Below wr.heap.size wr W → W.cell? ⟨p.h, 5, none⟩ = some (.bool d.off) := fun W hW => by
        obtain ⟨AP, cP, hg, -, -⟩ := (HP.out.below hW).ref.cells
        rw [cell_of_row _ _ _ _ _ _ hg, HSM.out.off]
        rfl
      have m6 : ∀ W, Below wr.heap.size wr W → (convert 41 9 (.slice (some ⟨p.hB, 0, none⟩) d.b.length p.kB)).run Try.prog W = .ok (.string sb) W := fun W hW => conv_now (HP.out.below hW).ref.bytes.bs (by rw [HSM.out.b]) (by rw [← HSM.out.b]; exact Hs.out)
      clear hp hs ok rok hwl hbw
      go_wp2_with fail
      refine wp_region_noPanic ?_
      refine wp_region_held_drew (S := fun W => Below wr.heap.size wr W) (by kernel_rfl) (by exact (Below.refl _ _).drew) (fun hS => ?_)
      refine' take_at 0 rfl (by kernel_rfl) (by kernel_rfl) (by kernel_rfl) (fun _ _ _ h => h) (by rfl) hS ?_ ?_ ?_
      rotate_left 2
      · intro W hSW; go_simp; try with_reducible rfl
      · simp only [List.set_cons_succ, List.set_cons_zero]; rfl
      refine' take_at 1 rfl (by kernel_rfl) (by kernel_rfl) (by kernel_rfl) (fun _ _ _ h => h) (by rfl) hS ?_ ?_ ?_
      rotate_left 2
      · intro W hSW; go_simp; try with_reducible rfl
      · simp only [List.set_cons_succ, List.set_cons_zero]; rfl
      refine' take_at 5 rfl (by kernel_rfl) (by kernel_rfl) (by kernel_rfl) (fun _ _ _ h => h) (by rfl) hS ?_ ?_ ?_
      rotate_left 2
      · intro W hSW; go_simp; try with_reducible rfl
      · simp only [List.set_cons_succ, List.set_cons_zero]; rfl
      refine' take_at 6 rfl (by kernel_rfl) (by kernel_rfl) (by kernel_rfl) (fun _ _ _ h => h) (by rfl) hS ?_ ?_ ?_
      rotate_left 2
      · intro W hSW; go_simp; try with_reducible rfl
      · simp only [List.set_cons_succ, List.set_cons_zero]; rfl
      refine' take_at 7 rfl (by kernel_rfl) (by kernel_rfl) (by kernel_rfl) (fun _ _ _ h => h) (by rfl) hS ?_ ?_ ?_
      rotate_left 2
      · intro W hSW; go_simp; try with_reducible rfl
      · simp only [List.set_cons_succ, List.set_cons_zero]; rfl
      refine' take_at 8 rfl (by kernel_rfl) (by kernel_rfl) (by kernel_rfl) (fun _ _ _ h => h) (by rfl) hS ?_ ?_ ?_
      rotate_left 2
      · intro W hSW; go_simp; try with_reducible rfl
      · simp only [List.set_cons_succ, List.set_cons_zero]; rfl
      refine' take_at 9 rfl (by kernel_rfl) (by kernel_rfl) (by kernel_rfl) (fun _ _ _ h => h) (by rfl) hS ?_ ?_ ?_
      rotate_left 2
      · intro W hSW; go_simp; try with_reducible rfl
      · simp only [List.set_cons_succ, List.set_cons_zero]; rfl
      refine call_at 2 rfl (by kernel_rfl) (by rfl) (fun K hK => ?_)
      go_simp
      refine (HSZ.out _ hS).mono ?_
      rintro e w7 ⟨rfl, rfl⟩
      refine hK.out _ _ (by exact hS) (fun hS => ?_)
      clear hK K
      refine call_at 3 rfl (by kernel_rfl) (by rfl) (fun K hK => ?_)
      go_simp
      refine (HPK.out _ hS).mono ?_
      rintro e w7 ⟨v7, rfl, ho7, hb7⟩
      obtain ⟨A7, c7, rfl, hbs7, -⟩ := ho7.form
      have kS7 := hS.trans (hb7.mono hS.size)
      have m7 : ∀ W, Below w7.heap.size w7 W → (convert 41 9 (.slice A7 d.b.length c7)).run Try.prog W = .ok (.string sb) W := fun W hW => conv_now (hbs7.below hW) rfl Hs.out
      have M5 : ∀ W, Below w7.heap.size w7 W → W.cell? ⟨p.h, 5, none⟩ = some (.bool d.off) := fun W hW => L5 W (kS7.trans (hW.mono kS7.size))
      have HX7 := Lib.hid hbs7
      clear hS ho7 hbs7
      refine hK.out _ _ (by exact kS7) (fun hS => ?_)
      clear hK K
      refine held_mono (S2 := fun W => Below w7.heap.size w7 W) (fun W hW => kS7.trans (hW.mono kS7.size)) _ _ _ _ ?_
      replace hS : Below w7.heap.size w7 w7 := Below.refl _ _
      refine' take_at 4 rfl (by kernel_rfl) (by kernel_rfl) (by kernel_rfl) (fun _ _ _ h => h) (by rfl) hS ?_ ?_ ?_
      rotate_left 2
      · intro W hSW; go_simp; try with_reducible rfl
      · simp only [List.set_cons_succ, List.set_cons_zero]; rfl
      refine' take_at 10 rfl (by kernel_rfl) (by kernel_rfl) (by kernel_rfl) (fun _ _ _ h => h) (by rfl) hS ?_ ?_ ?_
      rotate_left 2
      · intro W hSW; go_simp; try with_reducible rfl
      · simp only [List.set_cons_succ, List.set_cons_zero]; rfl
      refine' take_at 11 rfl (by kernel_rfl) (by kernel_rfl) (by kernel_rfl) (fun _ _ _ h => h) (by rfl) hS ?_ ?_ ?_
      rotate_left 2
      · intro W hSW; go_simp; try with_reducible rfl
      · simp only [List.set_cons_succ, List.set_cons_zero]; rfl
      refine' take_at 12 rfl (by kernel_rfl) (by kernel_rfl) (by kernel_rfl) (fun _ _ _ h => h) (by rfl) hS ?_ ?_ ?_
      rotate_left 2
      · intro W hSW; go_simp; try with_reducible rfl
      · simp only [List.set_cons_succ, List.set_cons_zero]; rfl
      refine' take_at 14 rfl (by kernel_rfl) (by kernel_rfl) (by kernel_rfl) (fun _ _ _ h => h) (by rfl) hS ?_ ?_ ?_
      rotate_left 2
      · intro W hSW; go_simp; try with_reducible rfl
      · simp only [List.set_cons_succ, List.set_cons_zero]; rfl
      refine' take_at 15 rfl (by kernel_rfl) (by kernel_rfl) (by kernel_rfl) (fun _ _ _ h => h) (by rfl) hS ?_ ?_ ?_
      rotate_left 2
      · intro W hSW; go_simp; try with_reducible rfl
      · simp only [List.set_cons_succ, List.set_cons_zero]; rfl
      refine' take_at 16 rfl (by kernel_rfl) (by kernel_rfl) (by kernel_rfl) (fun _ _ _ h => h) (by rfl) hS ?_ ?_ ?_
      rotate_left 2
      · intro W hSW; go_simp; try with_reducible rfl
      · simp only [List.set_cons_succ, List.set_cons_zero]; rfl
      refine' take_at 17 rfl (by kernel_rfl) (by kernel_rfl) (by kernel_rfl) (fun _ _ _ h => h) (by rfl) hS ?_ ?_ ?_
      rotate_left 2
      · intro W hSW; go_simp; try with_reducible rfl
      · simp only [List.set_cons_succ, List.set_cons_zero]; rfl
      refine call_at 13 rfl (by kernel_rfl) (by rfl) (fun K hK => ?_)
      go_simp
      refine (HOFF.out _ (kS7.trans (hS.mono kS7.size))).mono ?_
      rintro e w8 ⟨rfl, rfl⟩
      refine hK.out _ _ (by exact hS) (fun hS => ?_)
      clear hK K
      refine' take_at 18 rfl (by kernel_rfl) (by kernel_rfl) (by kernel_rfl) (fun _ _ _ h => h) (by rfl) hS ?_ ?_ ?_
      rotate_left 2
      · intro W hSW; go_simp; try with_reducible rfl
      · simp only [List.set_cons_succ, List.set_cons_zero]; rfl
      refine' take_at 19 rfl (by kernel_rfl) (by kernel_rfl) (by kernel_rfl) (fun _ _ _ h => h) (by rfl) hS ?_ ?_ ?_
      rotate_left 2
      · intro W hSW; go_simp; try with_reducible rfl
      · simp only [List.set_cons_succ, List.set_cons_zero]; rfl
      refine' take_at 20 rfl (by kernel_rfl) (by kernel_rfl) (by kernel_rfl) (fun _ _ _ h => h) (by rfl) hS ?_ ?_ ?_
      rotate_left 2
      · intro W hSW; go_simp; try with_reducible rfl
      · simp only [List.set_cons_succ, List.set_cons_zero]; rfl
      refine wpAnyH_done (by kernel_rfl) ?_ _
      refine NoPanic.normal ?_
      go_wp2_with fail
      go_ret
      exact ⟨rfl, below_on BW.out (kS7.trans (hS.mono kS7.size))⟩

set_option maxRecDepth 100000 in
set_option maxHeartbeats 6400000 in
theorem law3Plays_none (a_ c_ : Int) (A0 : Option Addr) (L : List ActD) (c0 : Nat) (w : World) (hL : Acts w A0 L) (hLm : L.length ≤ 9223372036854775807) (hfew : fewB L = true) (hof : ofB 5 a_ c_ = false) (a1 : -9223372036854775808 ≤ a_) (a2 : a_ ≤ 9223372036854775807) (cc1 : -9223372036854775808 ≤ c_) (cc2 : c_ ≤ 9223372036854775807) :
    Calls Try.prog 3 #[.int .i64 a_, .int .i64 c_, .slice A0 L.length c0] w fun e w' => e = .returned (.bool true) ∧ Below w.heap.size w w' := by
  have HFEW : Hid (∀ W, Below w.heap.size w W → Calls Try.prog 8 #[.slice A0 L.length c0] W fun e w' => e = .returned (.bool true) ∧ W = w') := Lib.hid (fun W hW => by rw [← hfew]; exact few3_any W A0 L c0 (hL.below hW) hLm)
  have Hfew : Hid (fewB L = true) := hfew
  have HND : Hid (∀ W, Calls Try.prog 9 #[.int .i64 5] W (DNewPost W 5)) := Lib.hid (fun W => dnew_any 5 5 W (by show (if (5 : Int) < 1 then 1 else if 256 < (5 : Int) then 256 else 5) = ((5 : Nat) : Int); decide) (by omega) (by omega))
  have HNR : Hid (∀ W, Calls Try.prog 10 #[.int .i64 5] W (NewPost W 5)) := Lib.hid (fun W => rnew_any 5 5 W (by show (if (5 : Int) < 1 then 1 else if 256 < (5 : Int) then 256 else 5) = ((5 : Nat) : Int); decide) (by omega) (by omega))
  have HL := Lib.hid hL
  have Hof : Hid (ofB 5 a_ c_ = false) := Lib.hid hof
  clear hfew hL hof
  go_enter Try.func3, Try.ntmps3
  go_wp2_with fail
  refine (alive3_any _).mono ?_
  rintro e w1 ⟨rfl, hb1⟩
  have B1 := Lib.hid hb1
  clear hb1
  go_wp2_with fail
  refine (HFEW.out _ B1.out).mono ?_
  rintro e w' ⟨rfl, rfl⟩
  go_wp2_with fail
  refine (HND.out _).mono ?_
  rintro e w2 ⟨g, gB, gW, cB, cW, rfl, hf, hb2, hg, hgB, hgW⟩
  have HF := Lib.hid hf
  have B2 := Lib.hid hb2
  have G1 : Hid (w1.heap.size ≤ g ∧ w1.heap.size ≤ gB ∧ w1.heap.size ≤ gW) := Lib.hid ⟨hg, hgB, hgW⟩
  clear hf hb2 hg hgB hgW
  go_wp2_with fail
  refine (HNR.out _).mono ?_
  rintro e w3 ⟨h, hB, hW, kB, kW, rfl, hr, hb3, q1, q2, q3⟩
  have HPL : Hid (Play w3.heap.size w ⟨g, gB, gW, cB, cW, h, hB, hW, kB, kW⟩ 5 0 w3) := Lib.hid (play_new (by omega) HF.out G1.out.1 G1.out.2.1 G1.out.2.2 B2.out hr q1 q2 q3 hb3 B1.out)
  obtain ⟨p, Hp⟩ : ∃ p : Ad, Hid ((⟨g, gB, gW, cB, cW, h, hB, hW, kB, kW⟩ : Ad) = p) := ⟨_, rfl⟩
  rw [Hp.out] at HPL
  obtain rfl : p.g = g := by rw [← Hp.out]
  obtain rfl : p.h = h := by rw [← Hp.out]
  clear hr hb3 q1 q2 q3
  obtain ⟨N, HN⟩ : ∃ N, Hid (w3.heap.size = N) := ⟨_, rfl⟩
  rw [HN.out] at HPL
  obtain ⟨d0, f0, hp0, hs0, ok0, rok0, -, -, hwl0, -, -⟩ := HPL.out
  have HOF : Hid (∀ W, Below w3.heap.size w3 W → Calls Try.prog 11 #[.pointer (some ⟨p.g, 0, none⟩), .int .i64 a_, .int .i64 c_] W (PartPost W (.pointer (some ⟨p.g, 0, none⟩)) a_ c_ false)) := Lib.hid fun W hW => by
    have := dof_any (hp0.below hW).dev ok0 5 hwl0 a_ c_ (by omega) (by omega) (by omega) (by omega)
    rw [Hof.out] at this
    exact this
  have HOR : Hid (∀ W, Below w3.heap.size w3 W → Calls Try.prog 12 #[.pointer (some ⟨p.h, 0, none⟩), .int .i64 a_, .int .i64 c_] W (OfPost W p.h a_ c_ false)) := Lib.hid fun W hW => by
    have := rof_any (hp0.below hW).ref rok0.few a_ c_ (by omega) (by omega) (by omega) (by omega)
    rw [show f0.worn.length = 5 by rw [← hs0.worn]; exact hwl0, Hof.out] at this
    exact this
  have HFR : Hid (∀ j, w3.heap.size ≤ j → ¬ AdF p j) := Lib.hid fun j hj hf => by
    have := hp0.lo j hf
    have := HN.out
    omega
  clear hp0 hs0 ok0 rok0 hwl0
  go_wp2_with fail
  refine (HOF.out _ (Below.refl _ _)).mono ?_
  rintro e w4 ⟨rfl, hb4⟩
  obtain ⟨w4a, Hw4a⟩ : ∃ w4a, Hid (w4.alloc (.cells #[.pointer none, .int .i64 0, .int .i64 0] 30) = w4a) := ⟨_, rfl⟩
  have hb4a : Below w4.heap.size w4 w4a := by rw [← Hw4a.out]; exact (Below.refl _ _).alloc (Nat.le_refl _) _
  have hb34 := below_on hb4 hb4a
  have hz34 : w3.heap.size ≤ w4.heap.size := hb4.size
  clear hb4 hb4a
  go_wp2_with fail
  rw [Hw4a.out]
  refine (HOR.out _ hb34).mono ?_
  rintro e w5 ⟨rfl, hb5⟩
  have hcells := rcells_of w4 w5 (.pointer none) (.pointer none) (.int .i64 0) (.int .i64 0) 30 35 (AdF p) (fun j hj => HFR.out j (by omega)) (by rw [Hw4a.out]; exact hb5)
  obtain ⟨wx, Hwx⟩ : ∃ wx, Hid (w5.alloc (.cells #[.pointer none, .int .i64 0, .int .i64 0] 35) = wx) := ⟨_, rfl⟩
  have hbx : Below w5.heap.size w5 wx := by rw [← Hwx.out]; exact (Below.refl _ _).alloc (Nat.le_refl _) _
  rw [Hwx.out] at hcells
  have HCELL := Lib.hid hcells
  have hb3x : Below w3.heap.size w3 wx := below_on (below_on hb34 hb5) hbx
  have HPX0 : Hid (Play N w p 5 0 wx) := Lib.hid (HPL.out.below hb3x)
  have HSZ1 : Hid (∀ W, Calls Try.prog 14 #[.agg #[.pointer none, .int .i64 0, .int .i64 0]] W fun e w' => e = .returned (.int .i64 (0 * 1024)) ∧ Below W.heap.size W w') := Lib.hid fun W => dgsize_any _ _ 0 W (by omega)
  have HSZ2 : Hid (∀ W, Calls Try.prog 15 #[.agg #[.pointer none, .int .i64 0, .int .i64 0]] W fun e w' => e = .returned (.int .i64 (0 * 1024)) ∧ Below W.heap.size W w') := Lib.hid fun W => rgsize_any _ _ 0 W (by omega)
  have R0 : ∀ W, Below wx.heap.size wx W → W.cell? ⟨w4.heap.size, 0, none⟩ = some (.pointer none) := fun W hW => (HCELL.out W (Only.of_below hW)).r0
  have R1 : ∀ W, Below wx.heap.size wx W → W.cell? ⟨w4.heap.size, 1, none⟩ = some (.int .i64 0) := fun W hW => (HCELL.out W (Only.of_below hW)).r1
  have R2 : ∀ W, Below wx.heap.size wx W → W.cell? ⟨w4.heap.size, 2, none⟩ = some (.int .i64 0) := fun W hW => (HCELL.out W (Only.of_below hW)).r2
  have S0 : ∀ W, Below wx.heap.size wx W → W.cell? ⟨w5.heap.size, 0, none⟩ = some (.pointer none) := fun W hW => (HCELL.out W (Only.of_below hW)).s0
  have S1 : ∀ W, Below wx.heap.size wx W → W.cell? ⟨w5.heap.size, 1, none⟩ = some (.int .i64 0) := fun W hW => (HCELL.out W (Only.of_below hW)).s1
  have S2 : ∀ W, Below wx.heap.size wx W → W.cell? ⟨w5.heap.size, 2, none⟩ = some (.int .i64 0) := fun W hW => (HCELL.out W (Only.of_below hW)).s2
  clear hcells hbx hb5 hb34 hz34 hb3x
  go_wp2_with fail
  rw [Hwx.out]
  refine wp_region_noPanic ?_
  refine wp_region_held_drew (S := fun W => Below wx.heap.size wx W) (by kernel_rfl) (by exact (Below.refl _ _).drew) (fun hS => ?_)
  refine' take_at 0 rfl (by kernel_rfl) (by kernel_rfl) (by kernel_rfl) (fun _ _ _ h => h) (by rfl) hS ?_ ?_ ?_
  rotate_left 2
  · intro W hSW; go_simp; try with_reducible rfl
  · simp only [List.set_cons_succ, List.set_cons_zero]; rfl
  refine' take_at 2 rfl (by kernel_rfl) (by kernel_rfl) (by kernel_rfl) (fun _ _ _ h => h) (by rfl) hS ?_ ?_ ?_
  rotate_left 2
  · intro W hSW; go_simp; try with_reducible rfl
  · simp only [List.set_cons_succ, List.set_cons_zero]; rfl
  refine call_at 1 rfl (by kernel_rfl) (by rfl) (fun K hK => ?_)
  go_simp
  refine (num3_any _ _).mono ?_
  rintro e w7 ⟨rfl, rfl⟩
  refine hK.out _ _ (by assumption) (fun hS => ?_)
  clear hK K
  refine' take_at 3 rfl (by kernel_rfl) (by kernel_rfl) (by kernel_rfl) (fun _ _ _ h => h) (by rfl) hS ?_ ?_ ?_
  rotate_left 2
  · intro W hSW; go_simp; try with_reducible rfl
  · simp only [List.set_cons_succ, List.set_cons_zero]; rfl
  refine' take_at 4 rfl (by kernel_rfl) (by kernel_rfl) (by kernel_rfl) (fun _ _ _ h => h) (by rfl) hS ?_ ?_ ?_
  rotate_left 2
  · intro W hSW; go_simp; try with_reducible rfl
  · simp only [List.set_cons_succ, List.set_cons_zero]; rfl
  refine' take_at 5 rfl (by kernel_rfl) (by kernel_rfl) (by kernel_rfl) (fun _ _ _ h => h) (by rfl) hS ?_ ?_ ?_
  rotate_left 2
  · intro W hSW; go_simp; try with_reducible rfl
  · simp only [List.set_cons_succ, List.set_cons_zero]; rfl
  refine' take_at 6 rfl (by kernel_rfl) (by kernel_rfl) (by kernel_rfl) (fun _ _ _ h => h) (by rfl) hS ?_ ?_ ?_
  rotate_left 2
  · intro W hSW; go_simp; try with_reducible rfl
  · simp only [List.set_cons_succ, List.set_cons_zero]; rfl
  refine' take_at 7 rfl (by kernel_rfl) (by kernel_rfl) (by kernel_rfl) (fun _ _ _ h => h) (by rfl) hS ?_ ?_ ?_
  rotate_left 2
  · intro W hSW; go_simp; try with_reducible rfl
  · simp only [List.set_cons_succ, List.set_cons_zero]; rfl
  refine' skip_at 8 rfl (by kernel_rfl) (by kernel_rfl) (by kernel_rfl) (fun _ _ _ h => h) (by rfl) hS ?_ ?_
  rotate_left 1
  · simp only [List.set_cons_succ, List.set_cons_zero]; rfl
  refine' skip_at 10 rfl (by kernel_rfl) (by kernel_rfl) (by kernel_rfl) (fun _ _ _ h => h) (by rfl) hS ?_ ?_
  rotate_left 1
  · simp only [List.set_cons_succ, List.set_cons_zero]; rfl
  refine' skipcall_at 9 rfl (by kernel_rfl) (by rfl) hS ?_ ?_
  rotate_left 1
  · simp only [List.set_cons_succ, List.set_cons_zero]; rfl
  refine' skipcall_at 11 rfl (by kernel_rfl) (by rfl) hS ?_ ?_
  rotate_left 1
  · simp only [List.set_cons_succ, List.set_cons_zero]; rfl
  refine' skip_at 12 rfl (by kernel_rfl) (by kernel_rfl) (by kernel_rfl) (fun _ _ _ h => h) (by rfl) hS ?_ ?_
  rotate_left 1
  · simp only [List.set_cons_succ, List.set_cons_zero]; rfl
  refine' take_at 13 rfl (by kernel_rfl) (by kernel_rfl) (by kernel_rfl) (fun _ _ _ h => h) (by rfl) hS ?_ ?_ ?_
  rotate_left 2
  · intro W hSW; go_simp; try with_reducible rfl
  · simp only [List.set_cons_succ, List.set_cons_zero]; rfl
  refine' take_at 14 rfl (by kernel_rfl) (by kernel_rfl) (by kernel_rfl) (fun _ _ _ h => h) (by rfl) hS ?_ ?_ ?_
  rotate_left 2
  · intro W hSW; go_simp; try with_reducible rfl
  · simp only [List.set_cons_succ, List.set_cons_zero]; rfl
  refine wpAnyH_done (by kernel_rfl) ?_ _
  refine NoPanic.normal ?_
  have kE : Below wx.heap.size wx _ := hS
  clear R0 R1 R2 S0 S1 S2
  go_wp2_with fail
  go_loopw [14] (fun i wr => ∃ k : Nat, k ≤ L.length ∧ i = .int .i64 k ∧ Hid (Play N w p 5 k wr ∧ Only (AdF p) wx wr)) (fun i _ => L.length - (intOf i).toNat)
  case atStart => exact ⟨0, Nat.zero_le _, rfl, Lib.hid ⟨HPX0.out.below kE, Only.of_below kE⟩⟩
  case round =>
    obtain ⟨k, hk, rfl, HK⟩ := hrel
    have hl30 : L.length ≤ 30 := by have := Hfew.out; unfold fewB at this; rw [Bool.and_eq_true] at this; exact of_decide_eq_true this.1
    by_cases hlt : k < L.length
    · obtain ⟨ga, oa, rfl, hat⟩ := HL.out (by omega)
      have ha0 := hat k hlt
      obtain ⟨a, Ha⟩ : ∃ a, Hid (L[k] = a) := ⟨L[k], Lib.hid rfl⟩
      rw [Ha.out] at ha0
      have hal : a.b.length ≤ 1100 := by have := Hfew.out; unfold fewB at this; rw [Bool.and_eq_true, List.all_eq_true] at this; have := this.2 L[k] (List.getElem_mem hlt); rw [Ha.out] at this; exact of_decide_eq_true this
      obtain ⟨d, f, hwl, hin, hout⟩ := play_in3 (HK.out.1.below (Below.refl wr.heap.size wr).drew) (by omega) (by omega) ha0 hal
      have hbw : Below w.heap.size w wr := by obtain ⟨_, _, _, _, _, _, _, _, _, hb, _⟩ := HK.out.1; exact hb
      have hgal : ¬ AdF p ga := fun hf => by
        have hlo : ∀ j, AdF p j → w.heap.size ≤ j := by obtain ⟨_, _, _, _, _, _, _, _, _, _, h⟩ := HK.out.1; exact h
        have := hlo _ hf
        have := World.block_lt_of_cell? w _ ha0.k
        simp at this
        omega
      have ha1' := ha0.below hbw
      have LK : ∀ j v, wr.cell? ⟨ga, j, none⟩ = some v → ∀ W, Only (AdF p) wr W → W.cell? ⟨ga, j, none⟩ = some v := fun j v hv W hW => by
        rw [World.cell?_of_block (hW.block _ (World.block_lt_of_cell? wr _ hv) hgal)]; exact hv
      have e1 := LK _ _ ha1'.k
      have e2 := LK _ _ ha1'.t
      have e3 := LK _ _ ha1'.n
      have e4 := LK _ _ ha1'.s
      have HKO := Lib.hid HK.out.2
      have R0 : ∀ W, Only (AdF p) wr W → W.cell? ⟨w4.heap.size, 0, none⟩ = some (.pointer none) := fun W hW => (HCELL.out W (HKO.out.trans hW)).r0
      have R1 : ∀ W, Only (AdF p) wr W → W.cell? ⟨w4.heap.size, 1, none⟩ = some (.int .i64 0) := fun W hW => (HCELL.out W (HKO.out.trans hW)).r1
      have R2 : ∀ W, Only (AdF p) wr W → W.cell? ⟨w4.heap.size, 2, none⟩ = some (.int .i64 0) := fun W hW => (HCELL.out W (HKO.out.trans hW)).r2
      have S0 : ∀ W, Only (AdF p) wr W → W.cell? ⟨w5.heap.size, 0, none⟩ = some (.pointer none) := fun W hW => (HCELL.out W (HKO.out.trans hW)).s0
      have S1 : ∀ W, Only (AdF p) wr W → W.cell? ⟨w5.heap.size, 1, none⟩ = some (.int .i64 0) := fun W hW => (HCELL.out W (HKO.out.trans hW)).s1
      have S2 : ∀ W, Only (AdF p) wr W → W.cell? ⟨w5.heap.size, 2, none⟩ = some (.int .i64 0) := fun W hW => (HCELL.out W (HKO.out.trans hW)).s2
      have hlen : d.b.length = 5120 := by have := hin.ok.len; omega
      have HRG : Hid (RgOk d.b.length (none)) := Lib.hid trivial
      have HV : Hid (RgV p (none) (.pointer none) (.pointer none) (.int .i64 0) (.int .i64 0)) := Lib.hid ⟨rfl, rfl, rfl, rfl⟩
      have HIN := Lib.hid hin
      have HOUT := Lib.hid hout
      clear hat ha0 hin hout hbw ha1' LK hgal hlen hwl
      go_wp2_with fail
      refine wp_region_noPanic ?_
      refine wp_region_held_drew (S := fun W => Only (AdF p) wr W) (by kernel_rfl) (by exact Only.drew (Only.refl _ _)) (fun hS => ?_)
      refine' take_at 0 rfl (by kernel_rfl) (by kernel_rfl) (by kernel_rfl) (fun _ _ _ h => h) (by rfl) hS ?_ ?_ ?_
      rotate_left 2
      · intro W hSW; go_simp; try with_reducible rfl
      · simp only [List.set_cons_succ, List.set_cons_zero]; rfl
      refine' take_at 1 rfl (by kernel_rfl) (by kernel_rfl) (by kernel_rfl) (fun _ _ _ h => h) (by rfl) hS ?_ ?_ ?_
      rotate_left 2
      · intro W hSW; go_simp; try with_reducible rfl
      · simp only [List.set_cons_succ, List.set_cons_zero]; rfl
      refine' take_at 2 rfl (by kernel_rfl) (by kernel_rfl) (by kernel_rfl) (fun _ _ _ h => h) (by rfl) hS ?_ ?_ ?_
      rotate_left 2
      · intro W hSW; go_simp; try with_reducible rfl
      · simp only [List.set_cons_succ, List.set_cons_zero]; rfl
      refine' take_at 3 rfl (by kernel_rfl) (by kernel_rfl) (by kernel_rfl) (fun _ _ _ h => h) (by rfl) hS ?_ ?_ ?_
      rotate_left 2
      · intro W hSW; go_simp; try with_reducible rfl
      · simp only [List.set_cons_succ, List.set_cons_zero]; rfl
      refine' take_at 4 rfl (by kernel_rfl) (by kernel_rfl) (by kernel_rfl) (fun _ _ _ h => h) (by rfl) hS ?_ ?_ ?_
      rotate_left 2
      · intro W hSW; go_simp; try with_reducible rfl
      · simp only [List.set_cons_succ, List.set_cons_zero]; rfl
      refine' take_at 5 rfl (by kernel_rfl) (by kernel_rfl) (by kernel_rfl) (fun _ _ _ h => h) (by rfl) hS ?_ ?_ ?_
      rotate_left 2
      · intro W hSW; go_simp; try with_reducible rfl
      · simp only [List.set_cons_succ, List.set_cons_zero]; rfl
      refine' take_at 6 rfl (by kernel_rfl) (by kernel_rfl) (by kernel_rfl) (fun _ _ _ h => h) (by rfl) hS ?_ ?_ ?_
      rotate_left 2
      · intro W hSW; go_simp; try with_reducible rfl
      · simp only [List.set_cons_succ, List.set_cons_zero]; rfl
      refine' take_at 7 rfl (by kernel_rfl) (by kernel_rfl) (by kernel_rfl) (fun _ _ _ h => h) (by rfl) hS ?_ ?_ ?_
      rotate_left 2
      · intro W hSW; go_simp; try with_reducible rfl
      · simp only [List.set_cons_succ, List.set_cons_zero]; rfl
      refine call_at 8 rfl (by kernel_rfl) (by rfl) (fun K hK => ?_)
      go_simp
      refine (do3_any a.k HIN.out HRG.out HV.out).mono ?_
      rintro e w6 hpost
      have hpost2 := hpost
      obtain ⟨-, dx, fx, -, -, -, -, ho5⟩ := hpost2
      obtain ⟨rfl, hnext⟩ := HOUT.out _ _ hpost
      have HNX := Lib.hid hnext
      have kO5 : Only (AdF p) wr w6 := (Only.drew (Only.refl _ _)).trans ho5
      clear hS hpost ho5 hnext
      refine hK.out _ _ (by exact kO5) (fun hS => ?_)
      clear hK K
      refine' take_at 9 rfl (by kernel_rfl) (by kernel_rfl) (by kernel_rfl) (fun _ _ _ h => h) (by rfl) hS ?_ ?_ ?_
      rotate_left 2
      · intro W hSW; go_simp; try with_reducible rfl
      · simp only [List.set_cons_succ, List.set_cons_zero]; rfl
      refine wpAnyH_done (by kernel_rfl) ?_ _
      refine NoPanic.normal ?_
      have HPX : Hid (Play N w p 5 (k + 1) w6 ∧ Only (AdF p) wx w6) := Lib.hid ⟨HNX.out, HKO.out.trans kO5⟩
      clear hS e1 e2 e3 e4 kO5 R0 R1 R2 S0 S1 S2
      go_wp2_with fail
      go_roundw
      case rel => exact ⟨k + 1, by omega, by go_num, HPX⟩
      case measure => simp [intOf]; omega
    · have hkl : k = L.length := by omega
      subst hkl
      obtain ⟨d, f, hp, hs, ok, rok, -, -, hwl, hbw, -⟩ := HK.out.1
      have hbl : d.b.length ≤ 67108864 := by have := ok.len; have := ok.few; omega
      have HP := Lib.hid hp
      have HSM := Lib.hid hs
      have BW := Lib.hid hbw
      obtain ⟨sb, Hs⟩ : ∃ sb, Hid (strB d.b = sb) := ⟨_, rfl⟩
      have HSZ : Hid (∀ W, Below wr.heap.size wr W → Calls Try.prog 18 #[.pointer (some ⟨p.g, 0, none⟩)] W fun e w' => e = .returned (.int .i64 (d.b.length : Int)) ∧ W = w') := Lib.hid (fun W hW => dsize_any (HP.out.below hW).dev)
      have HOFF : Hid (∀ W, Below wr.heap.size wr W → Calls Try.prog 19 #[.pointer (some ⟨p.g, 0, none⟩)] W fun e w' => e = .returned (.bool d.off) ∧ W = w') := Lib.hid (fun W hW => doff_any (HP.out.below hW).dev)
      have HPK : Hid (∀ W, Below wr.heap.size wr W → Calls Try.prog 17 #[.pointer (some ⟨p.g, 0, none⟩), .int .i64 0, .int .i64 (d.b.length : Int)] W (RetOb 5 W d.b)) := Lib.hid (fun W hW => by
        have hpk := dpeek_any (HP.out.below hW).dev 0 (d.b.length : Int) (by omega) (by omega) (by omega) (by omega) (by omega)
        have hpe : peekOf d 0 (d.b.length : Int) = d.b := by
          unfold peekOf
          rw [if_pos (by omega), Int.toNat_natCast]
          exact cut_self _
        rwa [hpe] at hpk)
      have L0 : ∀ W, Below wr.heap.size wr W → W.cell? ⟨p.h, 0, none⟩ = some (.slice (some ⟨p.hB, 0, none⟩) d.b.length p.kB) := fun W hW => by
        obtain ⟨AP, cP, hg, -, -⟩ := (HP.out.below hW).ref.cells
        rw [cell_of_row _ _ _ _ _ _ hg, HSM.out.b]
        rfl
      have L5 : ∀ W, Below wr.heap.size wr W → W.cell? ⟨p.h, 5, none⟩ = some (.bool d.off) := fun W hW => by
        obtain ⟨AP, cP, hg, -, -⟩ := (HP.out.below hW).ref.cells
        rw [cell_of_row _ _ _ _ _ _ hg, HSM.out.off]
        rfl
      have m6 : ∀ W, Below wr.heap.size wr W → (convert 41 9 (.slice (some ⟨p.hB, 0, none⟩) d.b.length p.kB)).run Try.prog W = .ok (.string sb) W := fun W hW => conv_now (HP.out.below hW).ref.bytes.bs (by rw [HSM.out.b]) (by rw [← HSM.out.b]; exact Hs.out)
      clear hp hs ok rok hwl hbw
      go_wp2_with fail
      refine wp_region_noPanic ?_
      refine wp_region_held_drew (S := fun W => Below wr.heap.size wr W) (by kernel_rfl) (by exact (Below.refl _ _).drew) (fun hS => ?_)
      refine' take_at 0 rfl (by kernel_rfl) (by kernel_rfl) (by kernel_rfl) (fun _ _ _ h => h) (by rfl) hS ?_ ?_ ?_
      rotate_left 2
      · intro W hSW; go_simp; try with_reducible rfl
      · simp only [List.set_cons_succ, List.set_cons_zero]; rfl
      refine' take_at 1 rfl (by kernel_rfl) (by kernel_rfl) (by kernel_rfl) (fun _ _ _ h => h) (by rfl) hS ?_ ?_ ?_
      rotate_left 2
      · intro W hSW; go_simp; try with_reducible rfl
      · simp only [List.set_cons_succ, List.set_cons_zero]; rfl
      refine' take_at 5 rfl (by kernel_rfl) (by kernel_rfl) (by kernel_rfl) (fun _ _ _ h => h) (by rfl) hS ?_ ?_ ?_
      rotate_left 2
      · intro W hSW; go_simp; try with_reducible rfl
      · simp only [List.set_cons_succ, List.set_cons_zero]; rfl
      refine' take_at 6 rfl (by kernel_rfl) (by kernel_rfl) (by kernel_rfl) (fun _ _ _ h => h) (by rfl) hS ?_ ?_ ?_
      rotate_left 2
      · intro W hSW; go_simp; try with_reducible rfl
      · simp only [List.set_cons_succ, List.set_cons_zero]; rfl
      refine' take_at 7 rfl (by kernel_rfl) (by kernel_rfl) (by kernel_rfl) (fun _ _ _ h => h) (by rfl) hS ?_ ?_ ?_
      rotate_left 2
      · intro W hSW; go_simp; try with_reducible rfl
      · simp only [List.set_cons_succ, List.set_cons_zero]; rfl
      refine' take_at 8 rfl (by kernel_rfl) (by kernel_rfl) (by kernel_rfl) (fun _ _ _ h => h) (by rfl) hS ?_ ?_ ?_
      rotate_left 2
      · intro W hSW; go_simp; try with_reducible rfl
      · simp only [List.set_cons_succ, List.set_cons_zero]; rfl
      refine' take_at 9 rfl (by kernel_rfl) (by kernel_rfl) (by kernel_rfl) (fun _ _ _ h => h) (by rfl) hS ?_ ?_ ?_
      rotate_left 2
      · intro W hSW; go_simp; try with_reducible rfl
      · simp only [List.set_cons_succ, List.set_cons_zero]; rfl
      refine call_at 2 rfl (by kernel_rfl) (by rfl) (fun K hK => ?_)
      go_simp
      refine (HSZ.out _ hS).mono ?_
      rintro e w7 ⟨rfl, rfl⟩
      refine hK.out _ _ (by exact hS) (fun hS => ?_)
      clear hK K
      refine call_at 3 rfl (by kernel_rfl) (by rfl) (fun K hK => ?_)
      go_simp
      refine (HPK.out _ hS).mono ?_
      rintro e w7 ⟨v7, rfl, ho7, hb7⟩
      obtain ⟨A7, c7, rfl, hbs7, -⟩ := ho7.form
      have kS7 := hS.trans (hb7.mono hS.size)
      have m7 : ∀ W, Below w7.heap.size w7 W → (convert 41 9 (.slice A7 d.b.length c7)).run Try.prog W = .ok (.string sb) W := fun W hW => conv_now (hbs7.below hW) rfl Hs.out
      have M5 : ∀ W, Below w7.heap.size w7 W → W.cell? ⟨p.h, 5, none⟩ = some (.bool d.off) := fun W hW => L5 W (kS7.trans (hW.mono kS7.size))
      have HX7 := Lib.hid hbs7
      clear hS ho7 hbs7
      refine hK.out _ _ (by exact kS7) (fun hS => ?_)
      clear hK K
      refine held_mono (S2 := fun W => Below w7.heap.size w7 W) (fun W hW => kS7.trans (hW.mono kS7.size)) _ _ _ _ ?_
      replace hS : Below w7.heap.size w7 w7 := Below.refl _ _
      refine' take_at 4 rfl (by kernel_rfl) (by kernel_rfl) (by kernel_rfl) (fun _ _ _ h => h) (by rfl) hS ?_ ?_ ?_
      rotate_left 2
      · intro W hSW; go_simp; try with_reducible rfl
      · simp only [List.set_cons_succ, List.set_cons_zero]; rfl
      refine' take_at 10 rfl (by kernel_rfl) (by kernel_rfl) (by kernel_rfl) (fun _ _ _ h => h) (by rfl) hS ?_ ?_ ?_
      rotate_left 2
      · intro W hSW; go_simp; try with_reducible rfl
      · simp only [List.set_cons_succ, List.set_cons_zero]; rfl
      refine' take_at 11 rfl (by kernel_rfl) (by kernel_rfl) (by kernel_rfl) (fun _ _ _ h => h) (by rfl) hS ?_ ?_ ?_
      rotate_left 2
      · intro W hSW; go_simp; try with_reducible rfl
      · simp only [List.set_cons_succ, List.set_cons_zero]; rfl
      refine' take_at 12 rfl (by kernel_rfl) (by kernel_rfl) (by kernel_rfl) (fun _ _ _ h => h) (by rfl) hS ?_ ?_ ?_
      rotate_left 2
      · intro W hSW; go_simp; try with_reducible rfl
      · simp only [List.set_cons_succ, List.set_cons_zero]; rfl
      refine' take_at 14 rfl (by kernel_rfl) (by kernel_rfl) (by kernel_rfl) (fun _ _ _ h => h) (by rfl) hS ?_ ?_ ?_
      rotate_left 2
      · intro W hSW; go_simp; try with_reducible rfl
      · simp only [List.set_cons_succ, List.set_cons_zero]; rfl
      refine' take_at 15 rfl (by kernel_rfl) (by kernel_rfl) (by kernel_rfl) (fun _ _ _ h => h) (by rfl) hS ?_ ?_ ?_
      rotate_left 2
      · intro W hSW; go_simp; try with_reducible rfl
      · simp only [List.set_cons_succ, List.set_cons_zero]; rfl
      refine' take_at 16 rfl (by kernel_rfl) (by kernel_rfl) (by kernel_rfl) (fun _ _ _ h => h) (by rfl) hS ?_ ?_ ?_
      rotate_left 2
      · intro W hSW; go_simp; try with_reducible rfl
      · simp only [List.set_cons_succ, List.set_cons_zero]; rfl
      refine' take_at 17 rfl (by kernel_rfl) (by kernel_rfl) (by kernel_rfl) (fun _ _ _ h => h) (by rfl) hS ?_ ?_ ?_
      rotate_left 2
      · intro W hSW; go_simp; try with_reducible rfl
      · simp only [List.set_cons_succ, List.set_cons_zero]; rfl
      refine call_at 13 rfl (by kernel_rfl) (by rfl) (fun K hK => ?_)
      go_simp
      refine (HOFF.out _ (kS7.trans (hS.mono kS7.size))).mono ?_
      rintro e w8 ⟨rfl, rfl⟩
      refine hK.out _ _ (by exact hS) (fun hS => ?_)
      clear hK K
      refine' take_at 18 rfl (by kernel_rfl) (by kernel_rfl) (by kernel_rfl) (fun _ _ _ h => h) (by rfl) hS ?_ ?_ ?_
      rotate_left 2
      · intro W hSW; go_simp; try with_reducible rfl
      · simp only [List.set_cons_succ, List.set_cons_zero]; rfl
      refine' take_at 19 rfl (by kernel_rfl) (by kernel_rfl) (by kernel_rfl) (fun _ _ _ h => h) (by rfl) hS ?_ ?_ ?_
      rotate_left 2
      · intro W hSW; go_simp; try with_reducible rfl
      · simp only [List.set_cons_succ, List.set_cons_zero]; rfl
      refine' take_at 20 rfl (by kernel_rfl) (by kernel_rfl) (by kernel_rfl) (fun _ _ _ h => h) (by rfl) hS ?_ ?_ ?_
      rotate_left 2
      · intro W hSW; go_simp; try with_reducible rfl
      · simp only [List.set_cons_succ, List.set_cons_zero]; rfl
      refine wpAnyH_done (by kernel_rfl) ?_ _
      refine NoPanic.normal ?_
      go_wp2_with fail
      go_ret
      exact ⟨rfl, below_on BW.out (kS7.trans (hS.mono kS7.size))⟩

set_option maxRecDepth 100000 in
set_option maxHeartbeats 1600000 in
theorem law3Plays (a c : Int) (A0 : Option Addr) (L : List ActD) (c0 : Nat) (w : World) (hL : Acts w A0 L) (hLm : L.length ≤ 9223372036854775807) (a1 : -9223372036854775808 ≤ a) (a2 : a ≤ 9223372036854775807) (c1 : -9223372036854775808 ≤ c) (c2 : c ≤ 9223372036854775807) :
    Calls Try.prog 3 #[.int .i64 a, .int .i64 c, .slice A0 L.length c0] w fun e w' => e = .returned (.bool true) ∧ Below w.heap.size w w' := by
  by_cases hf : fewB L = true
  · by_cases hof : ofB 5 a c = true
    · obtain ⟨h1, h2, h3⟩ := ofB_iff.1 hof
      obtain ⟨x, rfl⟩ := Int.eq_ofNat_of_zero_le h1
      obtain ⟨y, rfl⟩ := Int.eq_ofNat_of_zero_le (show 0 ≤ c by omega)
      exact law3Plays_some x y A0 L c0 w hL hLm hf hof (by omega)
    · exact law3Plays_none a c A0 L c0 w hL hLm hf (by simpa using hof) a1 a2 c1 c2
  · have hff : fewB L = false := by simpa using hf
    have HFEW : Hid (∀ W, Below w.heap.size w W → Calls Try.prog 8 #[.slice A0 L.length c0] W fun e w' => e = .returned (.bool false) ∧ W = w') := Lib.hid (fun W hW => by rw [← hff]; exact few3_any W A0 L c0 (hL.below hW) hLm)
    clear hf hL hff
    go_enter Try.func3, Try.ntmps3
    go_wp2_with fail
    refine (alive3_any _).mono ?_
    rintro e w1 ⟨rfl, hb1⟩
    have B1 := Lib.hid hb1
    clear hb1
    go_wp2_with fail
    refine (HFEW.out _ B1.out).mono ?_
    rintro e w' ⟨rfl, rfl⟩
    go_wp2_with fail
    go_ret
    exact ⟨rfl, B1.out⟩
end Go.Proofs.Ytmhcogpjgllgjaa

