/- CoderPlays walked, over whatever the program's coder and tree are. Written by wip/tools/mk_law16.py. -/
import Derived.Test.YtlbkpmcccipfhaaFour
import Derived.Test.YtlbkpmcccipfhaaRefMdlAt
import Derived.Test.YtlbkpmcccipfhaaAct3
import Derived.Test.YtlbkpmcccipfhaaGbase
namespace Go.Proofs.Ytlbkpmcccipfhaa
open Go.RowKit
set_option linter.unusedVariables false
set_option maxRecDepth 100000

set_option maxHeartbeats 12800000 in
theorem law16Plays {C : CoP} {T : TrP} (D : Cd16 C T) (w : World) (b : Int) (hb1 : -9223372036854775808 ≤ b) (hb2 : b ≤ 9223372036854775807) (A : Option Addr) (L : List ActID) (n c : Nat) (hn : L.length = n) (hL : ActIs w A L) : Calls Try.prog 3 #[.int .i64 b, .slice A n c] w fun e w' => e = .returned (.bool true) ∧ Below w.heap.size w w' := by
  have HAL := Lib.hid (fun W : World => alive16_any D W)
  have HNW := Lib.hid (fun W : World => D.tnew b hb1 hb2 W)
  have HL := Lib.hid hL
  have HN := Lib.hid hn
  clear hL hn hb1 hb2
  go_enter Try.func3, Try.ntmps3
  go_wp2_with fail
  with_reducible refine (HAL.out _).mono ?_
  rintro e v1 ⟨rfl, hb1⟩
  have HB1 := Lib.hid hb1
  clear hb1
  by_cases h4 : 200 < n
  · have d1 : decide ((200 : Int) < (n : Int)) = true := decide_eq_true (by omega)
    go_wp2_with fail
    go_ret
    exact ⟨rfl, HB1.out⟩
  · have d1 : decide ((200 : Int) < (n : Int)) = false := decide_eq_false (by omega)
    have HN200 : Hid (n ≤ 200) := Lib.hid (by omega)
    go_wp2_with fail
    with_reducible refine (D.new _).mono ?_
    rintro e v2 ⟨g, F, rfl, hc2, hF2, hb2⟩
    have HC2 := Lib.hid hc2
    have HF2 : Hid (∀ j, F j → w.heap.size ≤ j) := Lib.hid fun j h => Nat.le_trans HB1.out.size (hF2 j h)
    have HB2 := Lib.hid (below_then HB1.out hb2)
    clear hc2 hF2 hb2 HB1
    go_wp2_with fail
    with_reducible refine (rnewcoder_any w.heap.size _ HB2.out.size).mono ?_
    rintro e v3 ⟨rg, gl, rfl, hc3, hg3, hl3, hb3⟩
    have HC3 := Lib.hid (D.base.below HC2.out hb3)
    have HR3 := Lib.hid hc3
    have HG3 : Hid (v2.heap.size ≤ rg ∧ v2.heap.size ≤ gl) := Lib.hid ⟨hg3, hl3⟩
    have HB3 := Lib.hid (below_then HB2.out hb3)
    have HFL := Lib.hid (D.base.lt HC2.out)
    clear hc3 hg3 hl3 hb3
    go_wp2_with fail
    with_reducible refine (HNW.out _).mono ?_
    rintro e v4 ⟨tg, G, rfl, ht4, hG4, hb4⟩
    have HC4 := Lib.hid (D.base.below HC3.out hb4)
    have HR4 := Lib.hid (HR3.out.below hb4)
    have HT4 := Lib.hid ht4
    have HG4 := Lib.hid hG4
    have HB4 := Lib.hid (below_then HB3.out hb4)
    have HS34 := Lib.hid hb4.size
    clear ht4 hG4 hb4 HC3
    go_wp2_with fail
    with_reducible refine (rnewtree_any b _).mono ?_
    rintro e v5 ⟨rfl, hr5, hb5⟩
    have HI : Hid (Q4 C T w v5 g rg gl tg v4.heap.size (v4.heap.size + 1) Cd.new Cd.new (Tm.new b) (Tm.new b) F G) := Lib.hid (by
      have hR := HR3.out.lt
      have hG := HG3.out
      have h2 := HB2.out.size
      have h3 := HB3.out.size
      have h4 := HS34.out
      have h5 := hb5.size
      have h6 := hr5.lt
      refine ⟨D.base.below HC4.out hb5, HR4.out.below hb5, D.tb.below HT4.out hb5, hr5, ⟨fun j hj => ⟨HF2.out j hj, by have := HFL.out j hj; omega⟩, fun j e => by rcases e with rfl | rfl <;> omega, fun j hj => ⟨by have := HG4.out j hj; omega, by have := D.tb.lt HT4.out j hj; omega⟩, fun j e => by rcases e with rfl | rfl <;> omega, fun j hj e => by have := HFL.out j hj; rcases e with rfl | rfl <;> omega, fun j hj e => by have := HFL.out j hj; have := HG4.out j e; omega,
        fun j hj e => by have := HFL.out j hj; rcases e with rfl | rfl <;> omega, fun j e hj => by have := HG4.out j hj; rcases e with rfl | rfl <;> omega, fun j e e' => by rcases e with rfl | rfl <;> rcases e' with e' | e' <;> omega, fun j hj e => by have := D.tb.lt HT4.out j hj; rcases e with rfl | rfl <;> omega⟩, below_then HB4.out hb5⟩)
    clear hr5 hb5 HC2 HF2 HB2 HR3 HG3 HB3 HFL HC4 HR4 HT4 HG4 HB4 HS34
    generalize v4.heap.size = ru at *
    generalize ru + 1 = rr at *
    generalize Tm.new b = t0 at *
    go_wp2_with fail
    go_loopw [10] (fun i_ wr => ∃ (k : Nat) (c : Cd) (t : Tm) (gl : Nat) (F G : Nat → Prop), k ≤ n ∧ i_ = .int .i64 (k : Int) ∧ Hid (c.k ≤ 8 * k) ∧ Hid (Q4 C T w wr g rg gl tg ru rr c c t t F G)) (fun i_ _ => n - (intOf i_).toNat)
    case atStart => exact ⟨0, Cd.new, t0, gl, F, G, by omega, rfl, Lib.hid (by decide), HI⟩
    case round =>
      clear HI
      obtain ⟨k, c, t, gl, F, G, hk, rfl, HK, HI⟩ := hrel
      by_cases hlt : k < n
      · have d2 : decide ((k : Int) < (n : Int)) = true := decide_eq_true (by omega)
        have hlk : k < L.length := by rw [HN.out]; exact hlt
        obtain ⟨ga, oa, rfl, hcs⟩ := HL.out (by omega)
        have ha := hcs k hlk
        generalize L[k] = a at *
        clear hcs hlk
        have b1 : 0 ≤ (k : Int) := by omega
        have b2 : (k : Int) < (n : Int) := by omega
        obtain ⟨x, hx⟩ : ∃ x, a.x = x := ⟨_, rfl⟩
        obtain ⟨y, hy⟩ : ∃ x, a.y = x := ⟨_, rfl⟩
        obtain ⟨z, hz⟩ : ∃ x, a.z = x := ⟨_, rfl⟩
        have HX : Hid (-9223372036854775808 ≤ y ∧ y ≤ 9223372036854775807 ∧ -9223372036854775808 ≤ z ∧ z ≤ 9223372036854775807) := Lib.hid (by rw [← hy, ← hz]; exact ⟨ha.y1, ha.y2, ha.z1, ha.z2⟩)
        have HCE : Hid (∀ W : World, Below w.heap.size w W → W.cell? ⟨ga, oa + k * 3, none⟩ = some (.int .i64 x) ∧ W.cell? ⟨ga, oa + k * 3 + 1, none⟩ = some (.int .i64 y) ∧ W.cell? ⟨ga, oa + k * 3 + 2, none⟩ = some (.int .i64 z)) := Lib.hid fun W hb => by
          have h := ha.only (F := fun _ => False) (Only.of_below hb) (fun h => h)
          rw [← hx, ← hy, ← hz]
          exact ⟨h.x, h.y, h.z⟩
        have HKL : Hid (c.k ≤ 80000) := Lib.hid (by have := HK.out; have := HN200.out; omega)
        have HLT := Lib.hid hlt
        clear ha hx hy hz hlt hk
        obtain ⟨ck1, -, -⟩ := HCE.out _ HI.out.below
        by_cases h1 : x = 1
        · subst h1
          go_upto_region 15 with fail
          refine wp_region_noPanic ?_
          refine wp_region_held_drew (S := fun V => Below w.heap.size w V) (by kernel_rfl) (by exact HI.out.below.drew) (fun hS => ?_)
          refine' take_at 0 rfl (by kernel_rfl) (by kernel_rfl) (by kernel_rfl) (fun _ _ _ h => h) (by rfl) hS ?_ ?_ ?_
          rotate_left 2
          · intro W hSW; go_simp; try with_reducible rfl
          · simp only [List.set_cons_succ, List.set_cons_zero]; rfl
          refine' take_at 1 rfl (by kernel_rfl) (by kernel_rfl) (by kernel_rfl) (fun _ _ _ h => h) (by rfl) hS ?_ ?_ ?_
          rotate_left 2
          · intro W hSW; go_simp; try with_reducible rfl
          · simp only [List.set_cons_succ, List.set_cons_zero]; rfl
          refine' take_at 2 rfl (by kernel_rfl) (by kernel_rfl) (by kernel_rfl) (fun _ _ _ h => h) (by rfl) hS ?_ ?_ ?_
          rotate_left 2
          · intro W hSW; go_simp; try with_reducible rfl
          · simp only [List.set_cons_succ, List.set_cons_zero]; rfl
          refine' take_at 3 rfl (by kernel_rfl) (by kernel_rfl) (by kernel_rfl) (fun _ _ _ h => h) (by rfl) hS ?_ ?_ ?_
          rotate_left 2
          · intro W hSW; go_simp; try with_reducible rfl
          · simp only [List.set_cons_succ, List.set_cons_zero]; rfl
          refine' take_at 4 rfl (by kernel_rfl) (by kernel_rfl) (by kernel_rfl) (fun _ _ _ h => h) (by rfl) hS ?_ ?_ ?_
          rotate_left 2
          · intro W hSW; go_simp; try with_reducible rfl
          · simp only [List.set_cons_succ, List.set_cons_zero]; rfl
          refine' take_at 5 rfl (by kernel_rfl) (by kernel_rfl) (by kernel_rfl) (fun _ _ _ h => h) (by rfl) hS ?_ ?_ ?_
          rotate_left 2
          · intro W hSW; obtain ⟨ca, cb, cc⟩ := HCE.out W hSW; go_simp; try with_reducible rfl
          · simp only [List.set_cons_succ, List.set_cons_zero]; rfl
          refine' take_at 6 rfl (by kernel_rfl) (by kernel_rfl) (by kernel_rfl) (fun _ _ _ h => h) (by rfl) hS ?_ ?_ ?_
          rotate_left 2
          · intro W hSW; go_simp; try with_reducible rfl
          · simp only [List.set_cons_succ, List.set_cons_zero]; rfl
          refine' take_at 7 rfl (by kernel_rfl) (by kernel_rfl) (by kernel_rfl) (fun _ _ _ h => h) (by rfl) hS ?_ ?_ ?_
          rotate_left 2
          · intro W hSW; go_simp; try with_reducible rfl
          · simp only [List.set_cons_succ, List.set_cons_zero]; rfl
          refine' take_at 8 rfl (by kernel_rfl) (by kernel_rfl) (by kernel_rfl) (fun _ _ _ h => h) (by rfl) hS ?_ ?_ ?_
          rotate_left 2
          · intro W hSW; go_simp; try with_reducible rfl
          · simp only [List.set_cons_succ, List.set_cons_zero]; rfl
          refine' take_at 9 rfl (by kernel_rfl) (by kernel_rfl) (by kernel_rfl) (fun _ _ _ h => h) (by rfl) hS ?_ ?_ ?_
          rotate_left 2
          · intro W hSW; go_simp; try with_reducible rfl
          · simp only [List.set_cons_succ, List.set_cons_zero]; rfl
          refine' take_at 10 rfl (by kernel_rfl) (by kernel_rfl) (by kernel_rfl) (fun _ _ _ h => h) (by rfl) hS ?_ ?_ ?_
          rotate_left 2
          · intro W hSW; obtain ⟨ca, cb, cc⟩ := HCE.out W hSW; go_simp; try with_reducible rfl
          · simp only [List.set_cons_succ, List.set_cons_zero]; rfl
          refine' take_at 12 rfl (by kernel_rfl) (by kernel_rfl) (by kernel_rfl) (fun _ _ _ h => h) (by rfl) hS ?_ ?_ ?_
          rotate_left 2
          · intro W hSW; go_simp; try with_reducible rfl
          · simp only [List.set_cons_succ, List.set_cons_zero]; rfl
          refine' take_at 13 rfl (by kernel_rfl) (by kernel_rfl) (by kernel_rfl) (fun _ _ _ h => h) (by rfl) hS ?_ ?_ ?_
          rotate_left 2
          · intro W hSW; go_simp; try with_reducible rfl
          · simp only [List.set_cons_succ, List.set_cons_zero]; rfl
          refine' take_at 14 rfl (by kernel_rfl) (by kernel_rfl) (by kernel_rfl) (fun _ _ _ h => h) (by rfl) hS ?_ ?_ ?_
          rotate_left 2
          · intro W hSW; go_simp; try with_reducible rfl
          · simp only [List.set_cons_succ, List.set_cons_zero]; rfl
          refine' take_at 15 rfl (by kernel_rfl) (by kernel_rfl) (by kernel_rfl) (fun _ _ _ h => h) (by rfl) hS ?_ ?_ ?_
          rotate_left 2
          · intro W hSW; go_simp; try with_reducible rfl
          · simp only [List.set_cons_succ, List.set_cons_zero]; rfl
          refine' take_at 16 rfl (by kernel_rfl) (by kernel_rfl) (by kernel_rfl) (fun _ _ _ h => h) (by rfl) hS ?_ ?_ ?_
          rotate_left 2
          · intro W hSW; go_simp; try with_reducible rfl
          · simp only [List.set_cons_succ, List.set_cons_zero]; rfl
          refine' take_at 17 rfl (by kernel_rfl) (by kernel_rfl) (by kernel_rfl) (fun _ _ _ h => h) (by rfl) hS ?_ ?_ ?_
          rotate_left 2
          · intro W hSW; obtain ⟨ca, cb, cc⟩ := HCE.out W hSW; go_simp; try with_reducible rfl
          · simp only [List.set_cons_succ, List.set_cons_zero]; rfl
          refine' take_at 18 rfl (by kernel_rfl) (by kernel_rfl) (by kernel_rfl) (fun _ _ _ h => h) (by rfl) hS ?_ ?_ ?_
          rotate_left 2
          · intro W hSW; go_simp; try with_reducible rfl
          · simp only [List.set_cons_succ, List.set_cons_zero]; rfl
          refine' take_at 19 rfl (by kernel_rfl) (by kernel_rfl) (by kernel_rfl) (fun _ _ _ h => h) (by rfl) hS ?_ ?_ ?_
          rotate_left 2
          · intro W hSW; go_simp; try with_reducible rfl
          · simp only [List.set_cons_succ, List.set_cons_zero]; rfl
          refine' take_at 20 rfl (by kernel_rfl) (by kernel_rfl) (by kernel_rfl) (fun _ _ _ h => h) (by rfl) hS ?_ ?_ ?_
          rotate_left 2
          · intro W hSW; go_simp; try with_reducible rfl
          · simp only [List.set_cons_succ, List.set_cons_zero]; rfl
          refine' take_at 21 rfl (by kernel_rfl) (by kernel_rfl) (by kernel_rfl) (fun _ _ _ h => h) (by rfl) hS ?_ ?_ ?_
          rotate_left 2
          · intro W hSW; go_simp; try with_reducible rfl
          · simp only [List.set_cons_succ, List.set_cons_zero]; rfl
          refine' take_at 22 rfl (by kernel_rfl) (by kernel_rfl) (by kernel_rfl) (fun _ _ _ h => h) (by rfl) hS ?_ ?_ ?_
          rotate_left 2
          · intro W hSW; obtain ⟨ca, cb, cc⟩ := HCE.out W hSW; go_simp; try with_reducible rfl
          · simp only [List.set_cons_succ, List.set_cons_zero]; rfl
          refine call_at 11 rfl (by kernel_rfl) (by rfl) (fun K hK => ?_)
          go_simp
          have K1 := Lib.hid (D.bit (D.base.below HI.out.co (Below.refl wr.heap.size wr).drew) HKL.out y z HX.out.1 HX.out.2.1 HX.out.2.2.1 HX.out.2.2.2)
          with_reducible refine K1.out.mono ?_
          rintro e u1 ⟨rfl, hp1⟩
          obtain ⟨F1, hq1⟩ := (HI.out.low D.base D.tb (Below.refl wr.heap.size wr).drew).prog D.base D.tb hp1
          have HQ1 := Lib.hid hq1
          clear hS hp1 hq1 K1
          refine hK.out _ _ (by exact HQ1.out.below) (fun hS => ?_)
          clear hK K
          refine call_at 23 rfl (by kernel_rfl) (by rfl) (fun K hK => ?_)
          go_simp
          have K2 := Lib.hid (rcbit_any HQ1.out.rc (by have := HKL.out; omega) HQ1.out.below.size y z)
          with_reducible refine K2.out.mono ?_
          rintro e u2 ⟨rfl, hp2⟩
          obtain ⟨gl', hq2⟩ := HQ1.out.ref D.base D.tb hp2
          have HQ2 := Lib.hid hq2
          clear hS hp2 hq2 K2 HQ1
          refine hK.out _ _ (by exact HQ2.out.below) (fun hS => ?_)
          clear hK K
          refine' take_at 24 rfl (by kernel_rfl) (by kernel_rfl) (by kernel_rfl) (fun _ _ _ h => h) (by rfl) hS ?_ ?_ ?_
          rotate_left 2
          · intro W hSW; go_simp; try with_reducible rfl
          · simp only [List.set_cons_succ, List.set_cons_zero]; rfl
          refine wpAnyH_done (by kernel_rfl) ?_ _
          refine NoPanic.normal ?_
          clear hS HI ck1
          (try simp only [Act.put])
          have HKN : Hid ((c.bit y (decide (z = 0))).k ≤ 8 * (k + 1)) := Lib.hid (by have := Cd.bit_k c y (decide (z = 0)); have := HK.out; omega)
          obtain ⟨c2, hc2⟩ : ∃ c2, c.bit y (decide (z = 0)) = c2 := ⟨_, rfl⟩
          rw [hc2] at HQ2 HKN
          clear hc2
          obtain ⟨cap, hrow, hob⟩ := HQ2.out.rc.2.row
          have hkb : (c2).k ≤ 90000 := (by have := HKN.out; have := HN200.out; have := HLT.out; omega)
          obtain ⟨lo, hlo⟩ : ∃ l, (c2).out = l := ⟨_, rfl⟩
          obtain ⟨ln, hln⟩ : ∃ l, lo.length = l := ⟨_, rfl⟩
          obtain ⟨sp, hsp⟩ : ∃ l, strB lo = l := ⟨_, rfl⟩
          rw [hlo] at hrow hob
          rw [hln] at hrow hob
          have HDN := Lib.hid (D.done (D.base.below HQ2.out.co (Below.refl u2.heap.size u2).drew) hkb)
          rw [hlo] at HDN
          have HROW : Hid (∀ V : World, Below u2.heap.size u2 V → V.cell? ⟨rg, 0, none⟩ = some (.slice (some ⟨gl', 0, none⟩) ln cap)) := Lib.hid fun V hV => by
            have h : V.heap[rg]? = _ := (hV.block rg (Array.getElem?_eq_some_iff.1 hrow).1).trans hrow
            rw [cell_of_row _ _ _ _ _ _ h]; rfl
          have HCV : Hid (∀ V : World, Below u2.heap.size u2 V → (convert 38 9 (.slice (some ⟨gl', 0, none⟩) ln cap)).run Try.prog V = .ok (.string sp) V) := Lib.hid fun V hV => by
            rw [← hsp]
            exact conv16 (Ob.bs (hob.below hV)) hln
          have HLN := Lib.hid hln
          have HSP := Lib.hid hsp
          clear hrow hob hlo hkb hln hsp
          go_upto_region 23 with fail
          refine wp_region_noPanic ?_
          refine wp_region_held_drew (S := fun V => Below u2.heap.size u2 V) (by kernel_rfl) (by exact (Below.refl _ _).drew) (fun hS => ?_)
          refine' take_at 0 rfl (by kernel_rfl) (by kernel_rfl) (by kernel_rfl) (fun _ _ _ h => h) (by rfl) hS ?_ ?_ ?_
          rotate_left 2
          · intro W hSW; go_simp; try with_reducible rfl
          · simp only [List.set_cons_succ, List.set_cons_zero]; rfl
          refine' take_at 3 rfl (by kernel_rfl) (by kernel_rfl) (by kernel_rfl) (fun _ _ _ h => h) (by rfl) hS ?_ ?_ ?_
          rotate_left 2
          · intro W hSW; go_simp; try with_reducible rfl
          · simp only [List.set_cons_succ, List.set_cons_zero]; rfl
          refine' take_at 4 rfl (by kernel_rfl) (by kernel_rfl) (by kernel_rfl) (fun _ _ _ h => h) (by rfl) hS ?_ ?_ ?_
          rotate_left 2
          · intro W hSW; go_simp; try with_reducible rfl
          · simp only [List.set_cons_succ, List.set_cons_zero]; rfl
          refine' take_at 5 rfl (by kernel_rfl) (by kernel_rfl) (by kernel_rfl) (fun _ _ _ h => h) (by rfl) hS ?_ ?_ ?_
          rotate_left 2
          · intro W hSW; go_simp; try with_reducible rfl
          · simp only [List.set_cons_succ, List.set_cons_zero]; rfl
          refine' take_at 6 rfl (by kernel_rfl) (by kernel_rfl) (by kernel_rfl) (fun _ _ _ h => h) (by rfl) hS ?_ ?_ ?_
          rotate_left 2
          · intro W hSW; have ca := HROW.out W hSW; go_simp; try with_reducible rfl
          · simp only [List.set_cons_succ, List.set_cons_zero]; rfl
          refine' take_at 7 rfl (by kernel_rfl) (by kernel_rfl) (by kernel_rfl) (fun _ _ _ h => h) (by rfl) hS ?_ ?_ ?_
          rotate_left 2
          · intro W hSW; have ca := HCV.out W hSW; go_simp; try with_reducible rfl
          · simp only [List.set_cons_succ, List.set_cons_zero]; rfl
          refine call_at 1 rfl (by kernel_rfl) (by rfl) (fun K hK => ?_)
          go_simp
          with_reducible refine HDN.out.mono ?_
          rintro e vD23 ⟨xD23, rfl, hoD23, hbD23⟩
          obtain ⟨AD23, cD23, rfl, hbsD23⟩ := hoD23.form16 HLN.out
          have kSD23 : Below u2.heap.size u2 vD23 := below_then hS hbD23
          have cvD23 : ∀ V, Below vD23.heap.size vD23 V → (convert 38 9 (.slice AD23 ln cD23)).run Try.prog V = .ok (.string sp) V := fun V hV => by
            rw [← HSP.out]
            exact conv16 (hbsD23.below hV) HLN.out
          clear hS
          refine hK.out _ _ (by exact kSD23) (fun hS => ?_)
          clear hK K
          refine held_mono (S2 := fun V => Below vD23.heap.size vD23 V) (fun V hV => kSD23.trans (hV.mono kSD23.size)) _ _ _ _ ?_
          replace hS : Below vD23.heap.size vD23 vD23 := Below.refl _ _
          have HQD23 := Lib.hid (HQ2.out.low D.base D.tb kSD23)
          clear hoD23 hbD23 hbsD23
          refine' take_at 2 rfl (by kernel_rfl) (by kernel_rfl) (by kernel_rfl) (fun _ _ _ h => h) (by rfl) hS ?_ ?_ ?_
          rotate_left 2
          · intro W hSW; have ca := cvD23 W hSW; go_simp; try with_reducible rfl
          · simp only [List.set_cons_succ, List.set_cons_zero]; rfl
          refine' take_at 8 rfl (by kernel_rfl) (by kernel_rfl) (by kernel_rfl) (fun _ _ _ h => h) (by rfl) hS ?_ ?_ ?_
          rotate_left 2
          · intro W hSW; go_simp; try with_reducible rfl
          · simp only [List.set_cons_succ, List.set_cons_zero]; rfl
          refine' take_at 9 rfl (by kernel_rfl) (by kernel_rfl) (by kernel_rfl) (fun _ _ _ h => h) (by rfl) hS ?_ ?_ ?_
          rotate_left 2
          · intro W hSW; go_simp; try with_reducible rfl
          · simp only [List.set_cons_succ, List.set_cons_zero]; rfl
          refine' take_at 10 rfl (by kernel_rfl) (by kernel_rfl) (by kernel_rfl) (fun _ _ _ h => h) (by rfl) hS ?_ ?_ ?_
          rotate_left 2
          · intro W hSW; go_simp; try with_reducible rfl
          · simp only [List.set_cons_succ, List.set_cons_zero]; rfl
          refine' take_at 11 rfl (by kernel_rfl) (by kernel_rfl) (by kernel_rfl) (fun _ _ _ h => h) (by rfl) hS ?_ ?_ ?_
          rotate_left 2
          · intro W hSW; go_simp; try with_reducible rfl
          · simp only [List.set_cons_succ, List.set_cons_zero]; rfl
          refine' take_at 12 rfl (by kernel_rfl) (by kernel_rfl) (by kernel_rfl) (fun _ _ _ h => h) (by rfl) hS ?_ ?_ ?_
          rotate_left 2
          · intro W hSW; go_simp; try with_reducible rfl
          · simp only [List.set_cons_succ, List.set_cons_zero]; rfl
          refine' take_at 13 rfl (by kernel_rfl) (by kernel_rfl) (by kernel_rfl) (fun _ _ _ h => h) (by rfl) hS ?_ ?_ ?_
          rotate_left 2
          · intro W hSW; go_simp; try with_reducible rfl
          · simp only [List.set_cons_succ, List.set_cons_zero]; rfl
          refine' take_at 14 rfl (by kernel_rfl) (by kernel_rfl) (by kernel_rfl) (fun _ _ _ h => h) (by rfl) hS ?_ ?_ ?_
          rotate_left 2
          · intro W hSW; go_simp; try with_reducible rfl
          · simp only [List.set_cons_succ, List.set_cons_zero]; rfl
          refine' take_at 15 rfl (by kernel_rfl) (by kernel_rfl) (by kernel_rfl) (fun _ _ _ h => h) (by rfl) hS ?_ ?_ ?_
          rotate_left 2
          · intro W hSW; obtain ⟨ca, cb, cc⟩ := HCE.out W (below_then HQD23.out.below hSW); go_simp; try with_reducible rfl
          · simp only [List.set_cons_succ, List.set_cons_zero]; rfl
          refine' take_at 17 rfl (by kernel_rfl) (by kernel_rfl) (by kernel_rfl) (fun _ _ _ h => h) (by rfl) hS ?_ ?_ ?_
          rotate_left 2
          · intro W hSW; go_simp; try with_reducible rfl
          · simp only [List.set_cons_succ, List.set_cons_zero]; rfl
          refine' take_at 18 rfl (by kernel_rfl) (by kernel_rfl) (by kernel_rfl) (fun _ _ _ h => h) (by rfl) hS ?_ ?_ ?_
          rotate_left 2
          · intro W hSW; go_simp; try with_reducible rfl
          · simp only [List.set_cons_succ, List.set_cons_zero]; rfl
          refine' take_at 19 rfl (by kernel_rfl) (by kernel_rfl) (by kernel_rfl) (fun _ _ _ h => h) (by rfl) hS ?_ ?_ ?_
          rotate_left 2
          · intro W hSW; go_simp; try with_reducible rfl
          · simp only [List.set_cons_succ, List.set_cons_zero]; rfl
          refine' take_at 20 rfl (by kernel_rfl) (by kernel_rfl) (by kernel_rfl) (fun _ _ _ h => h) (by rfl) hS ?_ ?_ ?_
          rotate_left 2
          · intro W hSW; go_simp; try with_reducible rfl
          · simp only [List.set_cons_succ, List.set_cons_zero]; rfl
          refine' take_at 21 rfl (by kernel_rfl) (by kernel_rfl) (by kernel_rfl) (fun _ _ _ h => h) (by rfl) hS ?_ ?_ ?_
          rotate_left 2
          · intro W hSW; go_simp; try with_reducible rfl
          · simp only [List.set_cons_succ, List.set_cons_zero]; rfl
          refine' take_at 22 rfl (by kernel_rfl) (by kernel_rfl) (by kernel_rfl) (fun _ _ _ h => h) (by rfl) hS ?_ ?_ ?_
          rotate_left 2
          · intro W hSW; obtain ⟨ca, cb, cc⟩ := HCE.out W (below_then HQD23.out.below hSW); go_simp; try with_reducible rfl
          · simp only [List.set_cons_succ, List.set_cons_zero]; rfl
          refine call_at 16 rfl (by kernel_rfl) (by rfl) (fun K hK => ?_)
          go_simp
          have KA := Lib.hid (D.tat (D.tb.below HQD23.out.tr hS) y HX.out.1 HX.out.2.1)
          with_reducible refine KA.out.mono ?_
          rintro e uA ⟨rfl, hbA⟩
          have kbA := below_then hS hbA
          clear hS hbA KA
          refine hK.out _ _ (by exact kbA) (fun hS => ?_)
          clear hK K
          refine call_at 23 rfl (by kernel_rfl) (by rfl) (fun K hK => ?_)
          go_simp
          have KB := Lib.hid (rat15_any (HQD23.out.rt.below kbA) y)
          with_reducible refine KB.out.mono ?_
          rintro e uB ⟨rfl, hwB⟩
          subst hwB
          clear hS KB
          refine hK.out _ _ (by exact kbA) (fun hS => ?_)
          clear hK K
          refine' take_at 24 rfl (by kernel_rfl) (by kernel_rfl) (by kernel_rfl) (fun _ _ _ h => h) (by rfl) hS ?_ ?_ ?_
          rotate_left 2
          · intro W hSW; go_simp; try with_reducible rfl
          · simp only [List.set_cons_succ, List.set_cons_zero]; rfl
          refine' take_at 25 rfl (by kernel_rfl) (by kernel_rfl) (by kernel_rfl) (fun _ _ _ h => h) (by rfl) hS ?_ ?_ ?_
          rotate_left 2
          · intro W hSW; go_simp; try with_reducible rfl
          · simp only [List.set_cons_succ, List.set_cons_zero]; rfl
          refine wpAnyH_done (by kernel_rfl) ?_ _
          refine NoPanic.normal ?_
          clear hS
          (try simp only [Act.put])
          have HQE := Lib.hid (HQD23.out.low D.base D.tb kbA)
          clear kbA HQD23
          go_wp2_with fail
          go_roundw
          case rel => exact ⟨k + 1, c2, t, gl', _, _, by have := HLT.out; omega, by go_num, Lib.hid HKN.out, HQE⟩
          case measure => have := HLT.out; simp [intOf]; omega
        · have e1 : decide (x = 1) = false := decide_eq_false h1
          have e1' : (x == 1) = false := by simpa using h1
          by_cases h2 : x = 2
          · subst h2
            obtain ⟨-, -, ck3⟩ := HCE.out _ HI.out.below
            go_wp2_with fail
            with_reducible refine (D.half HI.out.co HKL.out z HX.out.2.2.1 HX.out.2.2.2).mono ?_
            rintro e u1 ⟨rfl, hp1⟩
            obtain ⟨F1, hq1⟩ := HI.out.prog D.base D.tb hp1
            have HQ1 := Lib.hid hq1
            clear hp1 hq1 HI ck1 ck3
            obtain ⟨-, -, ck3⟩ := HCE.out _ HQ1.out.below
            go_wp2_with fail
            with_reducible refine (rchalf_any HQ1.out.rc (by have := HKL.out; omega) HQ1.out.below.size z).mono ?_
            rintro e u2 ⟨rfl, hp2⟩
            obtain ⟨gl', hq2⟩ := HQ1.out.ref D.base D.tb hp2
            have HQ2 := Lib.hid hq2
            clear hp2 hq2 HQ1 ck3
            have HKN : Hid ((c.half (decide (z = 0))).k ≤ 8 * (k + 1)) := Lib.hid (by have := Cd.half_k c (decide (z = 0)); have := HK.out; omega)
            obtain ⟨c2, hc2⟩ : ∃ c2, c.half (decide (z = 0)) = c2 := ⟨_, rfl⟩
            rw [hc2] at HQ2 HKN
            clear hc2
            obtain ⟨cap, hrow, hob⟩ := HQ2.out.rc.2.row
            have hkb : (c2).k ≤ 90000 := (by have := HKN.out; have := HN200.out; have := HLT.out; omega)
            obtain ⟨lo, hlo⟩ : ∃ l, (c2).out = l := ⟨_, rfl⟩
            obtain ⟨ln, hln⟩ : ∃ l, lo.length = l := ⟨_, rfl⟩
            obtain ⟨sp, hsp⟩ : ∃ l, strB lo = l := ⟨_, rfl⟩
            rw [hlo] at hrow hob
            rw [hln] at hrow hob
            have HDN := Lib.hid (D.done (D.base.below HQ2.out.co (Below.refl u2.heap.size u2).drew) hkb)
            rw [hlo] at HDN
            have HROW : Hid (∀ V : World, Below u2.heap.size u2 V → V.cell? ⟨rg, 0, none⟩ = some (.slice (some ⟨gl', 0, none⟩) ln cap)) := Lib.hid fun V hV => by
              have h : V.heap[rg]? = _ := (hV.block rg (Array.getElem?_eq_some_iff.1 hrow).1).trans hrow
              rw [cell_of_row _ _ _ _ _ _ h]; rfl
            have HCV : Hid (∀ V : World, Below u2.heap.size u2 V → (convert 38 9 (.slice (some ⟨gl', 0, none⟩) ln cap)).run Try.prog V = .ok (.string sp) V) := Lib.hid fun V hV => by
              rw [← hsp]
              exact conv16 (Ob.bs (hob.below hV)) hln
            have HLN := Lib.hid hln
            have HSP := Lib.hid hsp
            clear hrow hob hlo hkb hln hsp
            go_upto_region 23 with fail
            refine wp_region_noPanic ?_
            refine wp_region_held_drew (S := fun V => Below u2.heap.size u2 V) (by kernel_rfl) (by exact (Below.refl _ _).drew) (fun hS => ?_)
            refine' take_at 0 rfl (by kernel_rfl) (by kernel_rfl) (by kernel_rfl) (fun _ _ _ h => h) (by rfl) hS ?_ ?_ ?_
            rotate_left 2
            · intro W hSW; go_simp; try with_reducible rfl
            · simp only [List.set_cons_succ, List.set_cons_zero]; rfl
            refine' take_at 3 rfl (by kernel_rfl) (by kernel_rfl) (by kernel_rfl) (fun _ _ _ h => h) (by rfl) hS ?_ ?_ ?_
            rotate_left 2
            · intro W hSW; go_simp; try with_reducible rfl
            · simp only [List.set_cons_succ, List.set_cons_zero]; rfl
            refine' take_at 4 rfl (by kernel_rfl) (by kernel_rfl) (by kernel_rfl) (fun _ _ _ h => h) (by rfl) hS ?_ ?_ ?_
            rotate_left 2
            · intro W hSW; go_simp; try with_reducible rfl
            · simp only [List.set_cons_succ, List.set_cons_zero]; rfl
            refine' take_at 5 rfl (by kernel_rfl) (by kernel_rfl) (by kernel_rfl) (fun _ _ _ h => h) (by rfl) hS ?_ ?_ ?_
            rotate_left 2
            · intro W hSW; go_simp; try with_reducible rfl
            · simp only [List.set_cons_succ, List.set_cons_zero]; rfl
            refine' take_at 6 rfl (by kernel_rfl) (by kernel_rfl) (by kernel_rfl) (fun _ _ _ h => h) (by rfl) hS ?_ ?_ ?_
            rotate_left 2
            · intro W hSW; have ca := HROW.out W hSW; go_simp; try with_reducible rfl
            · simp only [List.set_cons_succ, List.set_cons_zero]; rfl
            refine' take_at 7 rfl (by kernel_rfl) (by kernel_rfl) (by kernel_rfl) (fun _ _ _ h => h) (by rfl) hS ?_ ?_ ?_
            rotate_left 2
            · intro W hSW; have ca := HCV.out W hSW; go_simp; try with_reducible rfl
            · simp only [List.set_cons_succ, List.set_cons_zero]; rfl
            refine call_at 1 rfl (by kernel_rfl) (by rfl) (fun K hK => ?_)
            go_simp
            with_reducible refine HDN.out.mono ?_
            rintro e vD23 ⟨xD23, rfl, hoD23, hbD23⟩
            obtain ⟨AD23, cD23, rfl, hbsD23⟩ := hoD23.form16 HLN.out
            have kSD23 : Below u2.heap.size u2 vD23 := below_then hS hbD23
            have cvD23 : ∀ V, Below vD23.heap.size vD23 V → (convert 38 9 (.slice AD23 ln cD23)).run Try.prog V = .ok (.string sp) V := fun V hV => by
              rw [← HSP.out]
              exact conv16 (hbsD23.below hV) HLN.out
            clear hS
            refine hK.out _ _ (by exact kSD23) (fun hS => ?_)
            clear hK K
            refine held_mono (S2 := fun V => Below vD23.heap.size vD23 V) (fun V hV => kSD23.trans (hV.mono kSD23.size)) _ _ _ _ ?_
            replace hS : Below vD23.heap.size vD23 vD23 := Below.refl _ _
            have HQD23 := Lib.hid (HQ2.out.low D.base D.tb kSD23)
            clear hoD23 hbD23 hbsD23
            refine' take_at 2 rfl (by kernel_rfl) (by kernel_rfl) (by kernel_rfl) (fun _ _ _ h => h) (by rfl) hS ?_ ?_ ?_
            rotate_left 2
            · intro W hSW; have ca := cvD23 W hSW; go_simp; try with_reducible rfl
            · simp only [List.set_cons_succ, List.set_cons_zero]; rfl
            refine' take_at 8 rfl (by kernel_rfl) (by kernel_rfl) (by kernel_rfl) (fun _ _ _ h => h) (by rfl) hS ?_ ?_ ?_
            rotate_left 2
            · intro W hSW; go_simp; try with_reducible rfl
            · simp only [List.set_cons_succ, List.set_cons_zero]; rfl
            refine' take_at 9 rfl (by kernel_rfl) (by kernel_rfl) (by kernel_rfl) (fun _ _ _ h => h) (by rfl) hS ?_ ?_ ?_
            rotate_left 2
            · intro W hSW; go_simp; try with_reducible rfl
            · simp only [List.set_cons_succ, List.set_cons_zero]; rfl
            refine' take_at 10 rfl (by kernel_rfl) (by kernel_rfl) (by kernel_rfl) (fun _ _ _ h => h) (by rfl) hS ?_ ?_ ?_
            rotate_left 2
            · intro W hSW; go_simp; try with_reducible rfl
            · simp only [List.set_cons_succ, List.set_cons_zero]; rfl
            refine' take_at 11 rfl (by kernel_rfl) (by kernel_rfl) (by kernel_rfl) (fun _ _ _ h => h) (by rfl) hS ?_ ?_ ?_
            rotate_left 2
            · intro W hSW; go_simp; try with_reducible rfl
            · simp only [List.set_cons_succ, List.set_cons_zero]; rfl
            refine' take_at 12 rfl (by kernel_rfl) (by kernel_rfl) (by kernel_rfl) (fun _ _ _ h => h) (by rfl) hS ?_ ?_ ?_
            rotate_left 2
            · intro W hSW; go_simp; try with_reducible rfl
            · simp only [List.set_cons_succ, List.set_cons_zero]; rfl
            refine' take_at 13 rfl (by kernel_rfl) (by kernel_rfl) (by kernel_rfl) (fun _ _ _ h => h) (by rfl) hS ?_ ?_ ?_
            rotate_left 2
            · intro W hSW; go_simp; try with_reducible rfl
            · simp only [List.set_cons_succ, List.set_cons_zero]; rfl
            refine' take_at 14 rfl (by kernel_rfl) (by kernel_rfl) (by kernel_rfl) (fun _ _ _ h => h) (by rfl) hS ?_ ?_ ?_
            rotate_left 2
            · intro W hSW; go_simp; try with_reducible rfl
            · simp only [List.set_cons_succ, List.set_cons_zero]; rfl
            refine' take_at 15 rfl (by kernel_rfl) (by kernel_rfl) (by kernel_rfl) (fun _ _ _ h => h) (by rfl) hS ?_ ?_ ?_
            rotate_left 2
            · intro W hSW; obtain ⟨ca, cb, cc⟩ := HCE.out W (below_then HQD23.out.below hSW); go_simp; try with_reducible rfl
            · simp only [List.set_cons_succ, List.set_cons_zero]; rfl
            refine' take_at 17 rfl (by kernel_rfl) (by kernel_rfl) (by kernel_rfl) (fun _ _ _ h => h) (by rfl) hS ?_ ?_ ?_
            rotate_left 2
            · intro W hSW; go_simp; try with_reducible rfl
            · simp only [List.set_cons_succ, List.set_cons_zero]; rfl
            refine' take_at 18 rfl (by kernel_rfl) (by kernel_rfl) (by kernel_rfl) (fun _ _ _ h => h) (by rfl) hS ?_ ?_ ?_
            rotate_left 2
            · intro W hSW; go_simp; try with_reducible rfl
            · simp only [List.set_cons_succ, List.set_cons_zero]; rfl
            refine' take_at 19 rfl (by kernel_rfl) (by kernel_rfl) (by kernel_rfl) (fun _ _ _ h => h) (by rfl) hS ?_ ?_ ?_
            rotate_left 2
            · intro W hSW; go_simp; try with_reducible rfl
            · simp only [List.set_cons_succ, List.set_cons_zero]; rfl
            refine' take_at 20 rfl (by kernel_rfl) (by kernel_rfl) (by kernel_rfl) (fun _ _ _ h => h) (by rfl) hS ?_ ?_ ?_
            rotate_left 2
            · intro W hSW; go_simp; try with_reducible rfl
            · simp only [List.set_cons_succ, List.set_cons_zero]; rfl
            refine' take_at 21 rfl (by kernel_rfl) (by kernel_rfl) (by kernel_rfl) (fun _ _ _ h => h) (by rfl) hS ?_ ?_ ?_
            rotate_left 2
            · intro W hSW; go_simp; try with_reducible rfl
            · simp only [List.set_cons_succ, List.set_cons_zero]; rfl
            refine' take_at 22 rfl (by kernel_rfl) (by kernel_rfl) (by kernel_rfl) (fun _ _ _ h => h) (by rfl) hS ?_ ?_ ?_
            rotate_left 2
            · intro W hSW; obtain ⟨ca, cb, cc⟩ := HCE.out W (below_then HQD23.out.below hSW); go_simp; try with_reducible rfl
            · simp only [List.set_cons_succ, List.set_cons_zero]; rfl
            refine call_at 16 rfl (by kernel_rfl) (by rfl) (fun K hK => ?_)
            go_simp
            have KA := Lib.hid (D.tat (D.tb.below HQD23.out.tr hS) y HX.out.1 HX.out.2.1)
            with_reducible refine KA.out.mono ?_
            rintro e uA ⟨rfl, hbA⟩
            have kbA := below_then hS hbA
            clear hS hbA KA
            refine hK.out _ _ (by exact kbA) (fun hS => ?_)
            clear hK K
            refine call_at 23 rfl (by kernel_rfl) (by rfl) (fun K hK => ?_)
            go_simp
            have KB := Lib.hid (rat15_any (HQD23.out.rt.below kbA) y)
            with_reducible refine KB.out.mono ?_
            rintro e uB ⟨rfl, hwB⟩
            subst hwB
            clear hS KB
            refine hK.out _ _ (by exact kbA) (fun hS => ?_)
            clear hK K
            refine' take_at 24 rfl (by kernel_rfl) (by kernel_rfl) (by kernel_rfl) (fun _ _ _ h => h) (by rfl) hS ?_ ?_ ?_
            rotate_left 2
            · intro W hSW; go_simp; try with_reducible rfl
            · simp only [List.set_cons_succ, List.set_cons_zero]; rfl
            refine' take_at 25 rfl (by kernel_rfl) (by kernel_rfl) (by kernel_rfl) (fun _ _ _ h => h) (by rfl) hS ?_ ?_ ?_
            rotate_left 2
            · intro W hSW; go_simp; try with_reducible rfl
            · simp only [List.set_cons_succ, List.set_cons_zero]; rfl
            refine wpAnyH_done (by kernel_rfl) ?_ _
            refine NoPanic.normal ?_
            clear hS
            (try simp only [Act.put])
            have HQE := Lib.hid (HQD23.out.low D.base D.tb kbA)
            clear kbA HQD23
            go_wp2_with fail
            go_roundw
            case rel => exact ⟨k + 1, c2, t, gl', _, _, by have := HLT.out; omega, by go_num, Lib.hid HKN.out, HQE⟩
            case measure => have := HLT.out; simp [intOf]; omega
          · have e2 : decide (x = 2) = false := decide_eq_false h2
            have e2' : (x == 2) = false := by simpa using h2
            by_cases h3 : x = 3
            · subst h3
              obtain ⟨-, -, ck3⟩ := HCE.out _ HI.out.below
              go_wp2_with fail
              with_reducible refine (D.tree HI.out.co HI.out.tr HI.out.ap.fg HKL.out z HX.out.2.2.1 HX.out.2.2.2).mono ?_
              rintro e u1 ⟨rfl, F1, G1, p1, p2, p3, p4, p5, p6⟩
              have HQ1 := Lib.hid (HI.out.ptree D.base D.tb p1 p2 p3 p4 p5 p6)
              clear p1 p2 p3 p4 p5 p6 HI ck1 ck3
              obtain ⟨-, -, ck3⟩ := HCE.out _ HQ1.out.below
              go_wp2_with fail
              with_reducible refine (rctree_any HQ1.out.rc HQ1.out.rt (fun e => absurd (Or.inl e) (HQ1.out.ap.rs rg (.inl rfl))) (fun e => absurd (Or.inr e) (HQ1.out.ap.rs rg (.inl rfl))) (fun e => absurd (Or.inl e) (HQ1.out.ap.rs gl (.inr rfl))) (fun e => absurd (Or.inr e) (HQ1.out.ap.rs gl (.inr rfl))) (by have := HKL.out; omega) HQ1.out.below.size z).mono ?_
              rintro e u2 ⟨rfl, gl', p1, p2, p3, p4⟩
              have HQ2 := Lib.hid (HQ1.out.rtree D.base D.tb p1 p2 p3 p4)
              have HKN : Hid ((c.tree t z).1.k ≤ 8 * (k + 1)) := Lib.hid (by have := (Cd.tree_ok HQ1.out.rc.1 HQ1.out.rt.ok z).2.2.1; have := HK.out; omega)
              clear p1 p2 p3 p4 HQ1 ck3
              obtain ⟨c2, hc2⟩ : ∃ c2, (c.tree t z).1 = c2 := ⟨_, rfl⟩
              obtain ⟨t2, ht2⟩ : ∃ c2, (c.tree t z).2 = c2 := ⟨_, rfl⟩
              rw [hc2] at HQ2 HKN
              rw [ht2] at HQ2
              clear hc2 ht2
              obtain ⟨cap, hrow, hob⟩ := HQ2.out.rc.2.row
              have hkb : (c2).k ≤ 90000 := (by have := HKN.out; have := HN200.out; have := HLT.out; omega)
              obtain ⟨lo, hlo⟩ : ∃ l, (c2).out = l := ⟨_, rfl⟩
              obtain ⟨ln, hln⟩ : ∃ l, lo.length = l := ⟨_, rfl⟩
              obtain ⟨sp, hsp⟩ : ∃ l, strB lo = l := ⟨_, rfl⟩
              rw [hlo] at hrow hob
              rw [hln] at hrow hob
              have HDN := Lib.hid (D.done (D.base.below HQ2.out.co (Below.refl u2.heap.size u2).drew) hkb)
              rw [hlo] at HDN
              have HROW : Hid (∀ V : World, Below u2.heap.size u2 V → V.cell? ⟨rg, 0, none⟩ = some (.slice (some ⟨gl', 0, none⟩) ln cap)) := Lib.hid fun V hV => by
                have h : V.heap[rg]? = _ := (hV.block rg (Array.getElem?_eq_some_iff.1 hrow).1).trans hrow
                rw [cell_of_row _ _ _ _ _ _ h]; rfl
              have HCV : Hid (∀ V : World, Below u2.heap.size u2 V → (convert 38 9 (.slice (some ⟨gl', 0, none⟩) ln cap)).run Try.prog V = .ok (.string sp) V) := Lib.hid fun V hV => by
                rw [← hsp]
                exact conv16 (Ob.bs (hob.below hV)) hln
              have HLN := Lib.hid hln
              have HSP := Lib.hid hsp
              clear hrow hob hlo hkb hln hsp
              go_upto_region 23 with fail
              refine wp_region_noPanic ?_
              refine wp_region_held_drew (S := fun V => Below u2.heap.size u2 V) (by kernel_rfl) (by exact (Below.refl _ _).drew) (fun hS => ?_)
              refine' take_at 0 rfl (by kernel_rfl) (by kernel_rfl) (by kernel_rfl) (fun _ _ _ h => h) (by rfl) hS ?_ ?_ ?_
              rotate_left 2
              · intro W hSW; go_simp; try with_reducible rfl
              · simp only [List.set_cons_succ, List.set_cons_zero]; rfl
              refine' take_at 3 rfl (by kernel_rfl) (by kernel_rfl) (by kernel_rfl) (fun _ _ _ h => h) (by rfl) hS ?_ ?_ ?_
              rotate_left 2
              · intro W hSW; go_simp; try with_reducible rfl
              · simp only [List.set_cons_succ, List.set_cons_zero]; rfl
              refine' take_at 4 rfl (by kernel_rfl) (by kernel_rfl) (by kernel_rfl) (fun _ _ _ h => h) (by rfl) hS ?_ ?_ ?_
              rotate_left 2
              · intro W hSW; go_simp; try with_reducible rfl
              · simp only [List.set_cons_succ, List.set_cons_zero]; rfl
              refine' take_at 5 rfl (by kernel_rfl) (by kernel_rfl) (by kernel_rfl) (fun _ _ _ h => h) (by rfl) hS ?_ ?_ ?_
              rotate_left 2
              · intro W hSW; go_simp; try with_reducible rfl
              · simp only [List.set_cons_succ, List.set_cons_zero]; rfl
              refine' take_at 6 rfl (by kernel_rfl) (by kernel_rfl) (by kernel_rfl) (fun _ _ _ h => h) (by rfl) hS ?_ ?_ ?_
              rotate_left 2
              · intro W hSW; have ca := HROW.out W hSW; go_simp; try with_reducible rfl
              · simp only [List.set_cons_succ, List.set_cons_zero]; rfl
              refine' take_at 7 rfl (by kernel_rfl) (by kernel_rfl) (by kernel_rfl) (fun _ _ _ h => h) (by rfl) hS ?_ ?_ ?_
              rotate_left 2
              · intro W hSW; have ca := HCV.out W hSW; go_simp; try with_reducible rfl
              · simp only [List.set_cons_succ, List.set_cons_zero]; rfl
              refine call_at 1 rfl (by kernel_rfl) (by rfl) (fun K hK => ?_)
              go_simp
              with_reducible refine HDN.out.mono ?_
              rintro e vD23 ⟨xD23, rfl, hoD23, hbD23⟩
              obtain ⟨AD23, cD23, rfl, hbsD23⟩ := hoD23.form16 HLN.out
              have kSD23 : Below u2.heap.size u2 vD23 := below_then hS hbD23
              have cvD23 : ∀ V, Below vD23.heap.size vD23 V → (convert 38 9 (.slice AD23 ln cD23)).run Try.prog V = .ok (.string sp) V := fun V hV => by
                rw [← HSP.out]
                exact conv16 (hbsD23.below hV) HLN.out
              clear hS
              refine hK.out _ _ (by exact kSD23) (fun hS => ?_)
              clear hK K
              refine held_mono (S2 := fun V => Below vD23.heap.size vD23 V) (fun V hV => kSD23.trans (hV.mono kSD23.size)) _ _ _ _ ?_
              replace hS : Below vD23.heap.size vD23 vD23 := Below.refl _ _
              have HQD23 := Lib.hid (HQ2.out.low D.base D.tb kSD23)
              clear hoD23 hbD23 hbsD23
              refine' take_at 2 rfl (by kernel_rfl) (by kernel_rfl) (by kernel_rfl) (fun _ _ _ h => h) (by rfl) hS ?_ ?_ ?_
              rotate_left 2
              · intro W hSW; have ca := cvD23 W hSW; go_simp; try with_reducible rfl
              · simp only [List.set_cons_succ, List.set_cons_zero]; rfl
              refine' take_at 8 rfl (by kernel_rfl) (by kernel_rfl) (by kernel_rfl) (fun _ _ _ h => h) (by rfl) hS ?_ ?_ ?_
              rotate_left 2
              · intro W hSW; go_simp; try with_reducible rfl
              · simp only [List.set_cons_succ, List.set_cons_zero]; rfl
              refine' take_at 9 rfl (by kernel_rfl) (by kernel_rfl) (by kernel_rfl) (fun _ _ _ h => h) (by rfl) hS ?_ ?_ ?_
              rotate_left 2
              · intro W hSW; go_simp; try with_reducible rfl
              · simp only [List.set_cons_succ, List.set_cons_zero]; rfl
              refine' take_at 10 rfl (by kernel_rfl) (by kernel_rfl) (by kernel_rfl) (fun _ _ _ h => h) (by rfl) hS ?_ ?_ ?_
              rotate_left 2
              · intro W hSW; go_simp; try with_reducible rfl
              · simp only [List.set_cons_succ, List.set_cons_zero]; rfl
              refine' take_at 11 rfl (by kernel_rfl) (by kernel_rfl) (by kernel_rfl) (fun _ _ _ h => h) (by rfl) hS ?_ ?_ ?_
              rotate_left 2
              · intro W hSW; go_simp; try with_reducible rfl
              · simp only [List.set_cons_succ, List.set_cons_zero]; rfl
              refine' take_at 12 rfl (by kernel_rfl) (by kernel_rfl) (by kernel_rfl) (fun _ _ _ h => h) (by rfl) hS ?_ ?_ ?_
              rotate_left 2
              · intro W hSW; go_simp; try with_reducible rfl
              · simp only [List.set_cons_succ, List.set_cons_zero]; rfl
              refine' take_at 13 rfl (by kernel_rfl) (by kernel_rfl) (by kernel_rfl) (fun _ _ _ h => h) (by rfl) hS ?_ ?_ ?_
              rotate_left 2
              · intro W hSW; go_simp; try with_reducible rfl
              · simp only [List.set_cons_succ, List.set_cons_zero]; rfl
              refine' take_at 14 rfl (by kernel_rfl) (by kernel_rfl) (by kernel_rfl) (fun _ _ _ h => h) (by rfl) hS ?_ ?_ ?_
              rotate_left 2
              · intro W hSW; go_simp; try with_reducible rfl
              · simp only [List.set_cons_succ, List.set_cons_zero]; rfl
              refine' take_at 15 rfl (by kernel_rfl) (by kernel_rfl) (by kernel_rfl) (fun _ _ _ h => h) (by rfl) hS ?_ ?_ ?_
              rotate_left 2
              · intro W hSW; obtain ⟨ca, cb, cc⟩ := HCE.out W (below_then HQD23.out.below hSW); go_simp; try with_reducible rfl
              · simp only [List.set_cons_succ, List.set_cons_zero]; rfl
              refine' take_at 17 rfl (by kernel_rfl) (by kernel_rfl) (by kernel_rfl) (fun _ _ _ h => h) (by rfl) hS ?_ ?_ ?_
              rotate_left 2
              · intro W hSW; go_simp; try with_reducible rfl
              · simp only [List.set_cons_succ, List.set_cons_zero]; rfl
              refine' take_at 18 rfl (by kernel_rfl) (by kernel_rfl) (by kernel_rfl) (fun _ _ _ h => h) (by rfl) hS ?_ ?_ ?_
              rotate_left 2
              · intro W hSW; go_simp; try with_reducible rfl
              · simp only [List.set_cons_succ, List.set_cons_zero]; rfl
              refine' take_at 19 rfl (by kernel_rfl) (by kernel_rfl) (by kernel_rfl) (fun _ _ _ h => h) (by rfl) hS ?_ ?_ ?_
              rotate_left 2
              · intro W hSW; go_simp; try with_reducible rfl
              · simp only [List.set_cons_succ, List.set_cons_zero]; rfl
              refine' take_at 20 rfl (by kernel_rfl) (by kernel_rfl) (by kernel_rfl) (fun _ _ _ h => h) (by rfl) hS ?_ ?_ ?_
              rotate_left 2
              · intro W hSW; go_simp; try with_reducible rfl
              · simp only [List.set_cons_succ, List.set_cons_zero]; rfl
              refine' take_at 21 rfl (by kernel_rfl) (by kernel_rfl) (by kernel_rfl) (fun _ _ _ h => h) (by rfl) hS ?_ ?_ ?_
              rotate_left 2
              · intro W hSW; go_simp; try with_reducible rfl
              · simp only [List.set_cons_succ, List.set_cons_zero]; rfl
              refine' take_at 22 rfl (by kernel_rfl) (by kernel_rfl) (by kernel_rfl) (fun _ _ _ h => h) (by rfl) hS ?_ ?_ ?_
              rotate_left 2
              · intro W hSW; obtain ⟨ca, cb, cc⟩ := HCE.out W (below_then HQD23.out.below hSW); go_simp; try with_reducible rfl
              · simp only [List.set_cons_succ, List.set_cons_zero]; rfl
              refine call_at 16 rfl (by kernel_rfl) (by rfl) (fun K hK => ?_)
              go_simp
              have KA := Lib.hid (D.tat (D.tb.below HQD23.out.tr hS) y HX.out.1 HX.out.2.1)
              with_reducible refine KA.out.mono ?_
              rintro e uA ⟨rfl, hbA⟩
              have kbA := below_then hS hbA
              clear hS hbA KA
              refine hK.out _ _ (by exact kbA) (fun hS => ?_)
              clear hK K
              refine call_at 23 rfl (by kernel_rfl) (by rfl) (fun K hK => ?_)
              go_simp
              have KB := Lib.hid (rat15_any (HQD23.out.rt.below kbA) y)
              with_reducible refine KB.out.mono ?_
              rintro e uB ⟨rfl, hwB⟩
              subst hwB
              clear hS KB
              refine hK.out _ _ (by exact kbA) (fun hS => ?_)
              clear hK K
              refine' take_at 24 rfl (by kernel_rfl) (by kernel_rfl) (by kernel_rfl) (fun _ _ _ h => h) (by rfl) hS ?_ ?_ ?_
              rotate_left 2
              · intro W hSW; go_simp; try with_reducible rfl
              · simp only [List.set_cons_succ, List.set_cons_zero]; rfl
              refine' take_at 25 rfl (by kernel_rfl) (by kernel_rfl) (by kernel_rfl) (fun _ _ _ h => h) (by rfl) hS ?_ ?_ ?_
              rotate_left 2
              · intro W hSW; go_simp; try with_reducible rfl
              · simp only [List.set_cons_succ, List.set_cons_zero]; rfl
              refine wpAnyH_done (by kernel_rfl) ?_ _
              refine NoPanic.normal ?_
              clear hS
              (try simp only [Act.put])
              have HQE := Lib.hid (HQD23.out.low D.base D.tb kbA)
              clear kbA HQD23
              go_wp2_with fail
              go_roundw
              case rel => exact ⟨k + 1, c2, t2, gl', _, _, by have := HLT.out; omega, by go_num, Lib.hid HKN.out, HQE⟩
              case measure => have := HLT.out; simp [intOf]; omega
            · have e3 : decide (x = 3) = false := decide_eq_false h3
              have e3' : (x == 3) = false := by simpa using h3
              obtain ⟨gl', hgl'⟩ : ∃ g, gl = g := ⟨_, rfl⟩
              rw [hgl'] at HI
              clear hgl'
              obtain ⟨cap, hrow, hob⟩ := HI.out.rc.2.row
              have hkb : (c).k ≤ 90000 := (by have := HKL.out; omega)
              obtain ⟨lo, hlo⟩ : ∃ l, (c).out = l := ⟨_, rfl⟩
              obtain ⟨ln, hln⟩ : ∃ l, lo.length = l := ⟨_, rfl⟩
              obtain ⟨sp, hsp⟩ : ∃ l, strB lo = l := ⟨_, rfl⟩
              rw [hlo] at hrow hob
              rw [hln] at hrow hob
              have HDN := Lib.hid (D.done (D.base.below HI.out.co (Below.refl wr.heap.size wr).drew) hkb)
              rw [hlo] at HDN
              have HROW : Hid (∀ V : World, Below wr.heap.size wr V → V.cell? ⟨rg, 0, none⟩ = some (.slice (some ⟨gl', 0, none⟩) ln cap)) := Lib.hid fun V hV => by
                have h : V.heap[rg]? = _ := (hV.block rg (Array.getElem?_eq_some_iff.1 hrow).1).trans hrow
                rw [cell_of_row _ _ _ _ _ _ h]; rfl
              have HCV : Hid (∀ V : World, Below wr.heap.size wr V → (convert 38 9 (.slice (some ⟨gl', 0, none⟩) ln cap)).run Try.prog V = .ok (.string sp) V) := Lib.hid fun V hV => by
                rw [← hsp]
                exact conv16 (Ob.bs (hob.below hV)) hln
              have HLN := Lib.hid hln
              have HSP := Lib.hid hsp
              clear hrow hob hlo hkb hln hsp
              go_upto_region 23 with fail
              refine wp_region_noPanic ?_
              refine wp_region_held_drew (S := fun V => Below wr.heap.size wr V) (by kernel_rfl) (by exact (Below.refl _ _).drew) (fun hS => ?_)
              refine' take_at 0 rfl (by kernel_rfl) (by kernel_rfl) (by kernel_rfl) (fun _ _ _ h => h) (by rfl) hS ?_ ?_ ?_
              rotate_left 2
              · intro W hSW; go_simp; try with_reducible rfl
              · simp only [List.set_cons_succ, List.set_cons_zero]; rfl
              refine' take_at 3 rfl (by kernel_rfl) (by kernel_rfl) (by kernel_rfl) (fun _ _ _ h => h) (by rfl) hS ?_ ?_ ?_
              rotate_left 2
              · intro W hSW; go_simp; try with_reducible rfl
              · simp only [List.set_cons_succ, List.set_cons_zero]; rfl
              refine' take_at 4 rfl (by kernel_rfl) (by kernel_rfl) (by kernel_rfl) (fun _ _ _ h => h) (by rfl) hS ?_ ?_ ?_
              rotate_left 2
              · intro W hSW; go_simp; try with_reducible rfl
              · simp only [List.set_cons_succ, List.set_cons_zero]; rfl
              refine' take_at 5 rfl (by kernel_rfl) (by kernel_rfl) (by kernel_rfl) (fun _ _ _ h => h) (by rfl) hS ?_ ?_ ?_
              rotate_left 2
              · intro W hSW; go_simp; try with_reducible rfl
              · simp only [List.set_cons_succ, List.set_cons_zero]; rfl
              refine' take_at 6 rfl (by kernel_rfl) (by kernel_rfl) (by kernel_rfl) (fun _ _ _ h => h) (by rfl) hS ?_ ?_ ?_
              rotate_left 2
              · intro W hSW; have ca := HROW.out W hSW; go_simp; try with_reducible rfl
              · simp only [List.set_cons_succ, List.set_cons_zero]; rfl
              refine' take_at 7 rfl (by kernel_rfl) (by kernel_rfl) (by kernel_rfl) (fun _ _ _ h => h) (by rfl) hS ?_ ?_ ?_
              rotate_left 2
              · intro W hSW; have ca := HCV.out W hSW; go_simp; try with_reducible rfl
              · simp only [List.set_cons_succ, List.set_cons_zero]; rfl
              refine call_at 1 rfl (by kernel_rfl) (by rfl) (fun K hK => ?_)
              go_simp
              with_reducible refine HDN.out.mono ?_
              rintro e vD23 ⟨xD23, rfl, hoD23, hbD23⟩
              obtain ⟨AD23, cD23, rfl, hbsD23⟩ := hoD23.form16 HLN.out
              have kSD23 : Below wr.heap.size wr vD23 := below_then hS hbD23
              have cvD23 : ∀ V, Below vD23.heap.size vD23 V → (convert 38 9 (.slice AD23 ln cD23)).run Try.prog V = .ok (.string sp) V := fun V hV => by
                rw [← HSP.out]
                exact conv16 (hbsD23.below hV) HLN.out
              clear hS
              refine hK.out _ _ (by exact kSD23) (fun hS => ?_)
              clear hK K
              refine held_mono (S2 := fun V => Below vD23.heap.size vD23 V) (fun V hV => kSD23.trans (hV.mono kSD23.size)) _ _ _ _ ?_
              replace hS : Below vD23.heap.size vD23 vD23 := Below.refl _ _
              have HQD23 := Lib.hid (HI.out.low D.base D.tb kSD23)
              clear hoD23 hbD23 hbsD23
              refine' take_at 2 rfl (by kernel_rfl) (by kernel_rfl) (by kernel_rfl) (fun _ _ _ h => h) (by rfl) hS ?_ ?_ ?_
              rotate_left 2
              · intro W hSW; have ca := cvD23 W hSW; go_simp; try with_reducible rfl
              · simp only [List.set_cons_succ, List.set_cons_zero]; rfl
              refine' take_at 8 rfl (by kernel_rfl) (by kernel_rfl) (by kernel_rfl) (fun _ _ _ h => h) (by rfl) hS ?_ ?_ ?_
              rotate_left 2
              · intro W hSW; go_simp; try with_reducible rfl
              · simp only [List.set_cons_succ, List.set_cons_zero]; rfl
              refine' take_at 9 rfl (by kernel_rfl) (by kernel_rfl) (by kernel_rfl) (fun _ _ _ h => h) (by rfl) hS ?_ ?_ ?_
              rotate_left 2
              · intro W hSW; go_simp; try with_reducible rfl
              · simp only [List.set_cons_succ, List.set_cons_zero]; rfl
              refine' take_at 10 rfl (by kernel_rfl) (by kernel_rfl) (by kernel_rfl) (fun _ _ _ h => h) (by rfl) hS ?_ ?_ ?_
              rotate_left 2
              · intro W hSW; go_simp; try with_reducible rfl
              · simp only [List.set_cons_succ, List.set_cons_zero]; rfl
              refine' take_at 11 rfl (by kernel_rfl) (by kernel_rfl) (by kernel_rfl) (fun _ _ _ h => h) (by rfl) hS ?_ ?_ ?_
              rotate_left 2
              · intro W hSW; go_simp; try with_reducible rfl
              · simp only [List.set_cons_succ, List.set_cons_zero]; rfl
              refine' take_at 12 rfl (by kernel_rfl) (by kernel_rfl) (by kernel_rfl) (fun _ _ _ h => h) (by rfl) hS ?_ ?_ ?_
              rotate_left 2
              · intro W hSW; go_simp; try with_reducible rfl
              · simp only [List.set_cons_succ, List.set_cons_zero]; rfl
              refine' take_at 13 rfl (by kernel_rfl) (by kernel_rfl) (by kernel_rfl) (fun _ _ _ h => h) (by rfl) hS ?_ ?_ ?_
              rotate_left 2
              · intro W hSW; go_simp; try with_reducible rfl
              · simp only [List.set_cons_succ, List.set_cons_zero]; rfl
              refine' take_at 14 rfl (by kernel_rfl) (by kernel_rfl) (by kernel_rfl) (fun _ _ _ h => h) (by rfl) hS ?_ ?_ ?_
              rotate_left 2
              · intro W hSW; go_simp; try with_reducible rfl
              · simp only [List.set_cons_succ, List.set_cons_zero]; rfl
              refine' take_at 15 rfl (by kernel_rfl) (by kernel_rfl) (by kernel_rfl) (fun _ _ _ h => h) (by rfl) hS ?_ ?_ ?_
              rotate_left 2
              · intro W hSW; obtain ⟨ca, cb, cc⟩ := HCE.out W (below_then HQD23.out.below hSW); go_simp; try with_reducible rfl
              · simp only [List.set_cons_succ, List.set_cons_zero]; rfl
              refine' take_at 17 rfl (by kernel_rfl) (by kernel_rfl) (by kernel_rfl) (fun _ _ _ h => h) (by rfl) hS ?_ ?_ ?_
              rotate_left 2
              · intro W hSW; go_simp; try with_reducible rfl
              · simp only [List.set_cons_succ, List.set_cons_zero]; rfl
              refine' take_at 18 rfl (by kernel_rfl) (by kernel_rfl) (by kernel_rfl) (fun _ _ _ h => h) (by rfl) hS ?_ ?_ ?_
              rotate_left 2
              · intro W hSW; go_simp; try with_reducible rfl
              · simp only [List.set_cons_succ, List.set_cons_zero]; rfl
              refine' take_at 19 rfl (by kernel_rfl) (by kernel_rfl) (by kernel_rfl) (fun _ _ _ h => h) (by rfl) hS ?_ ?_ ?_
              rotate_left 2
              · intro W hSW; go_simp; try with_reducible rfl
              · simp only [List.set_cons_succ, List.set_cons_zero]; rfl
              refine' take_at 20 rfl (by kernel_rfl) (by kernel_rfl) (by kernel_rfl) (fun _ _ _ h => h) (by rfl) hS ?_ ?_ ?_
              rotate_left 2
              · intro W hSW; go_simp; try with_reducible rfl
              · simp only [List.set_cons_succ, List.set_cons_zero]; rfl
              refine' take_at 21 rfl (by kernel_rfl) (by kernel_rfl) (by kernel_rfl) (fun _ _ _ h => h) (by rfl) hS ?_ ?_ ?_
              rotate_left 2
              · intro W hSW; go_simp; try with_reducible rfl
              · simp only [List.set_cons_succ, List.set_cons_zero]; rfl
              refine' take_at 22 rfl (by kernel_rfl) (by kernel_rfl) (by kernel_rfl) (fun _ _ _ h => h) (by rfl) hS ?_ ?_ ?_
              rotate_left 2
              · intro W hSW; obtain ⟨ca, cb, cc⟩ := HCE.out W (below_then HQD23.out.below hSW); go_simp; try with_reducible rfl
              · simp only [List.set_cons_succ, List.set_cons_zero]; rfl
              refine call_at 16 rfl (by kernel_rfl) (by rfl) (fun K hK => ?_)
              go_simp
              have KA := Lib.hid (D.tat (D.tb.below HQD23.out.tr hS) y HX.out.1 HX.out.2.1)
              with_reducible refine KA.out.mono ?_
              rintro e uA ⟨rfl, hbA⟩
              have kbA := below_then hS hbA
              clear hS hbA KA
              refine hK.out _ _ (by exact kbA) (fun hS => ?_)
              clear hK K
              refine call_at 23 rfl (by kernel_rfl) (by rfl) (fun K hK => ?_)
              go_simp
              have KB := Lib.hid (rat15_any (HQD23.out.rt.below kbA) y)
              with_reducible refine KB.out.mono ?_
              rintro e uB ⟨rfl, hwB⟩
              subst hwB
              clear hS KB
              refine hK.out _ _ (by exact kbA) (fun hS => ?_)
              clear hK K
              refine' take_at 24 rfl (by kernel_rfl) (by kernel_rfl) (by kernel_rfl) (fun _ _ _ h => h) (by rfl) hS ?_ ?_ ?_
              rotate_left 2
              · intro W hSW; go_simp; try with_reducible rfl
              · simp only [List.set_cons_succ, List.set_cons_zero]; rfl
              refine' take_at 25 rfl (by kernel_rfl) (by kernel_rfl) (by kernel_rfl) (fun _ _ _ h => h) (by rfl) hS ?_ ?_ ?_
              rotate_left 2
              · intro W hSW; go_simp; try with_reducible rfl
              · simp only [List.set_cons_succ, List.set_cons_zero]; rfl
              refine wpAnyH_done (by kernel_rfl) ?_ _
              refine NoPanic.normal ?_
              clear hS
              (try simp only [Act.put])
              have HQE := Lib.hid (HQD23.out.low D.base D.tb kbA)
              clear kbA HQD23
              go_wp2_with fail
              go_roundw
              case rel => exact ⟨k + 1, c, t, gl', _, _, by have := HLT.out; omega, by go_num, Lib.hid (by have := HK.out; omega), HQE⟩
              case measure => have := HLT.out; simp [intOf]; omega
      · have d2 : decide ((k : Int) < (n : Int)) = false := decide_eq_false (by omega)
        obtain ⟨gl', hgl'⟩ : ∃ g, gl = g := ⟨_, rfl⟩
        rw [hgl'] at HI
        clear hgl'
        obtain ⟨cap, hrow, hob⟩ := HI.out.rc.2.row
        have hkb : (c).k ≤ 90000 := (by have := HK.out; have := HN200.out; omega)
        obtain ⟨lo, hlo⟩ : ∃ l, (c).out = l := ⟨_, rfl⟩
        obtain ⟨ln, hln⟩ : ∃ l, lo.length = l := ⟨_, rfl⟩
        obtain ⟨sp, hsp⟩ : ∃ l, strB lo = l := ⟨_, rfl⟩
        rw [hlo] at hrow hob
        rw [hln] at hrow hob
        have HDN := Lib.hid (D.done (D.base.below HI.out.co (Below.refl wr.heap.size wr).drew) hkb)
        rw [hlo] at HDN
        have HROW : Hid (∀ V : World, Below wr.heap.size wr V → V.cell? ⟨rg, 0, none⟩ = some (.slice (some ⟨gl', 0, none⟩) ln cap)) := Lib.hid fun V hV => by
          have h : V.heap[rg]? = _ := (hV.block rg (Array.getElem?_eq_some_iff.1 hrow).1).trans hrow
          rw [cell_of_row _ _ _ _ _ _ h]; rfl
        have HCV : Hid (∀ V : World, Below wr.heap.size wr V → (convert 38 9 (.slice (some ⟨gl', 0, none⟩) ln cap)).run Try.prog V = .ok (.string sp) V) := Lib.hid fun V hV => by
          rw [← hsp]
          exact conv16 (Ob.bs (hob.below hV)) hln
        have HLN := Lib.hid hln
        have HSP := Lib.hid hsp
        clear hrow hob hlo hkb hln hsp
        go_upto_region 25 with fail
        refine wp_region_noPanic ?_
        refine wp_region_held_drew (S := fun V => Below wr.heap.size wr V) (by kernel_rfl) (by exact (Below.refl _ _).drew) (fun hS => ?_)
        refine' take_at 0 rfl (by kernel_rfl) (by kernel_rfl) (by kernel_rfl) (fun _ _ _ h => h) (by rfl) hS ?_ ?_ ?_
        rotate_left 2
        · intro W hSW; go_simp; try with_reducible rfl
        · simp only [List.set_cons_succ, List.set_cons_zero]; rfl
        refine' take_at 3 rfl (by kernel_rfl) (by kernel_rfl) (by kernel_rfl) (fun _ _ _ h => h) (by rfl) hS ?_ ?_ ?_
        rotate_left 2
        · intro W hSW; go_simp; try with_reducible rfl
        · simp only [List.set_cons_succ, List.set_cons_zero]; rfl
        refine' take_at 4 rfl (by kernel_rfl) (by kernel_rfl) (by kernel_rfl) (fun _ _ _ h => h) (by rfl) hS ?_ ?_ ?_
        rotate_left 2
        · intro W hSW; go_simp; try with_reducible rfl
        · simp only [List.set_cons_succ, List.set_cons_zero]; rfl
        refine' take_at 5 rfl (by kernel_rfl) (by kernel_rfl) (by kernel_rfl) (fun _ _ _ h => h) (by rfl) hS ?_ ?_ ?_
        rotate_left 2
        · intro W hSW; go_simp; try with_reducible rfl
        · simp only [List.set_cons_succ, List.set_cons_zero]; rfl
        refine' take_at 6 rfl (by kernel_rfl) (by kernel_rfl) (by kernel_rfl) (fun _ _ _ h => h) (by rfl) hS ?_ ?_ ?_
        rotate_left 2
        · intro W hSW; have ca := HROW.out W hSW; go_simp; try with_reducible rfl
        · simp only [List.set_cons_succ, List.set_cons_zero]; rfl
        refine' take_at 7 rfl (by kernel_rfl) (by kernel_rfl) (by kernel_rfl) (fun _ _ _ h => h) (by rfl) hS ?_ ?_ ?_
        rotate_left 2
        · intro W hSW; have ca := HCV.out W hSW; go_simp; try with_reducible rfl
        · simp only [List.set_cons_succ, List.set_cons_zero]; rfl
        refine call_at 1 rfl (by kernel_rfl) (by rfl) (fun K hK => ?_)
        go_simp
        with_reducible refine HDN.out.mono ?_
        rintro e vD25 ⟨xD25, rfl, hoD25, hbD25⟩
        obtain ⟨AD25, cD25, rfl, hbsD25⟩ := hoD25.form16 HLN.out
        have kSD25 : Below wr.heap.size wr vD25 := below_then hS hbD25
        have cvD25 : ∀ V, Below vD25.heap.size vD25 V → (convert 38 9 (.slice AD25 ln cD25)).run Try.prog V = .ok (.string sp) V := fun V hV => by
          rw [← HSP.out]
          exact conv16 (hbsD25.below hV) HLN.out
        clear hS
        refine hK.out _ _ (by exact kSD25) (fun hS => ?_)
        clear hK K
        refine held_mono (S2 := fun V => Below vD25.heap.size vD25 V) (fun V hV => kSD25.trans (hV.mono kSD25.size)) _ _ _ _ ?_
        replace hS : Below vD25.heap.size vD25 vD25 := Below.refl _ _
        have HQD25 := Lib.hid (HI.out.low D.base D.tb kSD25)
        clear hoD25 hbD25 hbsD25
        refine' take_at 2 rfl (by kernel_rfl) (by kernel_rfl) (by kernel_rfl) (fun _ _ _ h => h) (by rfl) hS ?_ ?_ ?_
        rotate_left 2
        · intro W hSW; have ca := cvD25 W hSW; go_simp; try with_reducible rfl
        · simp only [List.set_cons_succ, List.set_cons_zero]; rfl
        refine' take_at 8 rfl (by kernel_rfl) (by kernel_rfl) (by kernel_rfl) (fun _ _ _ h => h) (by rfl) hS ?_ ?_ ?_
        rotate_left 2
        · intro W hSW; go_simp; try with_reducible rfl
        · simp only [List.set_cons_succ, List.set_cons_zero]; rfl
        refine' take_at 9 rfl (by kernel_rfl) (by kernel_rfl) (by kernel_rfl) (fun _ _ _ h => h) (by rfl) hS ?_ ?_ ?_
        rotate_left 2
        · intro W hSW; go_simp; try with_reducible rfl
        · simp only [List.set_cons_succ, List.set_cons_zero]; rfl
        refine wpAnyH_done (by kernel_rfl) ?_ _
        refine NoPanic.normal ?_
        (try simp only [Act.put])
        have HE := Lib.hid (HQD25.out.low D.base D.tb hS).below
        clear hS HQD25 HI
        go_wp2_with fail
        go_ret
        exact ⟨rfl, HE.out⟩
end Go.Proofs.Ytlbkpmcccipfhaa

