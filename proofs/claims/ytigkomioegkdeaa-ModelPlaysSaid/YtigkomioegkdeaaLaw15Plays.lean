/- ModelPlays walked, over whatever the program's tree is. Written by wip/tools/mk_law15.py. -/
import Derived.Test.YtigkomioegkdeaaLaw15Spec
import Derived.Test.YtigkomioegkdeaaRefMdlAt
import Derived.Test.YtigkomioegkdeaaAct3
import Derived.Test.YtigkomioegkdeaaGbase
import Derived.Test.YtigkomioegkdeaaTwo
namespace Go.Proofs.Ytigkomioegkdeaa
open Go.RowKit
set_option linter.unusedVariables false
set_option maxRecDepth 100000

theorem Tm.at_zero (t : Tm) : t.at_ 0 = 0 := by unfold Tm.at_; rw [if_neg (fun h => by have := h.1; omega)]
theorem Tm.at_end (t : Tm) (n : Nat) (h : 2 ^ t.bits = n) : t.at_ (n : Int) = 0 := by unfold Tm.at_; rw [if_neg (fun hi => by have := hi.2; rw [h] at this; omega)]

set_option maxHeartbeats 6400000 in
theorem law15Plays {T : TrP} (D : MdC T) (w : World) (b : Int) (hb1 : -9223372036854775808 ≤ b) (hb2 : b ≤ 9223372036854775807) (A : Option Addr) (L : List ActID) (n c : Nat) (hn : L.length = n) (hL : ActIs w A L) : Calls Try.prog 3 #[.int .i64 b, .slice A n c] w fun e w' => e = .returned (.bool true) ∧ Below w.heap.size w w' := by
  have HAL := Lib.hid (fun W : World => alive15_any D W)
  have HNW := Lib.hid (fun W : World => D.new b hb1 hb2 W)
  have HL := Lib.hid hL
  have HN := Lib.hid hn
  clear hL hn hb1 hb2
  go_enter Try.func3, Try.ntmps3
  go_wp2_with fail
  with_reducible refine (HAL.out _).mono ?_
  rintro e v1 ⟨rfl, hb1⟩
  have HB1 := Lib.hid hb1
  clear hb1
  by_cases h4 : 300 < n
  · have d1 : decide ((300 : Int) < (n : Int)) = true := decide_eq_true (by omega)
    go_wp2_with fail
    go_ret
    exact ⟨rfl, HB1.out⟩
  · have d1 : decide ((300 : Int) < (n : Int)) = false := decide_eq_false (by omega)
    go_wp2_with fail
    with_reducible refine (HNW.out _).mono ?_
    rintro e v2 ⟨g, F, rfl, hT, hF, hb2⟩
    have HT2 := Lib.hid hT
    have HF2 := Lib.hid hF
    have HB2 := Lib.hid (below_then HB1.out hb2)
    have HBV := Lib.hid hb2.size
    clear hT hF hb2
    go_wp2_with fail
    with_reducible refine (rnewtree_any b _).mono ?_
    rintro e v3 ⟨rfl, hr3, hb3⟩
    have HI : Hid (Two T w v3 g v2.heap.size (v2.heap.size + 1) (Tm.new b) (Tm.new b) F) := Lib.hid (Two.start D.base HT2.out HF2.out HB1.out HB2.out HBV.out hr3 hb3)
    clear hr3 hb3 HT2 HF2 HB1 HB2 HBV
    generalize v2.heap.size = gr at *
    generalize gr + 1 = rr at *
    generalize Tm.new b = t0 at *
    go_wp2_with fail
    go_loopw [8] (fun i_ wr => ∃ (k : Nat) (t : Tm) (F : Nat → Prop), k ≤ n ∧ i_ = .int .i64 (k : Int) ∧ Hid (Two T w wr g gr rr t t F)) (fun i_ _ => n - (intOf i_).toNat)
    case atStart => exact ⟨0, t0, F, by omega, rfl, HI⟩
    case round =>
      clear HI
      obtain ⟨k, t, F, hk, rfl, HI⟩ := hrel
      by_cases hlt : k < n
      · have d2 : decide ((k : Int) < (n : Int)) = true := decide_eq_true (by omega)
        have hlk : k < L.length := by rw [HN.out]; exact hlt
        obtain ⟨ga, oa, rfl, hcs⟩ := HL.out (by omega)
        have ha := hcs k hlk
        generalize L[k] = a at *
        have HA := Lib.hid ha
        clear hcs hlk
        have b1 : 0 ≤ (k : Int) := by omega
        have b2 : (k : Int) < (n : Int) := by omega
        obtain ⟨x, hx⟩ : ∃ x, a.x = x := ⟨_, rfl⟩
        obtain ⟨y, hy⟩ : ∃ x, a.y = x := ⟨_, rfl⟩
        obtain ⟨z, hz⟩ : ∃ x, a.z = x := ⟨_, rfl⟩
        have HX : Hid (-9223372036854775808 ≤ x ∧ x ≤ 9223372036854775807 ∧ -9223372036854775808 ≤ y ∧ y ≤ 9223372036854775807 ∧ -9223372036854775808 ≤ z ∧ z ≤ 9223372036854775807) := Lib.hid (by rw [← hx, ← hy, ← hz]; exact ⟨ha.x1, ha.x2, ha.y1, ha.y2, ha.z1, ha.z2⟩)
        have HCE : Hid (∀ W : World, Below w.heap.size w W → W.cell? ⟨ga, oa + k * 3, none⟩ = some (.int .i64 x) ∧ W.cell? ⟨ga, oa + k * 3 + 1, none⟩ = some (.int .i64 y) ∧ W.cell? ⟨ga, oa + k * 3 + 2, none⟩ = some (.int .i64 z)) := Lib.hid fun W hb => by
          have h := ha.only (F := fun _ => False) (Only.of_below hb) (fun h => h)
          rw [← hx, ← hy, ← hz]
          exact ⟨h.x, h.y, h.z⟩
        clear ha hx hy hz HA
        have HK := Lib.hid hlt
        clear hlt hk
        have hbq : Below w.heap.size w ({ wr with drawn := wr.drawn + 1 } : World) := HI.out.below.drew
        obtain ⟨cq, eq, -⟩ := HCE.out _ HI.out.below
        go_upto_region 11 with fail
        refine wp_region_still_tail 11 (by kernel_rfl) (by kernel_rfl) ?_
        simp only [List.take_succ_cons, List.take_zero, List.drop_succ_cons, List.drop_zero]
        iterate 11 still_step
        refine wpStill_nil ?_
        have Hq := Lib.hid (HI.out.low (Below.refl wr.heap.size wr).drew D.base)
        obtain ⟨Vq, hVq⟩ : ∃ W, ({ wr with drawn := wr.drawn + 1 } : World) = W := ⟨_, rfl⟩
        rw [show wr.drew = ({ wr with drawn := wr.drawn + 1 } : World) from rfl, hVq] at Hq
        rw [hVq]
        clear hVq hbq cq eq HI
        go_wp2_with fail
        with_reducible refine (D.turn Hq.out.tr x y HX.out.1 HX.out.2.1 HX.out.2.2.1 HX.out.2.2.2.1).mono ?_
        rintro e w2 ⟨rfl, F2, ht2, hF2, ho2⟩
        have HI2 := Lib.hid (Hq.out.one D.base ht2 hF2 ho2)
        clear ht2 hF2 ho2 Hq
        have hbp : Below w.heap.size w ({ w2 with drawn := w2.drawn + 1 } : World) := HI2.out.below.drew
        obtain ⟨cp, ep, -⟩ := HCE.out _ HI2.out.below
        go_upto_region 12 with fail
        refine wp_region_still_tail 11 (by kernel_rfl) (by kernel_rfl) ?_
        simp only [List.take_succ_cons, List.take_zero, List.drop_succ_cons, List.drop_zero]
        iterate 11 still_step
        refine wpStill_nil ?_
        have Hp := Lib.hid (HI2.out.low (Below.refl w2.heap.size w2).drew D.base)
        obtain ⟨Vp, hVp⟩ : ∃ W, ({ w2 with drawn := w2.drawn + 1 } : World) = W := ⟨_, rfl⟩
        rw [show w2.drew = ({ w2 with drawn := w2.drawn + 1 } : World) from rfl, hVp] at Hp
        rw [hVp]
        clear hVp hbp cp ep HI2
        go_wp2_with fail
        with_reducible refine (rturn15_any Hp.out.rt x y).mono ?_
        rintro e w3 ⟨rfl, ht3, ho3⟩
        have HI3 := Lib.hid (Hp.out.two D.base ht3 ho3)
        clear ht3 ho3 Hp
        generalize t.turn x y = t2 at *
        go_upto_region 13 with fail
        refine wp_region_noPanic ?_
        refine wp_region_held_drew (S := fun W => Below w3.heap.size w3 W) (by kernel_rfl) (by exact (Below.refl _ _).drew) (fun hS => ?_)
        refine' take_at 0 rfl (by kernel_rfl) (by kernel_rfl) (by kernel_rfl) (fun _ _ _ h => h) (by rfl) hS ?_ ?_ ?_
        rotate_left 2
        · intro W hSW; go_simp; try with_reducible rfl
        · simp only [List.set_cons_succ, List.set_cons_zero]; rfl
        refine' take_at 1 rfl (by kernel_rfl) (by kernel_rfl) (by kernel_rfl) (fun _ _ _ h => h) (by rfl) hS ?_ ?_ ?_
        rotate_left 2
        · intro W hSW; go_simp; try with_reducible rfl
        · simp only [List.set_cons_succ, List.set_cons_zero]; rfl
        refine' take_at 2 rfl (by kernel_rfl) (by kernel_rfl) (by kernel_rfl) (fun _ _ _ h => h) (by rfl) hS ?_ ?_ ?_
        rotate_left 2
        · intro W hSW; go_simp; try with_reducible rfl
        · simp only [List.set_cons_succ, List.set_cons_zero]; rfl
        refine' take_at 3 rfl (by kernel_rfl) (by kernel_rfl) (by kernel_rfl) (fun _ _ _ h => h) (by rfl) hS ?_ ?_ ?_
        rotate_left 2
        · intro W hSW; go_simp; try with_reducible rfl
        · simp only [List.set_cons_succ, List.set_cons_zero]; rfl
        refine' take_at 4 rfl (by kernel_rfl) (by kernel_rfl) (by kernel_rfl) (fun _ _ _ h => h) (by rfl) hS ?_ ?_ ?_
        rotate_left 2
        · intro W hSW; go_simp; try with_reducible rfl
        · simp only [List.set_cons_succ, List.set_cons_zero]; rfl
        refine' take_at 5 rfl (by kernel_rfl) (by kernel_rfl) (by kernel_rfl) (fun _ _ _ h => h) (by rfl) hS ?_ ?_ ?_
        rotate_left 2
        · intro W hSW; obtain ⟨ca, cb, cc⟩ := HCE.out W (below_then HI3.out.below hSW); go_simp; try with_reducible rfl
        · simp only [List.set_cons_succ, List.set_cons_zero]; rfl
        refine' take_at 7 rfl (by kernel_rfl) (by kernel_rfl) (by kernel_rfl) (fun _ _ _ h => h) (by rfl) hS ?_ ?_ ?_
        rotate_left 2
        · intro W hSW; go_simp; try with_reducible rfl
        · simp only [List.set_cons_succ, List.set_cons_zero]; rfl
        refine' take_at 8 rfl (by kernel_rfl) (by kernel_rfl) (by kernel_rfl) (fun _ _ _ h => h) (by rfl) hS ?_ ?_ ?_
        rotate_left 2
        · intro W hSW; go_simp; try with_reducible rfl
        · simp only [List.set_cons_succ, List.set_cons_zero]; rfl
        refine' take_at 9 rfl (by kernel_rfl) (by kernel_rfl) (by kernel_rfl) (fun _ _ _ h => h) (by rfl) hS ?_ ?_ ?_
        rotate_left 2
        · intro W hSW; go_simp; try with_reducible rfl
        · simp only [List.set_cons_succ, List.set_cons_zero]; rfl
        refine' take_at 10 rfl (by kernel_rfl) (by kernel_rfl) (by kernel_rfl) (fun _ _ _ h => h) (by rfl) hS ?_ ?_ ?_
        rotate_left 2
        · intro W hSW; go_simp; try with_reducible rfl
        · simp only [List.set_cons_succ, List.set_cons_zero]; rfl
        refine' take_at 11 rfl (by kernel_rfl) (by kernel_rfl) (by kernel_rfl) (fun _ _ _ h => h) (by rfl) hS ?_ ?_ ?_
        rotate_left 2
        · intro W hSW; go_simp; try with_reducible rfl
        · simp only [List.set_cons_succ, List.set_cons_zero]; rfl
        refine' take_at 12 rfl (by kernel_rfl) (by kernel_rfl) (by kernel_rfl) (fun _ _ _ h => h) (by rfl) hS ?_ ?_ ?_
        rotate_left 2
        · intro W hSW; obtain ⟨ca, cb, cc⟩ := HCE.out W (below_then HI3.out.below hSW); go_simp; try with_reducible rfl
        · simp only [List.set_cons_succ, List.set_cons_zero]; rfl
        refine call_at 6 rfl (by kernel_rfl) (by rfl) (fun K hK => ?_)
        go_simp
        have K1 := Lib.hid (D.at_ (D.base.below HI3.out.tr hS) x HX.out.1 HX.out.2.1)
        with_reducible refine K1.out.mono ?_
        rintro e u1 ⟨rfl, hb1⟩
        have kb1 := below_then hS hb1
        clear hS hb1 K1
        refine hK.out _ _ (by exact kb1) (fun hS => ?_)
        clear hK K
        refine call_at 13 rfl (by kernel_rfl) (by rfl) (fun K hK => ?_)
        go_simp
        have K2 := Lib.hid (rat15_any (HI3.out.rt.below kb1) x)
        with_reducible refine K2.out.mono ?_
        rintro e u2 ⟨rfl, hw2⟩
        subst hw2
        clear hS K2
        refine hK.out _ _ (by exact kb1) (fun hS => ?_)
        clear hK K
        refine' take_at 14 rfl (by kernel_rfl) (by kernel_rfl) (by kernel_rfl) (fun _ _ _ h => h) (by rfl) hS ?_ ?_ ?_
        rotate_left 2
        · intro W hSW; go_simp; try with_reducible rfl
        · simp only [List.set_cons_succ, List.set_cons_zero]; rfl
        refine' take_at 15 rfl (by kernel_rfl) (by kernel_rfl) (by kernel_rfl) (fun _ _ _ h => h) (by rfl) hS ?_ ?_ ?_
        rotate_left 2
        · intro W hSW; go_simp; try with_reducible rfl
        · simp only [List.set_cons_succ, List.set_cons_zero]; rfl
        refine' take_at 16 rfl (by kernel_rfl) (by kernel_rfl) (by kernel_rfl) (fun _ _ _ h => h) (by rfl) hS ?_ ?_ ?_
        rotate_left 2
        · intro W hSW; go_simp; try with_reducible rfl
        · simp only [List.set_cons_succ, List.set_cons_zero]; rfl
        refine' take_at 17 rfl (by kernel_rfl) (by kernel_rfl) (by kernel_rfl) (fun _ _ _ h => h) (by rfl) hS ?_ ?_ ?_
        rotate_left 2
        · intro W hSW; go_simp; try with_reducible rfl
        · simp only [List.set_cons_succ, List.set_cons_zero]; rfl
        refine' take_at 18 rfl (by kernel_rfl) (by kernel_rfl) (by kernel_rfl) (fun _ _ _ h => h) (by rfl) hS ?_ ?_ ?_
        rotate_left 2
        · intro W hSW; go_simp; try with_reducible rfl
        · simp only [List.set_cons_succ, List.set_cons_zero]; rfl
        refine' take_at 19 rfl (by kernel_rfl) (by kernel_rfl) (by kernel_rfl) (fun _ _ _ h => h) (by rfl) hS ?_ ?_ ?_
        rotate_left 2
        · intro W hSW; go_simp; try with_reducible rfl
        · simp only [List.set_cons_succ, List.set_cons_zero]; rfl
        refine' take_at 20 rfl (by kernel_rfl) (by kernel_rfl) (by kernel_rfl) (fun _ _ _ h => h) (by rfl) hS ?_ ?_ ?_
        rotate_left 2
        · intro W hSW; go_simp; try with_reducible rfl
        · simp only [List.set_cons_succ, List.set_cons_zero]; rfl
        refine' take_at 21 rfl (by kernel_rfl) (by kernel_rfl) (by kernel_rfl) (fun _ _ _ h => h) (by rfl) hS ?_ ?_ ?_
        rotate_left 2
        · intro W hSW; obtain ⟨ca, cb, cc⟩ := HCE.out W (below_then HI3.out.below hSW); go_simp; try with_reducible rfl
        · simp only [List.set_cons_succ, List.set_cons_zero]; rfl
        refine' take_at 23 rfl (by kernel_rfl) (by kernel_rfl) (by kernel_rfl) (fun _ _ _ h => h) (by rfl) hS ?_ ?_ ?_
        rotate_left 2
        · intro W hSW; go_simp; try with_reducible rfl
        · simp only [List.set_cons_succ, List.set_cons_zero]; rfl
        refine' take_at 24 rfl (by kernel_rfl) (by kernel_rfl) (by kernel_rfl) (fun _ _ _ h => h) (by rfl) hS ?_ ?_ ?_
        rotate_left 2
        · intro W hSW; go_simp; try with_reducible rfl
        · simp only [List.set_cons_succ, List.set_cons_zero]; rfl
        refine' take_at 25 rfl (by kernel_rfl) (by kernel_rfl) (by kernel_rfl) (fun _ _ _ h => h) (by rfl) hS ?_ ?_ ?_
        rotate_left 2
        · intro W hSW; go_simp; try with_reducible rfl
        · simp only [List.set_cons_succ, List.set_cons_zero]; rfl
        refine' take_at 26 rfl (by kernel_rfl) (by kernel_rfl) (by kernel_rfl) (fun _ _ _ h => h) (by rfl) hS ?_ ?_ ?_
        rotate_left 2
        · intro W hSW; go_simp; try with_reducible rfl
        · simp only [List.set_cons_succ, List.set_cons_zero]; rfl
        refine' take_at 27 rfl (by kernel_rfl) (by kernel_rfl) (by kernel_rfl) (fun _ _ _ h => h) (by rfl) hS ?_ ?_ ?_
        rotate_left 2
        · intro W hSW; go_simp; try with_reducible rfl
        · simp only [List.set_cons_succ, List.set_cons_zero]; rfl
        refine' take_at 28 rfl (by kernel_rfl) (by kernel_rfl) (by kernel_rfl) (fun _ _ _ h => h) (by rfl) hS ?_ ?_ ?_
        rotate_left 2
        · intro W hSW; obtain ⟨ca, cb, cc⟩ := HCE.out W (below_then HI3.out.below hSW); go_simp; try with_reducible rfl
        · simp only [List.set_cons_succ, List.set_cons_zero]; rfl
        refine call_at 22 rfl (by kernel_rfl) (by rfl) (fun K hK => ?_)
        go_simp
        have K3 := Lib.hid (D.at_ (D.base.below HI3.out.tr kb1) z HX.out.2.2.2.2.1 HX.out.2.2.2.2.2)
        with_reducible refine K3.out.mono ?_
        rintro e u3 ⟨rfl, hb3⟩
        have kb3 := below_then kb1 hb3
        clear hS hb3 K3
        refine hK.out _ _ (by exact kb3) (fun hS => ?_)
        clear hK K
        refine call_at 29 rfl (by kernel_rfl) (by rfl) (fun K hK => ?_)
        go_simp
        have K4 := Lib.hid (rat15_any (HI3.out.rt.below kb3) z)
        with_reducible refine K4.out.mono ?_
        rintro e u4 ⟨rfl, hw4⟩
        subst hw4
        clear hS K4
        refine hK.out _ _ (by exact kb3) (fun hS => ?_)
        clear hK K
        refine' take_at 30 rfl (by kernel_rfl) (by kernel_rfl) (by kernel_rfl) (fun _ _ _ h => h) (by rfl) hS ?_ ?_ ?_
        rotate_left 2
        · intro W hSW; go_simp; try with_reducible rfl
        · simp only [List.set_cons_succ, List.set_cons_zero]; rfl
        refine' take_at 31 rfl (by kernel_rfl) (by kernel_rfl) (by kernel_rfl) (fun _ _ _ h => h) (by rfl) hS ?_ ?_ ?_
        rotate_left 2
        · intro W hSW; go_simp; try with_reducible rfl
        · simp only [List.set_cons_succ, List.set_cons_zero]; rfl
        refine wpAnyH_done (by kernel_rfl) ?_ _
        refine NoPanic.normal ?_
        clear hS
        (try simp only [Act.put])
        have HI4 := Lib.hid (HI3.out.low kb3 D.base)
        clear kb1 kb3 HI3
        go_wp2_with fail
        go_roundw
        case rel => exact ⟨k + 1, t2, F2, by have := HK.out; omega, by go_num, HI4⟩
        case measure => have := HK.out; simp [intOf]; omega
      · have d2 : decide ((k : Int) < (n : Int)) = false := decide_eq_false (by omega)
        obtain ⟨m, hm⟩ : ∃ m, 2 ^ t.bits = m := ⟨_, rfl⟩
        have hml : 2 ≤ m := by rw [← hm]; exact Tm.pow_lo HI.out.rt.ok
        have hmh : m ≤ 256 := by rw [← hm]; exact Tm.pow_hi HI.out.rt.ok
        have f1 : IntKind.i64.wrap ((m : Int) - 1) = (m : Int) - 1 := by rw [IntKind.wrap_i64]; omega
        have HTOP : Hid (∀ W : World, Below wr.heap.size wr W → W.cell? ⟨gr, 1, none⟩ = some (.slice (some ⟨rr, 0, none⟩) m m)) := Lib.hid fun W hb => by
          have h := (HI.out.rt.below hb).top
          rw [hm] at h
          rw [cell_of_row _ _ _ _ _ _ h]; rfl
        have Hm := Lib.hid hm
        have HML := Lib.hid hml
        have HMH := Lib.hid hmh
        clear hm hml hmh
        go_upto_region 15 with fail
        refine wp_region_noPanic ?_
        refine wp_region_held_drew (S := fun W => Below wr.heap.size wr W) (by kernel_rfl) (by exact (Below.refl _ _).drew) (fun hS => ?_)
        refine' take_at 0 rfl (by kernel_rfl) (by kernel_rfl) (by kernel_rfl) (fun _ _ _ h => h) (by rfl) hS ?_ ?_ ?_
        rotate_left 2
        · intro W hSW; go_simp; try with_reducible rfl
        · simp only [List.set_cons_succ, List.set_cons_zero]; rfl
        refine call_at 1 rfl (by kernel_rfl) (by rfl) (fun K hK => ?_)
        go_simp
        have K1 := Lib.hid (D.at_ (D.base.below HI.out.tr hS) 0 (by have := HML.out; have := HMH.out; omega) (by have := HML.out; have := HMH.out; omega))
        rw [Tm.at_zero] at K1
        with_reducible refine K1.out.mono ?_
        rintro e u1 ⟨rfl, hb1⟩
        have kb1 := below_then hS hb1
        clear hS hb1 K1
        refine hK.out _ _ (by exact kb1) (fun hS => ?_)
        clear hK K
        refine' take_at 2 rfl (by kernel_rfl) (by kernel_rfl) (by kernel_rfl) (fun _ _ _ h => h) (by rfl) hS ?_ ?_ ?_
        rotate_left 2
        · intro W hSW; go_simp; try with_reducible rfl
        · simp only [List.set_cons_succ, List.set_cons_zero]; rfl
        refine' take_at 3 rfl (by kernel_rfl) (by kernel_rfl) (by kernel_rfl) (fun _ _ _ h => h) (by rfl) hS ?_ ?_ ?_
        rotate_left 2
        · intro W hSW; go_simp; try with_reducible rfl
        · simp only [List.set_cons_succ, List.set_cons_zero]; rfl
        refine' take_at 4 rfl (by kernel_rfl) (by kernel_rfl) (by kernel_rfl) (fun _ _ _ h => h) (by rfl) hS ?_ ?_ ?_
        rotate_left 2
        · intro W hSW; go_simp; try with_reducible rfl
        · simp only [List.set_cons_succ, List.set_cons_zero]; rfl
        refine' take_at 5 rfl (by kernel_rfl) (by kernel_rfl) (by kernel_rfl) (fun _ _ _ h => h) (by rfl) hS ?_ ?_ ?_
        rotate_left 2
        · intro W hSW; go_simp; try with_reducible rfl
        · simp only [List.set_cons_succ, List.set_cons_zero]; rfl
        refine' take_at 6 rfl (by kernel_rfl) (by kernel_rfl) (by kernel_rfl) (fun _ _ _ h => h) (by rfl) hS ?_ ?_ ?_
        rotate_left 2
        · intro W hSW; go_simp; try with_reducible rfl
        · simp only [List.set_cons_succ, List.set_cons_zero]; rfl
        refine' take_at 7 rfl (by kernel_rfl) (by kernel_rfl) (by kernel_rfl) (fun _ _ _ h => h) (by rfl) hS ?_ ?_ ?_
        rotate_left 2
        · intro W hSW; go_simp; try with_reducible rfl
        · simp only [List.set_cons_succ, List.set_cons_zero]; rfl
        refine' take_at 8 rfl (by kernel_rfl) (by kernel_rfl) (by kernel_rfl) (fun _ _ _ h => h) (by rfl) hS ?_ ?_ ?_
        rotate_left 2
        · intro W hSW; have ca := HTOP.out W hSW; go_simp; try with_reducible rfl
        · simp only [List.set_cons_succ, List.set_cons_zero]; rfl
        refine' take_at 9 rfl (by kernel_rfl) (by kernel_rfl) (by kernel_rfl) (fun _ _ _ h => h) (by rfl) hS ?_ ?_ ?_
        rotate_left 2
        · intro W hSW; go_simp; try with_reducible rfl
        · simp only [List.set_cons_succ, List.set_cons_zero]; rfl
        refine call_at 10 rfl (by kernel_rfl) (by rfl) (fun K hK => ?_)
        go_simp
        have K2 := Lib.hid (D.at_ (D.base.below HI.out.tr kb1) (m : Int) (by have := HML.out; have := HMH.out; omega) (by have := HML.out; have := HMH.out; omega))
        rw [Tm.at_end t m Hm.out] at K2
        with_reducible refine K2.out.mono ?_
        rintro e u2 ⟨rfl, hb2⟩
        have kb2 := below_then kb1 hb2
        clear hS hb2 K2
        refine hK.out _ _ (by exact kb2) (fun hS => ?_)
        clear hK K
        refine' take_at 11 rfl (by kernel_rfl) (by kernel_rfl) (by kernel_rfl) (fun _ _ _ h => h) (by rfl) hS ?_ ?_ ?_
        rotate_left 2
        · intro W hSW; go_simp; try with_reducible rfl
        · simp only [List.set_cons_succ, List.set_cons_zero]; rfl
        refine' take_at 12 rfl (by kernel_rfl) (by kernel_rfl) (by kernel_rfl) (fun _ _ _ h => h) (by rfl) hS ?_ ?_ ?_
        rotate_left 2
        · intro W hSW; go_simp; try with_reducible rfl
        · simp only [List.set_cons_succ, List.set_cons_zero]; rfl
        refine' take_at 13 rfl (by kernel_rfl) (by kernel_rfl) (by kernel_rfl) (fun _ _ _ h => h) (by rfl) hS ?_ ?_ ?_
        rotate_left 2
        · intro W hSW; go_simp; try with_reducible rfl
        · simp only [List.set_cons_succ, List.set_cons_zero]; rfl
        refine' take_at 14 rfl (by kernel_rfl) (by kernel_rfl) (by kernel_rfl) (fun _ _ _ h => h) (by rfl) hS ?_ ?_ ?_
        rotate_left 2
        · intro W hSW; go_simp; try with_reducible rfl
        · simp only [List.set_cons_succ, List.set_cons_zero]; rfl
        refine' take_at 15 rfl (by kernel_rfl) (by kernel_rfl) (by kernel_rfl) (fun _ _ _ h => h) (by rfl) hS ?_ ?_ ?_
        rotate_left 2
        · intro W hSW; go_simp; try with_reducible rfl
        · simp only [List.set_cons_succ, List.set_cons_zero]; rfl
        refine' take_at 16 rfl (by kernel_rfl) (by kernel_rfl) (by kernel_rfl) (fun _ _ _ h => h) (by rfl) hS ?_ ?_ ?_
        rotate_left 2
        · intro W hSW; go_simp; try with_reducible rfl
        · simp only [List.set_cons_succ, List.set_cons_zero]; rfl
        refine' take_at 17 rfl (by kernel_rfl) (by kernel_rfl) (by kernel_rfl) (fun _ _ _ h => h) (by rfl) hS ?_ ?_ ?_
        rotate_left 2
        · intro W hSW; go_simp; try with_reducible rfl
        · simp only [List.set_cons_succ, List.set_cons_zero]; rfl
        refine' take_at 18 rfl (by kernel_rfl) (by kernel_rfl) (by kernel_rfl) (fun _ _ _ h => h) (by rfl) hS ?_ ?_ ?_
        rotate_left 2
        · intro W hSW; have ca := HTOP.out W hSW; go_simp; try with_reducible rfl
        · simp only [List.set_cons_succ, List.set_cons_zero]; rfl
        refine' take_at 19 rfl (by kernel_rfl) (by kernel_rfl) (by kernel_rfl) (fun _ _ _ h => h) (by rfl) hS ?_ ?_ ?_
        rotate_left 2
        · intro W hSW; go_simp; try with_reducible rfl
        · simp only [List.set_cons_succ, List.set_cons_zero]; rfl
        refine' take_at 20 rfl (by kernel_rfl) (by kernel_rfl) (by kernel_rfl) (fun _ _ _ h => h) (by rfl) hS ?_ ?_ ?_
        rotate_left 2
        · intro W hSW; go_simp; try with_reducible rfl
        · simp only [List.set_cons_succ, List.set_cons_zero]; rfl
        refine' take_at 22 rfl (by kernel_rfl) (by kernel_rfl) (by kernel_rfl) (fun _ _ _ h => h) (by rfl) hS ?_ ?_ ?_
        rotate_left 2
        · intro W hSW; go_simp; try with_reducible rfl
        · simp only [List.set_cons_succ, List.set_cons_zero]; rfl
        refine' take_at 23 rfl (by kernel_rfl) (by kernel_rfl) (by kernel_rfl) (fun _ _ _ h => h) (by rfl) hS ?_ ?_ ?_
        rotate_left 2
        · intro W hSW; go_simp; try with_reducible rfl
        · simp only [List.set_cons_succ, List.set_cons_zero]; rfl
        refine' take_at 24 rfl (by kernel_rfl) (by kernel_rfl) (by kernel_rfl) (fun _ _ _ h => h) (by rfl) hS ?_ ?_ ?_
        rotate_left 2
        · intro W hSW; go_simp; try with_reducible rfl
        · simp only [List.set_cons_succ, List.set_cons_zero]; rfl
        refine' take_at 25 rfl (by kernel_rfl) (by kernel_rfl) (by kernel_rfl) (fun _ _ _ h => h) (by rfl) hS ?_ ?_ ?_
        rotate_left 2
        · intro W hSW; go_simp; try with_reducible rfl
        · simp only [List.set_cons_succ, List.set_cons_zero]; rfl
        refine' take_at 26 rfl (by kernel_rfl) (by kernel_rfl) (by kernel_rfl) (fun _ _ _ h => h) (by rfl) hS ?_ ?_ ?_
        rotate_left 2
        · intro W hSW; have ca := HTOP.out W hSW; go_simp; try with_reducible rfl
        · simp only [List.set_cons_succ, List.set_cons_zero]; rfl
        refine' take_at 27 rfl (by kernel_rfl) (by kernel_rfl) (by kernel_rfl) (fun _ _ _ h => h) (by rfl) hS ?_ ?_ ?_
        rotate_left 2
        · intro W hSW; go_simp; try with_reducible rfl
        · simp only [List.set_cons_succ, List.set_cons_zero]; rfl
        refine' take_at 28 rfl (by kernel_rfl) (by kernel_rfl) (by kernel_rfl) (fun _ _ _ h => h) (by rfl) hS ?_ ?_ ?_
        rotate_left 2
        · intro W hSW; go_simp; try with_reducible rfl
        · simp only [List.set_cons_succ, List.set_cons_zero]; rfl
        refine call_at 21 rfl (by kernel_rfl) (by rfl) (fun K hK => ?_)
        go_simp
        have K3 := Lib.hid (D.at_ (D.base.below HI.out.tr kb2) ((m : Int) - 1) (by have := HML.out; have := HMH.out; omega) (by have := HML.out; have := HMH.out; omega))
        with_reducible refine K3.out.mono ?_
        rintro e u3 ⟨rfl, hb3⟩
        have kb3 := below_then kb2 hb3
        clear hS hb3 K3
        refine hK.out _ _ (by exact kb3) (fun hS => ?_)
        clear hK K
        refine call_at 29 rfl (by kernel_rfl) (by rfl) (fun K hK => ?_)
        go_simp
        have K4 := Lib.hid (rat15_any (HI.out.rt.below kb3) ((m : Int) - 1))
        with_reducible refine K4.out.mono ?_
        rintro e u4 ⟨rfl, hw4⟩
        subst hw4
        clear hS K4
        refine hK.out _ _ (by exact kb3) (fun hS => ?_)
        clear hK K
        refine' take_at 30 rfl (by kernel_rfl) (by kernel_rfl) (by kernel_rfl) (fun _ _ _ h => h) (by rfl) hS ?_ ?_ ?_
        rotate_left 2
        · intro W hSW; go_simp; try with_reducible rfl
        · simp only [List.set_cons_succ, List.set_cons_zero]; rfl
        refine' take_at 31 rfl (by kernel_rfl) (by kernel_rfl) (by kernel_rfl) (fun _ _ _ h => h) (by rfl) hS ?_ ?_ ?_
        rotate_left 2
        · intro W hSW; go_simp; try with_reducible rfl
        · simp only [List.set_cons_succ, List.set_cons_zero]; rfl
        refine' take_at 32 rfl (by kernel_rfl) (by kernel_rfl) (by kernel_rfl) (fun _ _ _ h => h) (by rfl) hS ?_ ?_ ?_
        rotate_left 2
        · intro W hSW; go_simp; try with_reducible rfl
        · simp only [List.set_cons_succ, List.set_cons_zero]; rfl
        refine wpAnyH_done (by kernel_rfl) ?_ _
        refine NoPanic.normal ?_
        clear hS
        (try simp only [Act.put])
        have HE := Lib.hid (HI.out.low kb3 D.base).below
        clear kb1 kb2 kb3 HI
        go_wp2_with fail
        go_ret
        exact ⟨rfl, HE.out⟩
end Go.Proofs.Ytigkomioegkdeaa

