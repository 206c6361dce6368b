/- The walk of NorHalf. -/
import Derived.Test.YtlbododoooibbaaIn
import Derived.Test.YtlbododoooibbaaHalfMath
import Derived.Test.YtlbododoooibbaaRegion
namespace Go.Proofs.Ytlbododoooibbaa
open Go.RowKit
set_option linter.unusedVariables false

def LawPost (w : World) (e : Ending) (w' : World) : Prop := e = .returned (.bool true) ∧ Below w.heap.size w w'

/-- what a loop leaves that laid the bits of p into a copy of l -/
def SeenCut (E : TypeId) (w : World) (l : List UInt8) (s : Value) (wx : World) : Prop := ∃ A c, s = .slice A l.length c ∧ Bs wx A l ∧ Below w.heap.size w wx

set_option maxHeartbeats 3200000 in
theorem half_walk (A1 A2 : Option Addr) (l p : List UInt8) (c1 c2 : Nat) (w : World) (h1 : Bs w A1 l) (h2 : Bs w A2 p) :
    Calls Try.prog 7 #[.slice A1 l.length c1, .slice A2 p.length c2] w (LawPost w) := by
  by_cases hs : l.length ≤ 400 ∧ p.length ≤ 400 ∧ 0 ≤ 400
  · obtain ⟨s1, s2, -⟩ := hs
    go_enter Try.func7, Try.ntmps7
    go_wp2_with fail
    refine (alive_any _).mono ?_
    rintro e w1 ⟨rfl, hb⟩
    have k1 := h1.below hb
    have k2 := h2.below hb
    clear h1 h2
    go_wp2_with fail
    refine (short_yes s1 s2 (by omega)).mono ?_
    rintro e w2 ⟨rfl, rfl⟩
    go_upto_region 4 with fail
    go_wp2_with (at_builtin; refine wpList_append_bs rfl (.const (.slice none 0 0)) _ 22 rfl w1.heap.size 5 Try.underlying22 info5 _ [] rfl (Ob.nil_ _ _ _) A1 l _ c1 rfl rfl k1 (by simp; omega) (Nat.le_refl _) ?_)
    intro v w2 ho hg
    obtain ⟨A, c, rfl, -, hfo⟩ := ho.form
    have hb2 : Below w1.heap.size w1 w2 := below_of_grown hg
    clear hg
    go_wp2_with fail
    go_loopw [7] (fun i wr => ∃ k : Nat, k ≤ l.length ∧ i = .int .i64 k ∧ Ob 5 wr w1.heap.size (.slice A l.length c) (halfTo l p k) ∧ Below w1.heap.size w1 wr) (fun i _ => l.length - (intOf i).toNat)
    case atStart => exact ⟨0, Nat.zero_le _, rfl, by rw [halfTo_zero]; exact ho, hb2⟩
    case round =>
      obtain ⟨k, hk, rfl, hown, hbel⟩ := hrel
      by_cases hlt : k < l.length ∧ k < p.length
      · obtain ⟨hlt1, hlt2⟩ := hlt
        obtain ⟨b1, o1, e1, hc1⟩ := hown.bs.at_ (k := k) (by rw [halfTo_len]; omega)
        rcases hfo with rfl | ⟨g, rfl, hg, -⟩
        · cases e1
        injection e1 with e1
        injection e1 with e1 e2
        subst e1
        subst e2
        obtain ⟨b2, o2, rfl, hc2⟩ := (k2.below hbel).at_ (k := k) (by omega)
        obtain ⟨b3, o3, rfl, hc3⟩ := (k1.below hbel).at_ (k := k) (by omega)
        have hfr : wr.frozen? ⟨g, k, none⟩ = false := hown.frozen k
        rw [Nat.zero_add, halfTo_at (by omega)] at hc1
        have hst := hown.set_ k (l.getD k 0 ||| p.getD k 0)
        rw [halfTo_step (by omega)] at hst
        have hbst : Below w1.heap.size w1 (wr.setCell ⟨g, k, none⟩ (bval (l.getD k 0 ||| p.getD k 0))) := hbel.setCell hg _
        have hor := u8_or' (l.getD k 0) (p.getD k 0)
        generalize l.getD k 0 ||| p.getD k 0 = z at *
        generalize l.getD k 0 = x at *
        generalize p.getD k 0 = y at *
        have Hst := Lib.hid hst
        have Hbst := Lib.hid hbst
        clear hst hbst hown hbel ho k1 k2 hb2
        go_wp2_with fail
        go_region
        go_wp2_with fail
        go_roundw
        case rel => exact ⟨k + 1, by omega, by go_num, Ob.drewN Hst.out 1, below_drewN' Hbst.out 1⟩
        case measure => simp [intOf]; omega
      · have Hown : Hid (Bs wr A (halfB l p)) := Lib.hid (by rw [← halfTo_end (k := k) (by omega)]; exact hown.bs)
        have q1 := k1.below hbel
        have q2 := k2.below hbel
        have Hw : Hid (Below w.heap.size w wr) := hb.trans (hbel.mono hb.size)
        have q3 := Hown.out
        clear hown k1 k2 ho hb2 hfo hb hbel
        have Hlt := Lib.hid hlt
        clear hlt
        have Z1 : Hid (canB (halfB l p) l = true) := canB_half l p
        have Z2 : Hid ((List.replicate l.length (255 : UInt8)).all (· == 255) = true) := blank_all _
        have Z3 : Hid (canB (List.replicate l.length 255) l = true) := canB_blank l
        have Hx : k < l.length → ¬ k < p.length := fun h1 h2 => Hlt.out ⟨h1, h2⟩
        have HX := Lib.hid Hx
        clear Hx
        by_cases hlt1 : k < l.length
        case' pos => have hlt2 := HX.out hlt1
        all_goals
          go_wp2_with fail
          refine (half_in (Below.refl _ _) q1 q2 rfl rfl (by omega) (by omega)).mono ?_
          rintro e w5 ⟨A5, c5, n5, rfl, en5, q5, hb5⟩
          rw [halfB_len] at en5
          subst en5
          have r1 := q1.below hb5
          have r2 := q2.below hb5
          have r3 := q3.below hb5
          have HW : Hid (Below w.heap.size w w5) := Hw.out.trans (hb5.mono Hw.out.size)
          have cv3 := conv_in (c1 := c) r3 (halfB_len l p).symm
          clear q1 q2 q3 hb5
          go_wp2_with fail
          refine wp_region_noPanic ?_
          refine wp_region_held_drew (S := fun W => Below w5.heap.size w5 W) (by kernel_rfl) (by exact (Below.refl _ _).drew) (fun hS => ?_)
          refine' take_at 0 rfl (by kernel_rfl) (by kernel_rfl) (by kernel_rfl) (fun _ _ _ h => h) (by rfl) hS ?_ ?_ ?_
          rotate_left 2
          · intro W hSW; go_simp; try with_reducible rfl
          · simp only [List.set_cons_succ, List.set_cons_zero]; rfl
          refine' take_at 1 rfl (by kernel_rfl) (by kernel_rfl) (by kernel_rfl) (fun _ _ _ h => h) (by rfl) hS ?_ ?_ ?_
          rotate_left 2
          · intro W hSW; go_simp; try with_reducible rfl
          · simp only [List.set_cons_succ, List.set_cons_zero]; rfl
          refine' take_at 2 rfl (by kernel_rfl) (by kernel_rfl) (by kernel_rfl) (fun _ _ _ h => h) (by rfl) hS ?_ ?_ ?_
          rotate_left 2
          · intro W hSW; go_simp; try with_reducible rfl
          · simp only [List.set_cons_succ, List.set_cons_zero]; rfl
          refine' take_at 3 rfl (by kernel_rfl) (by kernel_rfl) (by kernel_rfl) (fun _ _ _ h => h) (by rfl) hS ?_ ?_ ?_
          rotate_left 2
          · intro W hSW; go_simp; try with_reducible rfl
          · simp only [List.set_cons_succ, List.set_cons_zero]; rfl
          refine' take_at 4 rfl (by kernel_rfl) (by kernel_rfl) (by kernel_rfl) (fun _ _ _ h => h) (by rfl) hS ?_ ?_ ?_
          rotate_left 2
          · intro W hSW; go_simp; try with_reducible rfl
          · simp only [List.set_cons_succ, List.set_cons_zero]; rfl
          refine' take_at 5 rfl (by kernel_rfl) (by kernel_rfl) (by kernel_rfl) (fun _ _ _ h => h) (by rfl) hS ?_ ?_ ?_
          rotate_left 2
          · intro W hSW; go_simp; try with_reducible rfl
          · simp only [List.set_cons_succ, List.set_cons_zero]; rfl
          refine' take_at 6 rfl (by kernel_rfl) (by kernel_rfl) (by kernel_rfl) (fun _ _ _ h => h) (by rfl) hS ?_ ?_ ?_
          rotate_left 2
          · intro W hSW; go_simp; try with_reducible rfl
          · simp only [List.set_cons_succ, List.set_cons_zero]; rfl
          refine' take_at 7 rfl (by kernel_rfl) (by kernel_rfl) (by kernel_rfl) (fun _ _ _ h => h) (by rfl) hS ?_ ?_ ?_
          rotate_left 2
          · intro W hSW; go_simp; try with_reducible rfl
          · simp only [List.set_cons_succ, List.set_cons_zero]; rfl
          refine call_at 8 rfl (by kernel_rfl) (by rfl) (fun K hK => ?_)
          go_simp
          refine (risen_in (w := w5) hS Z1 (r1.below hS) (q5.below hS) rfl (halfB_len l p).symm (by omega)).mono ?_
          rintro e w6 ⟨rfl, kb6⟩
          clear hS
          refine hK.out _ _ (by exact kb6) (fun hS => ?_)
          clear hK K
          refine' take_at 9 rfl (by kernel_rfl) (by kernel_rfl) (by kernel_rfl) (fun _ _ _ h => h) (by rfl) hS ?_ ?_ ?_
          rotate_left 2
          · intro W hSW; go_simp; try with_reducible rfl
          · simp only [List.set_cons_succ, List.set_cons_zero]; rfl
          refine' take_at 10 rfl (by kernel_rfl) (by kernel_rfl) (by kernel_rfl) (fun _ _ _ h => h) (by rfl) hS ?_ ?_ ?_
          rotate_left 2
          · intro W hSW; go_simp; try with_reducible rfl
          · simp only [List.set_cons_succ, List.set_cons_zero]; rfl
          refine' take_at 11 rfl (by kernel_rfl) (by kernel_rfl) (by kernel_rfl) (fun _ _ _ h => h) (by rfl) hS ?_ ?_ ?_
          rotate_left 2
          · intro W hSW; go_simp; try with_reducible rfl
          · simp only [List.set_cons_succ, List.set_cons_zero]; rfl
          refine' take_at 12 rfl (by kernel_rfl) (by kernel_rfl) (by kernel_rfl) (fun _ _ _ h => h) (by rfl) hS ?_ ?_ ?_
          rotate_left 2
          · intro W hSW; go_simp; try with_reducible rfl
          · simp only [List.set_cons_succ, List.set_cons_zero]; rfl
          refine call_at 13 rfl (by kernel_rfl) (by rfl) (fun K hK => ?_)
          go_simp
          refine (risen_in (w := w5) hS Z1 (r1.below hS) (r3.below hS) rfl (halfB_len l p).symm (by omega)).mono ?_
          rintro e w6 ⟨rfl, kb6⟩
          clear hS
          refine hK.out _ _ (by exact kb6) (fun hS => ?_)
          clear hK K
          refine' take_at 14 rfl (by kernel_rfl) (by kernel_rfl) (by kernel_rfl) (fun _ _ _ h => h) (by rfl) hS ?_ ?_ ?_
          rotate_left 2
          · intro W hSW; go_simp; try with_reducible rfl
          · simp only [List.set_cons_succ, List.set_cons_zero]; rfl
          refine' take_at 15 rfl (by kernel_rfl) (by kernel_rfl) (by kernel_rfl) (fun _ _ _ h => h) (by rfl) hS ?_ ?_ ?_
          rotate_left 2
          · intro W hSW; go_simp; try with_reducible rfl
          · simp only [List.set_cons_succ, List.set_cons_zero]; rfl
          refine' take_at 16 rfl (by kernel_rfl) (by kernel_rfl) (by kernel_rfl) (fun _ _ _ h => h) (by rfl) hS ?_ ?_ ?_
          rotate_left 2
          · intro W hSW; go_simp; try with_reducible rfl
          · simp only [List.set_cons_succ, List.set_cons_zero]; rfl
          refine' take_at 17 rfl (by kernel_rfl) (by kernel_rfl) (by kernel_rfl) (fun _ _ _ h => h) (by rfl) hS ?_ ?_ ?_
          rotate_left 2
          · intro W hSW; go_simp; try with_reducible rfl
          · simp only [List.set_cons_succ, List.set_cons_zero]; rfl
          refine' take_at 20 rfl (by kernel_rfl) (by kernel_rfl) (by kernel_rfl) (fun _ _ _ h => h) (by rfl) hS ?_ ?_ ?_
          rotate_left 2
          · intro W hSW; go_simp; try with_reducible rfl
          · simp only [List.set_cons_succ, List.set_cons_zero]; rfl
          refine' take_at 21 rfl (by kernel_rfl) (by kernel_rfl) (by kernel_rfl) (fun _ _ _ h => h) (by rfl) hS ?_ ?_ ?_
          rotate_left 2
          · intro W hSW; go_simp; try with_reducible rfl
          · simp only [List.set_cons_succ, List.set_cons_zero]; rfl
          refine call_at 18 rfl (by kernel_rfl) (by rfl) (fun K hK => ?_)
          go_simp
          refine (half_in (w := w5) hS (r1.below hS) (r3.below hS) rfl (halfB_len l p).symm (by omega) (by omega)).mono ?_
          rintro e w7 ⟨A7, c7, n7, rfl, en7, q7, kb7⟩
          rw [halfB_half, halfB_len] at en7
          subst en7
          rw [halfB_half] at q7
          have cv7 := conv_in (c1 := c7) q7 (halfB_len l p).symm w7 (Below.refl _ _)
          clear hS
          refine hK.out _ _ (by exact kb7) (fun hS => ?_)
          clear hK K
          refine call_at 19 rfl (by kernel_rfl) (by rfl) (fun K hK => ?_)
          go_simp
          refine hK.out _ _ (by exact hS) (fun hS => ?_)
          clear hK K
          refine' take_at 22 rfl (by kernel_rfl) (by kernel_rfl) (by kernel_rfl) (fun _ _ _ h => h) (by rfl) hS ?_ ?_ ?_
          rotate_left 2
          · intro W hSW; go_simp; try with_reducible rfl
          · simp only [List.set_cons_succ, List.set_cons_zero]; rfl
          refine' take_at 23 rfl (by kernel_rfl) (by kernel_rfl) (by kernel_rfl) (fun _ _ _ h => h) (by rfl) hS ?_ ?_ ?_
          rotate_left 2
          · intro W hSW; go_simp; try with_reducible rfl
          · simp only [List.set_cons_succ, List.set_cons_zero]; rfl
          refine' take_at 24 rfl (by kernel_rfl) (by kernel_rfl) (by kernel_rfl) (fun _ _ _ h => h) (by rfl) hS ?_ ?_ ?_
          rotate_left 2
          · intro W hSW; go_simp; try with_reducible rfl
          · simp only [List.set_cons_succ, List.set_cons_zero]; rfl
          refine' take_at 25 rfl (by kernel_rfl) (by kernel_rfl) (by kernel_rfl) (fun _ _ _ h => h) (by rfl) hS ?_ ?_ ?_
          rotate_left 2
          · intro W hSW; go_simp; try with_reducible rfl
          · simp only [List.set_cons_succ, List.set_cons_zero]; rfl
          refine' take_at 26 rfl (by kernel_rfl) (by kernel_rfl) (by kernel_rfl) (fun _ _ _ h => h) (by rfl) hS ?_ ?_ ?_
          rotate_left 2
          · intro W hSW; go_simp; try with_reducible rfl
          · simp only [List.set_cons_succ, List.set_cons_zero]; rfl
          refine' take_at 28 rfl (by kernel_rfl) (by kernel_rfl) (by kernel_rfl) (fun _ _ _ h => h) (by rfl) hS ?_ ?_ ?_
          rotate_left 2
          · intro W hSW; go_simp; try with_reducible rfl
          · simp only [List.set_cons_succ, List.set_cons_zero]; rfl
          refine call_at 27 rfl (by kernel_rfl) (by rfl) (fun K hK => ?_)
          go_simp
          refine (blank_in (w := w5) hS rfl (by omega)).mono ?_
          rintro e w8 ⟨A8, c8, n8, rfl, en8, q8, kb8⟩
          rw [List.length_replicate] at en8
          subst en8
          clear hS
          refine hK.out _ _ (by exact kb8) (fun hS => ?_)
          clear hK K
          refine call_at 29 rfl (by kernel_rfl) (by rfl) (fun K hK => ?_)
          go_simp
          refine (half_in (w := w5) hS q8 (r2.below hS) (by simp) rfl (by omega) (by omega)).mono ?_
          rintro e w9 ⟨A9, c9, n9, rfl, en9, q9, kb9⟩
          rw [halfB_blank, List.length_replicate] at en9
          subst en9
          rw [halfB_blank] at q9
          clear hS
          refine hK.out _ _ (by exact kb9) (fun hS => ?_)
          clear hK K
          refine call_at 30 rfl (by kernel_rfl) (by rfl) (fun K hK => ?_)
          go_simp
          refine (isBlank_in (w := w5) hS Z2 q9 (by simp) (by omega)).mono ?_
          rintro e w10 ⟨rfl, kb10⟩
          clear hS
          refine hK.out _ _ (by exact kb10) (fun hS => ?_)
          clear hK K
          refine' take_at 31 rfl (by kernel_rfl) (by kernel_rfl) (by kernel_rfl) (fun _ _ _ h => h) (by rfl) hS ?_ ?_ ?_
          rotate_left 2
          · intro W hSW; go_simp; try with_reducible rfl
          · simp only [List.set_cons_succ, List.set_cons_zero]; rfl
          refine' take_at 32 rfl (by kernel_rfl) (by kernel_rfl) (by kernel_rfl) (fun _ _ _ h => h) (by rfl) hS ?_ ?_ ?_
          rotate_left 2
          · intro W hSW; go_simp; try with_reducible rfl
          · simp only [List.set_cons_succ, List.set_cons_zero]; rfl
          refine' take_at 33 rfl (by kernel_rfl) (by kernel_rfl) (by kernel_rfl) (fun _ _ _ h => h) (by rfl) hS ?_ ?_ ?_
          rotate_left 2
          · intro W hSW; go_simp; try with_reducible rfl
          · simp only [List.set_cons_succ, List.set_cons_zero]; rfl
          refine' take_at 34 rfl (by kernel_rfl) (by kernel_rfl) (by kernel_rfl) (fun _ _ _ h => h) (by rfl) hS ?_ ?_ ?_
          rotate_left 2
          · intro W hSW; go_simp; try with_reducible rfl
          · simp only [List.set_cons_succ, List.set_cons_zero]; rfl
          refine' take_at 35 rfl (by kernel_rfl) (by kernel_rfl) (by kernel_rfl) (fun _ _ _ h => h) (by rfl) hS ?_ ?_ ?_
          rotate_left 2
          · intro W hSW; go_simp; try with_reducible rfl
          · simp only [List.set_cons_succ, List.set_cons_zero]; rfl
          refine call_at 36 rfl (by kernel_rfl) (by rfl) (fun K hK => ?_)
          go_simp
          refine (blank_in (w := w5) hS rfl (by omega)).mono ?_
          rintro e w11 ⟨A11, c11, n11, rfl, en11, q11, kb11⟩
          rw [List.length_replicate] at en11
          subst en11
          clear hS
          refine hK.out _ _ (by exact kb11) (fun hS => ?_)
          clear hK K
          refine call_at 37 rfl (by kernel_rfl) (by rfl) (fun K hK => ?_)
          go_simp
          refine (risen_in (w := w5) hS Z3 (r1.below hS) q11 rfl (by simp) (by omega)).mono ?_
          rintro e w12 ⟨rfl, kb12⟩
          clear hS
          refine hK.out _ _ (by exact kb12) (fun hS => ?_)
          clear hK K
          refine' take_at 38 rfl (by kernel_rfl) (by kernel_rfl) (by kernel_rfl) (fun _ _ _ h => h) (by rfl) hS ?_ ?_ ?_
          rotate_left 2
          · intro W hSW; go_simp; try with_reducible rfl
          · simp only [List.set_cons_succ, List.set_cons_zero]; rfl
          refine' take_at 39 rfl (by kernel_rfl) (by kernel_rfl) (by kernel_rfl) (fun _ _ _ h => h) (by rfl) hS ?_ ?_ ?_
          rotate_left 2
          · intro W hSW; go_simp; try with_reducible rfl
          · simp only [List.set_cons_succ, List.set_cons_zero]; rfl
          refine' take_at 40 rfl (by kernel_rfl) (by kernel_rfl) (by kernel_rfl) (fun _ _ _ h => h) (by rfl) hS ?_ ?_ ?_
          rotate_left 2
          · intro W hSW; go_simp; try with_reducible rfl
          · simp only [List.set_cons_succ, List.set_cons_zero]; rfl
          refine' take_at 41 rfl (by kernel_rfl) (by kernel_rfl) (by kernel_rfl) (fun _ _ _ h => h) (by rfl) hS ?_ ?_ ?_
          rotate_left 2
          · intro W hSW; go_simp; try with_reducible rfl
          · simp only [List.set_cons_succ, List.set_cons_zero]; rfl
          refine call_at 42 rfl (by kernel_rfl) (by rfl) (fun K hK => ?_)
          go_simp
          refine (can_in (w := w5) hS Z1 (q5.below hS) (r1.below hS) (halfB_len l p).symm rfl (by omega)).mono ?_
          rintro e w13 ⟨rfl, kb13⟩
          clear hS
          refine hK.out _ _ (by exact kb13) (fun hS => ?_)
          clear hK K
          refine' take_at 43 rfl (by kernel_rfl) (by kernel_rfl) (by kernel_rfl) (fun _ _ _ h => h) (by rfl) hS ?_ ?_ ?_
          rotate_left 2
          · intro W hSW; go_simp; try with_reducible rfl
          · simp only [List.set_cons_succ, List.set_cons_zero]; rfl
          refine' take_at 44 rfl (by kernel_rfl) (by kernel_rfl) (by kernel_rfl) (fun _ _ _ h => h) (by rfl) hS ?_ ?_ ?_
          rotate_left 2
          · intro W hSW; go_simp; try with_reducible rfl
          · simp only [List.set_cons_succ, List.set_cons_zero]; rfl
          refine wpAnyH_done (by kernel_rfl) ?_ _
          refine NoPanic.normal ?_
          go_wp2_with fail
          go_ret
          exact ⟨rfl, HW.out.trans (hS.mono HW.out.size)⟩
  · go_enter Try.func7, Try.ntmps7
    go_wp2_with fail
    refine (alive_any _).mono ?_
    rintro e w1 ⟨rfl, hb⟩
    go_wp2_with fail
    refine (short_no hs).mono ?_
    rintro e w2 ⟨rfl, rfl⟩
    go_wp2_with fail
    go_ret
    exact ⟨rfl, hb⟩
end Go.Proofs.Ytlbododoooibbaa
