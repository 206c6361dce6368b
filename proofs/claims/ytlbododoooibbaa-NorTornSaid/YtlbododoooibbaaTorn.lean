/- The walk of NorTorn. -/
import Derived.Test.YtlbododoooibbaaIn
import Derived.Test.YtlbododoooibbaaMask
import Derived.Test.YtlbododoooibbaaRegion
import Derived.BigRegion
import Derived.Deep.CutBlock
namespace Go.Proofs.Ytlbododoooibbaa
open Go.RowKit
set_option linter.unusedVariables false

def LawPost (w : World) (e : Ending) (w' : World) : Prop := e = .returned (.bool true) ∧ Below w.heap.size w w'

/-- what a loop leaves that turned a copy of a slice into r -/
def MadeCut (w : World) (r : List UInt8) (n : Nat) (s : Value) (wx : World) : Prop := ∃ A c, s = .slice A n c ∧ Bs wx A r ∧ Below w.heap.size w wx

set_option maxHeartbeats 3200000 in
theorem torn_walk (A1 A2 A3 : Option Addr) (l m p : List UInt8) (c1 c2 c3 : Nat) (w : World) (h1 : Bs w A1 l) (h2 : Bs w A2 m) (h3 : Bs w A3 p) :
    Calls Try.prog 4 #[.slice A1 l.length c1, .slice A2 m.length c2, .slice A3 p.length c3] w (LawPost w) := by
  by_cases hs : l.length ≤ 400 ∧ m.length ≤ 400 ∧ p.length ≤ 400
  · obtain ⟨s1, s2, s3⟩ := hs
    go_enter Try.func4, Try.ntmps4
    go_wp2_with fail
    refine (alive_any _).mono ?_
    rintro e w1 ⟨rfl, hb⟩
    have k1 := h1.below hb
    have k2 := h2.below hb
    have k3 := h3.below hb
    clear h1 h2 h3
    go_wp2_with fail
    refine (short_yes s1 s2 s3).mono ?_
    rintro e w2 ⟨rfl, rfl⟩
    go_upto_region 4 with fail
    go_wp2_with (at_builtin; refine wpList_append_bs rfl (.const (.slice none 0 0)) _ 22 rfl w1.heap.size 5 Try.underlying22 info5 _ [] rfl (Ob.nil_ _ _ _) A1 l _ c1 rfl rfl k1 (by simp; omega) (Nat.le_refl _) ?_)
    intro v w2 ho hg
    obtain ⟨A, c, rfl, -, hfo⟩ := ho.form
    have hb2 : Below w1.heap.size w1 w2 := below_of_grown hg
    clear hg
    go_upto_block 0 with fail
    go_cut [8] (MadeCut w1 (maskB l m) l.length)
    case first =>
      go_wp2_with fail
      go_loopw [9] (fun i wr => ∃ k : Nat, k ≤ l.length ∧ k ≤ m.length ∧ i = .int .i64 k ∧ Ob 5 wr w1.heap.size (.slice A l.length c) (updTo l (maskF l m) k) ∧ Below w1.heap.size w1 wr) (fun i _ => l.length - (intOf i).toNat)
      case atStart => exact ⟨0, Nat.zero_le _, Nat.zero_le _, rfl, by rw [updTo_zero]; exact ho, hb2⟩
      case round =>
        obtain ⟨k, hk, hkm, rfl, hown, hbel⟩ := hrel
        by_cases hlt : k < l.length ∧ k < m.length
        · obtain ⟨hlt1, hlt2⟩ := hlt
          obtain ⟨b1, o1, e1, hc1⟩ := hown.bs.at_ (k := k) (by rw [updTo_len]; omega)
          rcases hfo with rfl | ⟨g, rfl, hg, -⟩
          · cases e1
          injection e1 with e1
          injection e1 with e1 e2
          subst e1
          subst e2
          obtain ⟨b2, o2, rfl, hc2⟩ := (k2.below hbel).at_ (k := k) (by omega)
          obtain ⟨b3, o3, rfl, hc3⟩ := (k1.below hbel).at_ (k := k) (by omega)
          have hfr : wr.frozen? ⟨g, k, none⟩ = false := hown.frozen k
          rw [Nat.zero_add, updTo_at (by omega)] at hc1
          have hst := hown.set_ k (maskF l m k)
          rw [updTo_step (by omega)] at hst
          have hbst : Below w1.heap.size w1 (wr.setCell ⟨g, k, none⟩ (bval (maskF l m k))) := hbel.setCell hg _
          unfold maskF at hst hbst
          have hor := u8_and' (l.getD k 0) (m.getD k 0)
          generalize l.getD k 0 &&& m.getD k 0 = z at *
          generalize l.getD k 0 = x at *
          generalize m.getD k 0 = y at *
          have Hst := Lib.hid hst
          have Hbst := Lib.hid hbst
          clear hst hbst hown hbel ho k1 k2 k3 hb2
          go_wp2_with fail
          go_region
          go_wp2_with fail
          go_roundw
          case rel => exact ⟨k + 1, by omega, by omega, by go_num, Ob.drewN Hst.out 1, below_drewN' Hbst.out 1⟩
          case measure => simp [intOf]; omega
        · have hkk : k = min l.length m.length := by omega
          have Hown : Hid (Bs wr A (maskB l m)) := Lib.hid (by unfold maskB; rw [← hkk]; exact hown.bs)
          have Hbel := Lib.hid hbel
          have Hx : k < l.length → ¬ k < m.length := fun h1 h2 => hlt ⟨h1, h2⟩
          have HX := Lib.hid Hx
          clear hown k1 k2 k3 ho hb2 hfo hb hbel hkk hlt Hx
          by_cases hlt1 : k < l.length
          case' pos => have hlt2 := HX.out hlt1
          all_goals
            go_wp2_with fail
            go_meet
            exact ⟨A, c, rfl, Hown.out, Hbel.out⟩
    case rest =>
      obtain ⟨A5, c5, rfl, q4, hb5⟩ := hcut
      obtain ⟨wo, rfl⟩ : ∃ wo : World, wo = wc := ⟨_, rfl⟩
      have q1 := k1.below hb5
      have q3 := k3.below hb5
      have Hw : Hid (Below w.heap.size w wo) := hb.trans (hb5.mono hb.size)
      clear k1 k2 k3 ho hb2 hfo hb hb5
      have HN := Lib.hid (maskB_len l m)
      have HC : Hid (canB l (maskB l m) = true) := canB_mask l m
      generalize maskB l m = nw at *
      go_upto_region 9 with fail
      go_wp2_with (at_builtin; refine wpList_append_bs rfl (.const (.slice none 0 0)) _ 22 rfl wo.heap.size 5 Try.underlying22 info5 _ [] rfl (Ob.nil_ _ _ _) A5 nw _ c5 rfl HN.out.symm q4 (by have := HN.out; simp; omega) (Nat.le_refl _) ?_)
      intro v w2 ho hg
      obtain ⟨A, c, rfl, -, hfo⟩ := ho.form
      have hb2 : Below wo.heap.size wo w2 := below_of_grown hg
      clear hg
      rw [HN.out]
      go_upto_block 2 with fail
      go_cut [10] (MadeCut wo (seenB l nw p) l.length)
      case first =>
        go_wp2_with fail
        go_loopw [11] (fun i wr => ∃ k : Nat, k ≤ l.length ∧ k ≤ p.length ∧ i = .int .i64 k ∧ Ob 5 wr wo.heap.size (.slice A l.length c) (updTo nw (seenF l nw p) k) ∧ Below wo.heap.size wo wr) (fun i _ => l.length - (intOf i).toNat)
        case atStart => exact ⟨0, Nat.zero_le _, Nat.zero_le _, rfl, by rw [updTo_zero, ← HN.out]; exact ho, hb2⟩
        case round =>
          obtain ⟨k, hk, hkm, rfl, hown, hbel⟩ := hrel
          by_cases hlt : k < l.length ∧ k < p.length
          · obtain ⟨hlt1, hlt2⟩ := hlt
            have hln : k < nw.length := by rw [HN.out]; exact hlt1
            obtain ⟨b1, o1, e1, hc1⟩ := hown.bs.at_ (k := k) (by rw [updTo_len]; omega)
            rcases hfo with rfl | ⟨g, rfl, hg, -⟩
            · cases e1
            injection e1 with e1
            injection e1 with e1 e2
            subst e1
            subst e2
            obtain ⟨b2, o2, rfl, hc2⟩ := (q4.below hbel).at_ (k := k) hln
            obtain ⟨b3, o3, rfl, hc3⟩ := (q1.below hbel).at_ (k := k) (by omega)
            obtain ⟨b4, o4, rfl, hc4⟩ := (q3.below hbel).at_ (k := k) (by omega)
            have hfr : wr.frozen? ⟨g, k, none⟩ = false := hown.frozen k
            rw [Nat.zero_add, updTo_at hln] at hc1
            have hst := hown.set_ k (seenF l nw p k)
            rw [updTo_step hln] at hst
            have hbst : Below wo.heap.size wo (wr.setCell ⟨g, k, none⟩ (bval (seenF l nw p k))) := hbel.setCell hg _
            unfold seenF at hst hbst
            have hand := u8_and' (l.getD k 0) (p.getD k 0)
            generalize l.getD k 0 = x at *
            generalize p.getD k 0 = y at *
            generalize x &&& y = z at *
            have hor := u8_or' (nw.getD k 0) z
            generalize nw.getD k 0 = x2 at *
            generalize x2 ||| z = z2 at *
            have Hst := Lib.hid hst
            have Hbst := Lib.hid hbst
            clear hst hbst hown hbel ho q1 q3 q4 hb2
            go_wp2_with fail
            go_region
            go_wp2_with fail
            go_roundw
            case rel => exact ⟨k + 1, by omega, by omega, by go_num, Ob.drewN Hst.out 1, below_drewN' Hbst.out 1⟩
            case measure => simp [intOf]; omega
          · have hkk : k = min l.length p.length := by omega
            have Hown : Hid (Bs wr A (seenB l nw p)) := Lib.hid (by unfold seenB; rw [← hkk]; exact hown.bs)
            have Hbel := Lib.hid hbel
            have Hx : k < l.length → ¬ k < p.length := fun h1 h2 => hlt ⟨h1, h2⟩
            have HX := Lib.hid Hx
            clear hown q1 q3 q4 ho hb2 hfo hbel hkk hlt Hx
            by_cases hlt1 : k < l.length
            case' pos => have hlt2 := HX.out hlt1
            all_goals
              go_wp2_with fail
              go_meet
              exact ⟨A, c, rfl, Hown.out, Hbel.out⟩
      case rest =>
        obtain ⟨A8, c8, rfl, q8, hb8⟩ := hcut
        have g1 := q1.below hb8
        have g3 := q3.below hb8
        have g4 := q4.below hb8
        have Hw2 : Hid (Below w.heap.size w wc) := Hw.out.trans (hb8.mono Hw.out.size)
        have HS : Hid ((seenB l nw p).length = l.length) := Lib.hid (by rw [seenB_len]; exact HN.out)
        have Z1 : Hid (canB l (tornB l nw p) = true) := canB_torn_old p HC.out
        have Z1' : Hid (canB (tornB l nw p) nw = true) := canB_torn l nw p
        have Z2 : Hid (canB l (seenB l nw p) = true) := canB_seen_old p HC.out
        have Z2' : Hid (canB (seenB l nw p) nw = true) := canB_seen_new l nw p
        have Z3 : Hid (tornB l nw (seenB l nw p) = seenB l nw p) := torn_back Z2.out Z2'.out
        have B1 : Hid ((canB l (tornB l nw p) && canB (tornB l nw p) nw) = true) := Lib.hid (by rw [Z1.out, Z1'.out]; rfl)
        have B2 : Hid ((canB l (seenB l nw p) && canB (seenB l nw p) nw) = true) := Lib.hid (by rw [Z2.out, Z2'.out]; rfl)
        have B3 : Hid ((canB l l && canB l nw) = true) := Lib.hid (by rw [canB_refl, HC.out]; rfl)
        have B4 : Hid ((canB l nw && canB nw nw) = true) := Lib.hid (by rw [canB_refl, HC.out]; rfl)
        have HT : Hid ((tornB l nw p).length = l.length) := Lib.hid (by rw [tornB_len]; exact HN.out)
        clear q1 q3 q4 ho hb2 hfo hb8
        go_wp2_with fail
        refine (torn_in (w := wc) (Below.refl _ _) g1 g4 g3 rfl HN.out.symm rfl (by omega) (by omega) (by omega)).mono ?_
        rintro e w5 ⟨A6, c6, n6, rfl, en6, q5, hb5⟩
        rw [if_pos HC.out] at en6 q5
        rw [HT.out] at en6
        subst en6
        have r1 := g1.below hb5
        have r4 := g4.below hb5
        have r8 := q8.below hb5
        have HW : Hid (Below w.heap.size w w5) := Hw2.out.trans (hb5.mono Hw2.out.size)
        have cv8 := conv_in (c1 := c8) r8 HS.out.symm
        clear g1 g3 g4 q8 hb5
        go_wp2_with fail
        refine wp_region_noPanic ?_
        refine wp_region_held_drew (S := fun W => Below w5.heap.size w5 W) (by kernel_rfl) (by exact (Below.refl _ _).drew) (fun hS => ?_)
        refine' take_at 0 rfl (by kernel_rfl) (by kernel_rfl) (by kernel_rfl) (fun _ _ _ h => h) (by rfl) hS ?_ ?_ ?_
        rotate_left 2
        · intro W hSW; go_simp; try with_reducible rfl
        · simp only [List.set_cons_succ, List.set_cons_zero]; rfl
        refine' take_at 1 rfl (by kernel_rfl) (by kernel_rfl) (by kernel_rfl) (fun _ _ _ h => h) (by rfl) hS ?_ ?_ ?_
        rotate_left 2
        · intro W hSW; go_simp; try with_reducible rfl
        · simp only [List.set_cons_succ, List.set_cons_zero]; rfl
        refine' take_at 2 rfl (by kernel_rfl) (by kernel_rfl) (by kernel_rfl) (fun _ _ _ h => h) (by rfl) hS ?_ ?_ ?_
        rotate_left 2
        · intro W hSW; go_simp; try with_reducible rfl
        · simp only [List.set_cons_succ, List.set_cons_zero]; rfl
        refine' take_at 3 rfl (by kernel_rfl) (by kernel_rfl) (by kernel_rfl) (fun _ _ _ h => h) (by rfl) hS ?_ ?_ ?_
        rotate_left 2
        · intro W hSW; go_simp; try with_reducible rfl
        · simp only [List.set_cons_succ, List.set_cons_zero]; rfl
        refine' take_at 4 rfl (by kernel_rfl) (by kernel_rfl) (by kernel_rfl) (fun _ _ _ h => h) (by rfl) hS ?_ ?_ ?_
        rotate_left 2
        · intro W hSW; go_simp; try with_reducible rfl
        · simp only [List.set_cons_succ, List.set_cons_zero]; rfl
        refine' take_at 5 rfl (by kernel_rfl) (by kernel_rfl) (by kernel_rfl) (fun _ _ _ h => h) (by rfl) hS ?_ ?_ ?_
        rotate_left 2
        · intro W hSW; go_simp; try with_reducible rfl
        · simp only [List.set_cons_succ, List.set_cons_zero]; rfl
        refine' take_at 6 rfl (by kernel_rfl) (by kernel_rfl) (by kernel_rfl) (fun _ _ _ h => h) (by rfl) hS ?_ ?_ ?_
        rotate_left 2
        · intro W hSW; go_simp; try with_reducible rfl
        · simp only [List.set_cons_succ, List.set_cons_zero]; rfl
        refine' take_at 7 rfl (by kernel_rfl) (by kernel_rfl) (by kernel_rfl) (fun _ _ _ h => h) (by rfl) hS ?_ ?_ ?_
        rotate_left 2
        · intro W hSW; go_simp; try with_reducible rfl
        · simp only [List.set_cons_succ, List.set_cons_zero]; rfl
        refine' take_at 8 rfl (by kernel_rfl) (by kernel_rfl) (by kernel_rfl) (fun _ _ _ h => h) (by rfl) hS ?_ ?_ ?_
        rotate_left 2
        · intro W hSW; go_simp; try with_reducible rfl
        · simp only [List.set_cons_succ, List.set_cons_zero]; rfl
        refine call_at 9 rfl (by kernel_rfl) (by rfl) (fun K hK => ?_)
        go_simp
        refine (between_in (w := w5) hS B1 (r1.below hS) (r4.below hS) (q5.below hS) rfl HN.out.symm HT.out.symm (by omega) (by omega)).mono ?_
        rintro e w11 ⟨rfl, kb11⟩
        clear hS
        refine hK.out _ _ (by exact kb11) (fun hS => ?_)
        clear hK K
        refine' take_at 10 rfl (by kernel_rfl) (by kernel_rfl) (by kernel_rfl) (fun _ _ _ h => h) (by rfl) hS ?_ ?_ ?_
        rotate_left 2
        · intro W hSW; go_simp; try with_reducible rfl
        · simp only [List.set_cons_succ, List.set_cons_zero]; rfl
        refine' take_at 11 rfl (by kernel_rfl) (by kernel_rfl) (by kernel_rfl) (fun _ _ _ h => h) (by rfl) hS ?_ ?_ ?_
        rotate_left 2
        · intro W hSW; go_simp; try with_reducible rfl
        · simp only [List.set_cons_succ, List.set_cons_zero]; rfl
        refine' take_at 12 rfl (by kernel_rfl) (by kernel_rfl) (by kernel_rfl) (fun _ _ _ h => h) (by rfl) hS ?_ ?_ ?_
        rotate_left 2
        · intro W hSW; go_simp; try with_reducible rfl
        · simp only [List.set_cons_succ, List.set_cons_zero]; rfl
        refine' take_at 13 rfl (by kernel_rfl) (by kernel_rfl) (by kernel_rfl) (fun _ _ _ h => h) (by rfl) hS ?_ ?_ ?_
        rotate_left 2
        · intro W hSW; go_simp; try with_reducible rfl
        · simp only [List.set_cons_succ, List.set_cons_zero]; rfl
        refine' take_at 14 rfl (by kernel_rfl) (by kernel_rfl) (by kernel_rfl) (fun _ _ _ h => h) (by rfl) hS ?_ ?_ ?_
        rotate_left 2
        · intro W hSW; go_simp; try with_reducible rfl
        · simp only [List.set_cons_succ, List.set_cons_zero]; rfl
        refine call_at 15 rfl (by kernel_rfl) (by rfl) (fun K hK => ?_)
        go_simp
        refine (between_in (w := w5) hS B2 (r1.below hS) (r4.below hS) (r8.below hS) rfl HN.out.symm HS.out.symm (by omega) (by omega)).mono ?_
        rintro e w12 ⟨rfl, kb12⟩
        clear hS
        refine hK.out _ _ (by exact kb12) (fun hS => ?_)
        clear hK K
        refine' take_at 16 rfl (by kernel_rfl) (by kernel_rfl) (by kernel_rfl) (fun _ _ _ h => h) (by rfl) hS ?_ ?_ ?_
        rotate_left 2
        · intro W hSW; go_simp; try with_reducible rfl
        · simp only [List.set_cons_succ, List.set_cons_zero]; rfl
        refine' take_at 17 rfl (by kernel_rfl) (by kernel_rfl) (by kernel_rfl) (fun _ _ _ h => h) (by rfl) hS ?_ ?_ ?_
        rotate_left 2
        · intro W hSW; go_simp; try with_reducible rfl
        · simp only [List.set_cons_succ, List.set_cons_zero]; rfl
        refine' take_at 18 rfl (by kernel_rfl) (by kernel_rfl) (by kernel_rfl) (fun _ _ _ h => h) (by rfl) hS ?_ ?_ ?_
        rotate_left 2
        · intro W hSW; go_simp; try with_reducible rfl
        · simp only [List.set_cons_succ, List.set_cons_zero]; rfl
        refine' take_at 19 rfl (by kernel_rfl) (by kernel_rfl) (by kernel_rfl) (fun _ _ _ h => h) (by rfl) hS ?_ ?_ ?_
        rotate_left 2
        · intro W hSW; go_simp; try with_reducible rfl
        · simp only [List.set_cons_succ, List.set_cons_zero]; rfl
        refine' take_at 20 rfl (by kernel_rfl) (by kernel_rfl) (by kernel_rfl) (fun _ _ _ h => h) (by rfl) hS ?_ ?_ ?_
        rotate_left 2
        · intro W hSW; go_simp; try with_reducible rfl
        · simp only [List.set_cons_succ, List.set_cons_zero]; rfl
        refine' take_at 23 rfl (by kernel_rfl) (by kernel_rfl) (by kernel_rfl) (fun _ _ _ h => h) (by rfl) hS ?_ ?_ ?_
        rotate_left 2
        · intro W hSW; go_simp; try with_reducible rfl
        · simp only [List.set_cons_succ, List.set_cons_zero]; rfl
        refine' take_at 24 rfl (by kernel_rfl) (by kernel_rfl) (by kernel_rfl) (fun _ _ _ h => h) (by rfl) hS ?_ ?_ ?_
        rotate_left 2
        · intro W hSW; go_simp; try with_reducible rfl
        · simp only [List.set_cons_succ, List.set_cons_zero]; rfl
        refine call_at 21 rfl (by kernel_rfl) (by rfl) (fun K hK => ?_)
        go_simp
        refine (torn_in (w := w5) hS (r1.below hS) (r4.below hS) (r8.below hS) rfl HN.out.symm HS.out.symm (by omega) (by omega) (by omega)).mono ?_
        rintro e w7 ⟨A7, c7, n7, rfl, en7, q7, kb7⟩
        rw [if_pos HC.out, Z3.out] at en7 q7
        rw [HS.out] at en7
        subst en7
        have cv7 := conv_in (c1 := c7) q7 HS.out.symm w7 (Below.refl _ _)
        clear hS
        refine hK.out _ _ (by exact kb7) (fun hS => ?_)
        clear hK K
        refine call_at 22 rfl (by kernel_rfl) (by rfl) (fun K hK => ?_)
        go_simp
        refine hK.out _ _ (by exact hS) (fun hS => ?_)
        clear hK K
        refine' take_at 25 rfl (by kernel_rfl) (by kernel_rfl) (by kernel_rfl) (fun _ _ _ h => h) (by rfl) hS ?_ ?_ ?_
        rotate_left 2
        · intro W hSW; go_simp; try with_reducible rfl
        · simp only [List.set_cons_succ, List.set_cons_zero]; rfl
        refine' take_at 26 rfl (by kernel_rfl) (by kernel_rfl) (by kernel_rfl) (fun _ _ _ h => h) (by rfl) hS ?_ ?_ ?_
        rotate_left 2
        · intro W hSW; go_simp; try with_reducible rfl
        · simp only [List.set_cons_succ, List.set_cons_zero]; rfl
        refine' take_at 27 rfl (by kernel_rfl) (by kernel_rfl) (by kernel_rfl) (fun _ _ _ h => h) (by rfl) hS ?_ ?_ ?_
        rotate_left 2
        · intro W hSW; go_simp; try with_reducible rfl
        · simp only [List.set_cons_succ, List.set_cons_zero]; rfl
        refine' take_at 28 rfl (by kernel_rfl) (by kernel_rfl) (by kernel_rfl) (fun _ _ _ h => h) (by rfl) hS ?_ ?_ ?_
        rotate_left 2
        · intro W hSW; go_simp; try with_reducible rfl
        · simp only [List.set_cons_succ, List.set_cons_zero]; rfl
        refine' take_at 29 rfl (by kernel_rfl) (by kernel_rfl) (by kernel_rfl) (fun _ _ _ h => h) (by rfl) hS ?_ ?_ ?_
        rotate_left 2
        · intro W hSW; go_simp; try with_reducible rfl
        · simp only [List.set_cons_succ, List.set_cons_zero]; rfl
        refine' take_at 30 rfl (by kernel_rfl) (by kernel_rfl) (by kernel_rfl) (fun _ _ _ h => h) (by rfl) hS ?_ ?_ ?_
        rotate_left 2
        · intro W hSW; go_simp; try with_reducible rfl
        · simp only [List.set_cons_succ, List.set_cons_zero]; rfl
        refine call_at 31 rfl (by kernel_rfl) (by rfl) (fun K hK => ?_)
        go_simp
        refine (between_in (w := w5) hS B3 (r1.below hS) (r4.below hS) (r1.below hS) rfl HN.out.symm rfl (by omega) (by omega)).mono ?_
        rintro e w13 ⟨rfl, kb13⟩
        clear hS
        refine hK.out _ _ (by exact kb13) (fun hS => ?_)
        clear hK K
        refine' take_at 32 rfl (by kernel_rfl) (by kernel_rfl) (by kernel_rfl) (fun _ _ _ h => h) (by rfl) hS ?_ ?_ ?_
        rotate_left 2
        · intro W hSW; go_simp; try with_reducible rfl
        · simp only [List.set_cons_succ, List.set_cons_zero]; rfl
        refine' take_at 33 rfl (by kernel_rfl) (by kernel_rfl) (by kernel_rfl) (fun _ _ _ h => h) (by rfl) hS ?_ ?_ ?_
        rotate_left 2
        · intro W hSW; go_simp; try with_reducible rfl
        · simp only [List.set_cons_succ, List.set_cons_zero]; rfl
        refine' take_at 34 rfl (by kernel_rfl) (by kernel_rfl) (by kernel_rfl) (fun _ _ _ h => h) (by rfl) hS ?_ ?_ ?_
        rotate_left 2
        · intro W hSW; go_simp; try with_reducible rfl
        · simp only [List.set_cons_succ, List.set_cons_zero]; rfl
        refine' take_at 35 rfl (by kernel_rfl) (by kernel_rfl) (by kernel_rfl) (fun _ _ _ h => h) (by rfl) hS ?_ ?_ ?_
        rotate_left 2
        · intro W hSW; go_simp; try with_reducible rfl
        · simp only [List.set_cons_succ, List.set_cons_zero]; rfl
        refine' take_at 36 rfl (by kernel_rfl) (by kernel_rfl) (by kernel_rfl) (fun _ _ _ h => h) (by rfl) hS ?_ ?_ ?_
        rotate_left 2
        · intro W hSW; go_simp; try with_reducible rfl
        · simp only [List.set_cons_succ, List.set_cons_zero]; rfl
        refine call_at 37 rfl (by kernel_rfl) (by rfl) (fun K hK => ?_)
        go_simp
        refine (between_in (w := w5) hS B4 (r1.below hS) (r4.below hS) (r4.below hS) rfl HN.out.symm HN.out.symm (by omega) (by omega)).mono ?_
        rintro e w14 ⟨rfl, kb14⟩
        clear hS
        refine hK.out _ _ (by exact kb14) (fun hS => ?_)
        clear hK K
        refine' take_at 38 rfl (by kernel_rfl) (by kernel_rfl) (by kernel_rfl) (fun _ _ _ h => h) (by rfl) hS ?_ ?_ ?_
        rotate_left 2
        · intro W hSW; go_simp; try with_reducible rfl
        · simp only [List.set_cons_succ, List.set_cons_zero]; rfl
        refine' take_at 39 rfl (by kernel_rfl) (by kernel_rfl) (by kernel_rfl) (fun _ _ _ h => h) (by rfl) hS ?_ ?_ ?_
        rotate_left 2
        · intro W hSW; go_simp; try with_reducible rfl
        · simp only [List.set_cons_succ, List.set_cons_zero]; rfl
        refine wpAnyH_done (by kernel_rfl) ?_ _
        refine NoPanic.normal ?_
        go_wp2_with fail
        go_ret
        exact ⟨rfl, HW.out.trans (hS.mono HW.out.size)⟩
  · go_enter Try.func4, Try.ntmps4
    go_wp2_with fail
    refine (alive_any _).mono ?_
    rintro e w1 ⟨rfl, hb⟩
    go_wp2_with fail
    refine (short_no hs).mono ?_
    rintro e w2 ⟨rfl, rfl⟩
    go_wp2_with fail
    go_ret
    exact ⟨rfl, hb⟩
end Go.Proofs.Ytlbododoooibbaa
