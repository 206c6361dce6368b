/- The walk of NorTells. -/
import Derived.Test.YtlbododoooibbaaRefIn
import Derived.Test.YtlbododoooibbaaRegion
namespace Go.Proofs.Ytlbododoooibbaa
open Go.RowKit
set_option linter.unusedVariables false

def LawPost (w : World) (e : Ending) (w' : World) : Prop := e = .returned (.bool true) ∧ Below w.heap.size w w'

set_option maxHeartbeats 12800000 in
theorem tells_yes (A1 A2 A3 A4 : Option Addr) (l m p s : List UInt8) (c1 c2 c3 c4 : Nat) (n : Int) (w : World) (h1 : Bs w A1 l) (h2 : Bs w A2 m) (h3 : Bs w A3 p) (h4 : Bs w A4 s)
    (s1 : l.length ≤ 400) (s2 : m.length ≤ 400) (s3 : p.length ≤ 400) (s4 : s.length ≤ 400) (hn1 : -9223372036854775808 ≤ n) (hn2 : n ≤ 9223372036854775807) :
    Calls Try.prog 3 #[.slice A1 l.length c1, .slice A2 m.length c2, .slice A3 p.length c3, .slice A4 s.length c4, .int .i64 n] w (LawPost w) := by
  have hs4 : ¬ ((400 : Int) < (s.length : Int)) := by omega
  obtain ⟨K, HK⟩ : ∃ K : Nat, Hid (K = (max 0 (min n 65536)).toNat) := ⟨_, rfl⟩
  obtain ⟨z1, Z1⟩ : ∃ b, Hid (l.all (· == 255) = b) := ⟨_, rfl⟩
  obtain ⟨z2, Z2⟩ : ∃ b, Hid (canB l m = b) := ⟨_, rfl⟩
  obtain ⟨z3, Z3⟩ : ∃ b, Hid ((canB l s && canB s m) = b) := ⟨_, rfl⟩
  obtain ⟨z4, Z4⟩ : ∃ b, Hid (canB s l = b) := ⟨_, rfl⟩
  obtain ⟨r1, R1⟩ : ∃ r, Hid ((if canB l m then m else []) = r) := ⟨_, rfl⟩
  obtain ⟨r2, R2⟩ : ∃ r, Hid ((if canB l m then tornB l m p else []) = r) := ⟨_, rfl⟩
  have y1 : (z1 == z1) = true := by cases z1 <;> rfl
  have y2 : (z2 == z2) = true := by cases z2 <;> rfl
  have y3 : (z3 == z3) = true := by cases z3 <;> rfl
  have y4 : (z4 == z4) = true := by cases z4 <;> rfl
  go_enter Try.func3, Try.ntmps3
  go_wp2_with fail
  refine (alive_any _).mono ?_
  rintro e w1 ⟨rfl, hb⟩
  have k1 := h1.below hb
  have k2 := h2.below hb
  have k3 := h3.below hb
  have k4 := h4.below hb
  have HW := Lib.hid hb
  clear h1 h2 h3 h4 hb
  go_wp2_with fail
  refine (short_yes s1 s2 s3).mono ?_
  rintro e w2 ⟨rfl, rfl⟩
  go_wp2_with fail
  refine wp_region_noPanic ?_
  refine wp_region_held_drew (S := fun W => Below w1.heap.size w1 W) (by kernel_rfl) (by exact (Below.refl _ _).drew) (fun hS => ?_)
  refine' take_at 0 rfl (by kernel_rfl) (by kernel_rfl) (by kernel_rfl) (fun _ _ _ h => h) (by rfl) hS ?_ ?_ ?_
  rotate_left 2
  · intro W hSW; go_simp; try with_reducible rfl
  · simp only [List.set_cons_succ, List.set_cons_zero]; rfl
  refine' take_at 3 rfl (by kernel_rfl) (by kernel_rfl) (by kernel_rfl) (fun _ _ _ h => h) (by rfl) hS ?_ ?_ ?_
  rotate_left 2
  · intro W hSW; go_simp; try with_reducible rfl
  · simp only [List.set_cons_succ, List.set_cons_zero]; rfl
  refine call_at 1 rfl (by kernel_rfl) (by rfl) (fun K hK => ?_)
  go_simp
  refine (blankN_in (w := w1) hS HK hn1 hn2).mono ?_
  rintro e u21 ⟨A21, c21, n21, rfl, en21, q21, kb21⟩
  have EN21 := Lib.hid en21
  have cv21 := conv_in (c1 := c21) q21 en21
  clear hS en21
  refine hK.out _ _ (by exact kb21) (fun hS => ?_)
  clear hK K
  refine held_mono (S2 := fun W => Below u21.heap.size u21 W) (fun W hW => kb21.trans (hW.mono kb21.size)) _ _ _ _ ?_
  replace hS : Below u21.heap.size u21 u21 := Below.refl _ _
  replace k1 := k1.below kb21
  replace k2 := k2.below kb21
  replace k3 := k3.below kb21
  replace k4 := k4.below kb21
  replace HW : Hid (Below w.heap.size w u21) := HW.out.trans (kb21.mono HW.out.size)
  refine' take_at 2 rfl (by kernel_rfl) (by kernel_rfl) (by kernel_rfl) (fun _ _ _ h => h) (by rfl) hS ?_ ?_ ?_
  rotate_left 2
  · intro W hSW; go_simp; try with_reducible rfl
  · simp only [List.set_cons_succ, List.set_cons_zero]; rfl
  refine call_at 4 rfl (by kernel_rfl) (by rfl) (fun K hK => ?_)
  go_simp
  refine (rblankN_in (w := u21) hS HK hn1 hn2).mono ?_
  rintro e u22 ⟨A22, c22, n22, rfl, en22, q22, kb22⟩
  have EN22 := Lib.hid en22
  have cv22 := conv_in (c1 := c22) q22 en22
  clear hS en22
  refine hK.out _ _ (by exact kb22) (fun hS => ?_)
  clear hK K
  refine held_mono (S2 := fun W => Below u22.heap.size u22 W) (fun W hW => kb22.trans (hW.mono kb22.size)) _ _ _ _ ?_
  replace hS : Below u22.heap.size u22 u22 := Below.refl _ _
  replace k1 := k1.below kb22
  replace k2 := k2.below kb22
  replace k3 := k3.below kb22
  replace k4 := k4.below kb22
  replace HW : Hid (Below w.heap.size w u22) := HW.out.trans (kb22.mono HW.out.size)
  refine' take_at 5 rfl (by kernel_rfl) (by kernel_rfl) (by kernel_rfl) (fun _ _ _ h => h) (by rfl) hS ?_ ?_ ?_
  rotate_left 2
  · intro W hSW; go_simp; try with_reducible rfl
  · simp only [List.set_cons_succ, List.set_cons_zero]; rfl
  refine' take_at 6 rfl (by kernel_rfl) (by kernel_rfl) (by kernel_rfl) (fun _ _ _ h => h) (by rfl) hS ?_ ?_ ?_
  rotate_left 2
  · intro W hSW; go_simp; try with_reducible rfl
  · simp only [List.set_cons_succ, List.set_cons_zero]; rfl
  refine' take_at 7 rfl (by kernel_rfl) (by kernel_rfl) (by kernel_rfl) (fun _ _ _ h => h) (by rfl) hS ?_ ?_ ?_
  rotate_left 2
  · intro W hSW; go_simp; try with_reducible rfl
  · simp only [List.set_cons_succ, List.set_cons_zero]; rfl
  refine' take_at 8 rfl (by kernel_rfl) (by kernel_rfl) (by kernel_rfl) (fun _ _ _ h => h) (by rfl) hS ?_ ?_ ?_
  rotate_left 2
  · intro W hSW; go_simp; try with_reducible rfl
  · simp only [List.set_cons_succ, List.set_cons_zero]; rfl
  refine' take_at 10 rfl (by kernel_rfl) (by kernel_rfl) (by kernel_rfl) (fun _ _ _ h => h) (by rfl) hS ?_ ?_ ?_
  rotate_left 2
  · intro W hSW; go_simp; try with_reducible rfl
  · simp only [List.set_cons_succ, List.set_cons_zero]; rfl
  refine call_at 9 rfl (by kernel_rfl) (by rfl) (fun K hK => ?_)
  go_simp
  refine (isBlank_in (w := u22) hS Z1 (k1.below hS) rfl (by omega)).mono ?_
  rintro e u23 ⟨rfl, kb23⟩
  clear hS
  refine hK.out _ _ (by exact kb23) (fun hS => ?_)
  clear hK K
  refine call_at 11 rfl (by kernel_rfl) (by rfl) (fun K hK => ?_)
  go_simp
  refine (risBlank_in (w := u22) hS Z1 (k1.below hS) rfl (by omega)).mono ?_
  rintro e u24 ⟨rfl, kb24⟩
  clear hS
  refine hK.out _ _ (by exact kb24) (fun hS => ?_)
  clear hK K
  refine' take_at 12 rfl (by kernel_rfl) (by kernel_rfl) (by kernel_rfl) (fun _ _ _ h => h) (by rfl) hS ?_ ?_ ?_
  rotate_left 2
  · intro W hSW; go_simp; try with_reducible rfl
  · simp only [List.set_cons_succ, List.set_cons_zero]; rfl
  refine' take_at 13 rfl (by kernel_rfl) (by kernel_rfl) (by kernel_rfl) (fun _ _ _ h => h) (by rfl) hS ?_ ?_ ?_
  rotate_left 2
  · intro W hSW; go_simp; try with_reducible rfl
  · simp only [List.set_cons_succ, List.set_cons_zero]; rfl
  refine' take_at 14 rfl (by kernel_rfl) (by kernel_rfl) (by kernel_rfl) (fun _ _ _ h => h) (by rfl) hS ?_ ?_ ?_
  rotate_left 2
  · intro W hSW; go_simp; try with_reducible rfl
  · simp only [List.set_cons_succ, List.set_cons_zero]; rfl
  refine' take_at 15 rfl (by kernel_rfl) (by kernel_rfl) (by kernel_rfl) (fun _ _ _ h => h) (by rfl) hS ?_ ?_ ?_
  rotate_left 2
  · intro W hSW; go_simp; try with_reducible rfl
  · simp only [List.set_cons_succ, List.set_cons_zero]; rfl
  refine' take_at 16 rfl (by kernel_rfl) (by kernel_rfl) (by kernel_rfl) (fun _ _ _ h => h) (by rfl) hS ?_ ?_ ?_
  rotate_left 2
  · intro W hSW; go_simp; try with_reducible rfl
  · simp only [List.set_cons_succ, List.set_cons_zero]; rfl
  refine' take_at 18 rfl (by kernel_rfl) (by kernel_rfl) (by kernel_rfl) (fun _ _ _ h => h) (by rfl) hS ?_ ?_ ?_
  rotate_left 2
  · intro W hSW; go_simp; try with_reducible rfl
  · simp only [List.set_cons_succ, List.set_cons_zero]; rfl
  refine' take_at 19 rfl (by kernel_rfl) (by kernel_rfl) (by kernel_rfl) (fun _ _ _ h => h) (by rfl) hS ?_ ?_ ?_
  rotate_left 2
  · intro W hSW; go_simp; try with_reducible rfl
  · simp only [List.set_cons_succ, List.set_cons_zero]; rfl
  refine call_at 17 rfl (by kernel_rfl) (by rfl) (fun K hK => ?_)
  go_simp
  refine (can_in (w := u22) hS Z2 (k1.below hS) (k2.below hS) rfl rfl (by omega)).mono ?_
  rintro e u25 ⟨rfl, kb25⟩
  clear hS
  refine hK.out _ _ (by exact kb25) (fun hS => ?_)
  clear hK K
  refine call_at 20 rfl (by kernel_rfl) (by rfl) (fun K hK => ?_)
  go_simp
  refine (rcan_in (w := u22) hS Z2 (k1.below hS) (k2.below hS) rfl rfl (by omega)).mono ?_
  rintro e u26 ⟨rfl, kb26⟩
  clear hS
  refine hK.out _ _ (by exact kb26) (fun hS => ?_)
  clear hK K
  refine' take_at 21 rfl (by kernel_rfl) (by kernel_rfl) (by kernel_rfl) (fun _ _ _ h => h) (by rfl) hS ?_ ?_ ?_
  rotate_left 2
  · intro W hSW; go_simp; try with_reducible rfl
  · simp only [List.set_cons_succ, List.set_cons_zero]; rfl
  refine' take_at 22 rfl (by kernel_rfl) (by kernel_rfl) (by kernel_rfl) (fun _ _ _ h => h) (by rfl) hS ?_ ?_ ?_
  rotate_left 2
  · intro W hSW; go_simp; try with_reducible rfl
  · simp only [List.set_cons_succ, List.set_cons_zero]; rfl
  refine' take_at 23 rfl (by kernel_rfl) (by kernel_rfl) (by kernel_rfl) (fun _ _ _ h => h) (by rfl) hS ?_ ?_ ?_
  rotate_left 2
  · intro W hSW; go_simp; try with_reducible rfl
  · simp only [List.set_cons_succ, List.set_cons_zero]; rfl
  refine' take_at 24 rfl (by kernel_rfl) (by kernel_rfl) (by kernel_rfl) (fun _ _ _ h => h) (by rfl) hS ?_ ?_ ?_
  rotate_left 2
  · intro W hSW; go_simp; try with_reducible rfl
  · simp only [List.set_cons_succ, List.set_cons_zero]; rfl
  refine' take_at 25 rfl (by kernel_rfl) (by kernel_rfl) (by kernel_rfl) (fun _ _ _ h => h) (by rfl) hS ?_ ?_ ?_
  rotate_left 2
  · intro W hSW; go_simp; try with_reducible rfl
  · simp only [List.set_cons_succ, List.set_cons_zero]; rfl
  refine' take_at 28 rfl (by kernel_rfl) (by kernel_rfl) (by kernel_rfl) (fun _ _ _ h => h) (by rfl) hS ?_ ?_ ?_
  rotate_left 2
  · intro W hSW; go_simp; try with_reducible rfl
  · simp only [List.set_cons_succ, List.set_cons_zero]; rfl
  refine' take_at 29 rfl (by kernel_rfl) (by kernel_rfl) (by kernel_rfl) (fun _ _ _ h => h) (by rfl) hS ?_ ?_ ?_
  rotate_left 2
  · intro W hSW; go_simp; try with_reducible rfl
  · simp only [List.set_cons_succ, List.set_cons_zero]; rfl
  refine call_at 26 rfl (by kernel_rfl) (by rfl) (fun K hK => ?_)
  go_simp
  refine (program_r (w := u22) hS R1 (k1.below hS) (k2.below hS) rfl rfl (by omega) (by omega)).mono ?_
  rintro e u27 ⟨A27, c27, n27, rfl, en27, q27, kb27⟩
  have EN27 := Lib.hid en27
  have cv27 := conv_in (c1 := c27) q27 en27
  clear hS en27
  refine hK.out _ _ (by exact kb27) (fun hS => ?_)
  clear hK K
  refine held_mono (S2 := fun W => Below u27.heap.size u27 W) (fun W hW => kb27.trans (hW.mono kb27.size)) _ _ _ _ ?_
  replace hS : Below u27.heap.size u27 u27 := Below.refl _ _
  replace k1 := k1.below kb27
  replace k2 := k2.below kb27
  replace k3 := k3.below kb27
  replace k4 := k4.below kb27
  replace HW : Hid (Below w.heap.size w u27) := HW.out.trans (kb27.mono HW.out.size)
  refine' take_at 27 rfl (by kernel_rfl) (by kernel_rfl) (by kernel_rfl) (fun _ _ _ h => h) (by rfl) hS ?_ ?_ ?_
  rotate_left 2
  · intro W hSW; go_simp; try with_reducible rfl
  · simp only [List.set_cons_succ, List.set_cons_zero]; rfl
  refine call_at 30 rfl (by kernel_rfl) (by rfl) (fun K hK => ?_)
  go_simp
  refine (rprogram_r (w := u27) hS R1 (k1.below hS) (k2.below hS) rfl rfl (by omega) (by omega)).mono ?_
  rintro e u28 ⟨A28, c28, n28, rfl, en28, q28, kb28⟩
  have EN28 := Lib.hid en28
  have cv28 := conv_in (c1 := c28) q28 en28
  clear hS en28
  refine hK.out _ _ (by exact kb28) (fun hS => ?_)
  clear hK K
  refine held_mono (S2 := fun W => Below u28.heap.size u28 W) (fun W hW => kb28.trans (hW.mono kb28.size)) _ _ _ _ ?_
  replace hS : Below u28.heap.size u28 u28 := Below.refl _ _
  replace k1 := k1.below kb28
  replace k2 := k2.below kb28
  replace k3 := k3.below kb28
  replace k4 := k4.below kb28
  replace HW : Hid (Below w.heap.size w u28) := HW.out.trans (kb28.mono HW.out.size)
  refine' take_at 31 rfl (by kernel_rfl) (by kernel_rfl) (by kernel_rfl) (fun _ _ _ h => h) (by rfl) hS ?_ ?_ ?_
  rotate_left 2
  · intro W hSW; go_simp; try with_reducible rfl
  · simp only [List.set_cons_succ, List.set_cons_zero]; rfl
  refine' take_at 32 rfl (by kernel_rfl) (by kernel_rfl) (by kernel_rfl) (fun _ _ _ h => h) (by rfl) hS ?_ ?_ ?_
  rotate_left 2
  · intro W hSW; go_simp; try with_reducible rfl
  · simp only [List.set_cons_succ, List.set_cons_zero]; rfl
  refine' take_at 33 rfl (by kernel_rfl) (by kernel_rfl) (by kernel_rfl) (fun _ _ _ h => h) (by rfl) hS ?_ ?_ ?_
  rotate_left 2
  · intro W hSW; go_simp; try with_reducible rfl
  · simp only [List.set_cons_succ, List.set_cons_zero]; rfl
  refine' take_at 34 rfl (by kernel_rfl) (by kernel_rfl) (by kernel_rfl) (fun _ _ _ h => h) (by rfl) hS ?_ ?_ ?_
  rotate_left 2
  · intro W hSW; go_simp; try with_reducible rfl
  · simp only [List.set_cons_succ, List.set_cons_zero]; rfl
  refine' take_at 35 rfl (by kernel_rfl) (by kernel_rfl) (by kernel_rfl) (fun _ _ _ h => h) (by rfl) hS ?_ ?_ ?_
  rotate_left 2
  · intro W hSW; go_simp; try with_reducible rfl
  · simp only [List.set_cons_succ, List.set_cons_zero]; rfl
  refine' take_at 36 rfl (by kernel_rfl) (by kernel_rfl) (by kernel_rfl) (fun _ _ _ h => h) (by rfl) hS ?_ ?_ ?_
  rotate_left 2
  · intro W hSW; go_simp; try with_reducible rfl
  · simp only [List.set_cons_succ, List.set_cons_zero]; rfl
  refine' take_at 37 rfl (by kernel_rfl) (by kernel_rfl) (by kernel_rfl) (fun _ _ _ h => h) (by rfl) hS ?_ ?_ ?_
  rotate_left 2
  · intro W hSW; go_simp; try with_reducible rfl
  · simp only [List.set_cons_succ, List.set_cons_zero]; rfl
  refine' take_at 40 rfl (by kernel_rfl) (by kernel_rfl) (by kernel_rfl) (fun _ _ _ h => h) (by rfl) hS ?_ ?_ ?_
  rotate_left 2
  · intro W hSW; go_simp; try with_reducible rfl
  · simp only [List.set_cons_succ, List.set_cons_zero]; rfl
  refine' take_at 41 rfl (by kernel_rfl) (by kernel_rfl) (by kernel_rfl) (fun _ _ _ h => h) (by rfl) hS ?_ ?_ ?_
  rotate_left 2
  · intro W hSW; go_simp; try with_reducible rfl
  · simp only [List.set_cons_succ, List.set_cons_zero]; rfl
  refine' take_at 42 rfl (by kernel_rfl) (by kernel_rfl) (by kernel_rfl) (fun _ _ _ h => h) (by rfl) hS ?_ ?_ ?_
  rotate_left 2
  · intro W hSW; go_simp; try with_reducible rfl
  · simp only [List.set_cons_succ, List.set_cons_zero]; rfl
  refine call_at 38 rfl (by kernel_rfl) (by rfl) (fun K hK => ?_)
  go_simp
  refine (torn_r (w := u28) hS R2 (k1.below hS) (k2.below hS) (k3.below hS) rfl rfl rfl (by omega) (by omega) (by omega)).mono ?_
  rintro e u29 ⟨A29, c29, n29, rfl, en29, q29, kb29⟩
  have EN29 := Lib.hid en29
  have cv29 := conv_in (c1 := c29) q29 en29
  clear hS en29
  refine hK.out _ _ (by exact kb29) (fun hS => ?_)
  clear hK K
  refine held_mono (S2 := fun W => Below u29.heap.size u29 W) (fun W hW => kb29.trans (hW.mono kb29.size)) _ _ _ _ ?_
  replace hS : Below u29.heap.size u29 u29 := Below.refl _ _
  replace k1 := k1.below kb29
  replace k2 := k2.below kb29
  replace k3 := k3.below kb29
  replace k4 := k4.below kb29
  replace HW : Hid (Below w.heap.size w u29) := HW.out.trans (kb29.mono HW.out.size)
  refine' take_at 39 rfl (by kernel_rfl) (by kernel_rfl) (by kernel_rfl) (fun _ _ _ h => h) (by rfl) hS ?_ ?_ ?_
  rotate_left 2
  · intro W hSW; go_simp; try with_reducible rfl
  · simp only [List.set_cons_succ, List.set_cons_zero]; rfl
  refine call_at 43 rfl (by kernel_rfl) (by rfl) (fun K hK => ?_)
  go_simp
  refine (rtorn_r (w := u29) hS R2 (k1.below hS) (k2.below hS) (k3.below hS) rfl rfl rfl (by omega) (by omega) (by omega)).mono ?_
  rintro e u30 ⟨A30, c30, n30, rfl, en30, q30, kb30⟩
  have EN30 := Lib.hid en30
  have cv30 := conv_in (c1 := c30) q30 en30
  clear hS en30
  refine hK.out _ _ (by exact kb30) (fun hS => ?_)
  clear hK K
  refine held_mono (S2 := fun W => Below u30.heap.size u30 W) (fun W hW => kb30.trans (hW.mono kb30.size)) _ _ _ _ ?_
  replace hS : Below u30.heap.size u30 u30 := Below.refl _ _
  replace k1 := k1.below kb30
  replace k2 := k2.below kb30
  replace k3 := k3.below kb30
  replace k4 := k4.below kb30
  replace HW : Hid (Below w.heap.size w u30) := HW.out.trans (kb30.mono HW.out.size)
  refine' take_at 44 rfl (by kernel_rfl) (by kernel_rfl) (by kernel_rfl) (fun _ _ _ h => h) (by rfl) hS ?_ ?_ ?_
  rotate_left 2
  · intro W hSW; go_simp; try with_reducible rfl
  · simp only [List.set_cons_succ, List.set_cons_zero]; rfl
  refine' take_at 45 rfl (by kernel_rfl) (by kernel_rfl) (by kernel_rfl) (fun _ _ _ h => h) (by rfl) hS ?_ ?_ ?_
  rotate_left 2
  · intro W hSW; go_simp; try with_reducible rfl
  · simp only [List.set_cons_succ, List.set_cons_zero]; rfl
  refine' take_at 46 rfl (by kernel_rfl) (by kernel_rfl) (by kernel_rfl) (fun _ _ _ h => h) (by rfl) hS ?_ ?_ ?_
  rotate_left 2
  · intro W hSW; go_simp; try with_reducible rfl
  · simp only [List.set_cons_succ, List.set_cons_zero]; rfl
  refine' take_at 47 rfl (by kernel_rfl) (by kernel_rfl) (by kernel_rfl) (fun _ _ _ h => h) (by rfl) hS ?_ ?_ ?_
  rotate_left 2
  · intro W hSW; go_simp; try with_reducible rfl
  · simp only [List.set_cons_succ, List.set_cons_zero]; rfl
  refine' take_at 48 rfl (by kernel_rfl) (by kernel_rfl) (by kernel_rfl) (fun _ _ _ h => h) (by rfl) hS ?_ ?_ ?_
  rotate_left 2
  · intro W hSW; go_simp; try with_reducible rfl
  · simp only [List.set_cons_succ, List.set_cons_zero]; rfl
  refine' take_at 49 rfl (by kernel_rfl) (by kernel_rfl) (by kernel_rfl) (fun _ _ _ h => h) (by rfl) hS ?_ ?_ ?_
  rotate_left 2
  · intro W hSW; go_simp; try with_reducible rfl
  · simp only [List.set_cons_succ, List.set_cons_zero]; rfl
  refine' take_at 50 rfl (by kernel_rfl) (by kernel_rfl) (by kernel_rfl) (fun _ _ _ h => h) (by rfl) hS ?_ ?_ ?_
  rotate_left 2
  · intro W hSW; go_simp; try with_reducible rfl
  · simp only [List.set_cons_succ, List.set_cons_zero]; rfl
  refine' take_at 52 rfl (by kernel_rfl) (by kernel_rfl) (by kernel_rfl) (fun _ _ _ h => h) (by rfl) hS ?_ ?_ ?_
  rotate_left 2
  · intro W hSW; go_simp; try with_reducible rfl
  · simp only [List.set_cons_succ, List.set_cons_zero]; rfl
  refine' take_at 53 rfl (by kernel_rfl) (by kernel_rfl) (by kernel_rfl) (fun _ _ _ h => h) (by rfl) hS ?_ ?_ ?_
  rotate_left 2
  · intro W hSW; go_simp; try with_reducible rfl
  · simp only [List.set_cons_succ, List.set_cons_zero]; rfl
  refine' take_at 54 rfl (by kernel_rfl) (by kernel_rfl) (by kernel_rfl) (fun _ _ _ h => h) (by rfl) hS ?_ ?_ ?_
  rotate_left 2
  · intro W hSW; go_simp; try with_reducible rfl
  · simp only [List.set_cons_succ, List.set_cons_zero]; rfl
  refine call_at 51 rfl (by kernel_rfl) (by rfl) (fun K hK => ?_)
  go_simp
  refine (between_in (w := u30) hS Z3 (k1.below hS) (k2.below hS) (k4.below hS) rfl rfl rfl (by omega) (by omega)).mono ?_
  rintro e u31 ⟨rfl, kb31⟩
  clear hS
  refine hK.out _ _ (by exact kb31) (fun hS => ?_)
  clear hK K
  refine call_at 55 rfl (by kernel_rfl) (by rfl) (fun K hK => ?_)
  go_simp
  refine (rbetween_in (w := u30) hS Z3 (k1.below hS) (k2.below hS) (k4.below hS) rfl rfl rfl (by omega) (by omega)).mono ?_
  rintro e u32 ⟨rfl, kb32⟩
  clear hS
  refine hK.out _ _ (by exact kb32) (fun hS => ?_)
  clear hK K
  refine' take_at 56 rfl (by kernel_rfl) (by kernel_rfl) (by kernel_rfl) (fun _ _ _ h => h) (by rfl) hS ?_ ?_ ?_
  rotate_left 2
  · intro W hSW; go_simp; try with_reducible rfl
  · simp only [List.set_cons_succ, List.set_cons_zero]; rfl
  refine' take_at 57 rfl (by kernel_rfl) (by kernel_rfl) (by kernel_rfl) (fun _ _ _ h => h) (by rfl) hS ?_ ?_ ?_
  rotate_left 2
  · intro W hSW; go_simp; try with_reducible rfl
  · simp only [List.set_cons_succ, List.set_cons_zero]; rfl
  refine' take_at 58 rfl (by kernel_rfl) (by kernel_rfl) (by kernel_rfl) (fun _ _ _ h => h) (by rfl) hS ?_ ?_ ?_
  rotate_left 2
  · intro W hSW; go_simp; try with_reducible rfl
  · simp only [List.set_cons_succ, List.set_cons_zero]; rfl
  refine' take_at 59 rfl (by kernel_rfl) (by kernel_rfl) (by kernel_rfl) (fun _ _ _ h => h) (by rfl) hS ?_ ?_ ?_
  rotate_left 2
  · intro W hSW; go_simp; try with_reducible rfl
  · simp only [List.set_cons_succ, List.set_cons_zero]; rfl
  refine' take_at 60 rfl (by kernel_rfl) (by kernel_rfl) (by kernel_rfl) (fun _ _ _ h => h) (by rfl) hS ?_ ?_ ?_
  rotate_left 2
  · intro W hSW; go_simp; try with_reducible rfl
  · simp only [List.set_cons_succ, List.set_cons_zero]; rfl
  refine' take_at 63 rfl (by kernel_rfl) (by kernel_rfl) (by kernel_rfl) (fun _ _ _ h => h) (by rfl) hS ?_ ?_ ?_
  rotate_left 2
  · intro W hSW; go_simp; try with_reducible rfl
  · simp only [List.set_cons_succ, List.set_cons_zero]; rfl
  refine' take_at 64 rfl (by kernel_rfl) (by kernel_rfl) (by kernel_rfl) (fun _ _ _ h => h) (by rfl) hS ?_ ?_ ?_
  rotate_left 2
  · intro W hSW; go_simp; try with_reducible rfl
  · simp only [List.set_cons_succ, List.set_cons_zero]; rfl
  refine call_at 61 rfl (by kernel_rfl) (by rfl) (fun K hK => ?_)
  go_simp
  refine (half_in (w := u30) hS (k1.below hS) (k3.below hS) rfl rfl (by omega) (by omega)).mono ?_
  rintro e u33 ⟨A33, c33, n33, rfl, en33, q33, kb33⟩
  have EN33 := Lib.hid en33
  have cv33 := conv_in (c1 := c33) q33 en33
  clear hS en33
  refine hK.out _ _ (by exact kb33) (fun hS => ?_)
  clear hK K
  refine held_mono (S2 := fun W => Below u33.heap.size u33 W) (fun W hW => kb33.trans (hW.mono kb33.size)) _ _ _ _ ?_
  replace hS : Below u33.heap.size u33 u33 := Below.refl _ _
  replace k1 := k1.below kb33
  replace k2 := k2.below kb33
  replace k3 := k3.below kb33
  replace k4 := k4.below kb33
  replace HW : Hid (Below w.heap.size w u33) := HW.out.trans (kb33.mono HW.out.size)
  refine' take_at 62 rfl (by kernel_rfl) (by kernel_rfl) (by kernel_rfl) (fun _ _ _ h => h) (by rfl) hS ?_ ?_ ?_
  rotate_left 2
  · intro W hSW; go_simp; try with_reducible rfl
  · simp only [List.set_cons_succ, List.set_cons_zero]; rfl
  refine call_at 65 rfl (by kernel_rfl) (by rfl) (fun K hK => ?_)
  go_simp
  refine (rhalf_in (w := u33) hS (k1.below hS) (k3.below hS) rfl rfl (by omega) (by omega)).mono ?_
  rintro e u34 ⟨A34, c34, n34, rfl, en34, q34, kb34⟩
  have EN34 := Lib.hid en34
  have cv34 := conv_in (c1 := c34) q34 en34
  clear hS en34
  refine hK.out _ _ (by exact kb34) (fun hS => ?_)
  clear hK K
  refine held_mono (S2 := fun W => Below u34.heap.size u34 W) (fun W hW => kb34.trans (hW.mono kb34.size)) _ _ _ _ ?_
  replace hS : Below u34.heap.size u34 u34 := Below.refl _ _
  replace k1 := k1.below kb34
  replace k2 := k2.below kb34
  replace k3 := k3.below kb34
  replace k4 := k4.below kb34
  replace HW : Hid (Below w.heap.size w u34) := HW.out.trans (kb34.mono HW.out.size)
  refine' take_at 66 rfl (by kernel_rfl) (by kernel_rfl) (by kernel_rfl) (fun _ _ _ h => h) (by rfl) hS ?_ ?_ ?_
  rotate_left 2
  · intro W hSW; go_simp; try with_reducible rfl
  · simp only [List.set_cons_succ, List.set_cons_zero]; rfl
  refine' take_at 67 rfl (by kernel_rfl) (by kernel_rfl) (by kernel_rfl) (fun _ _ _ h => h) (by rfl) hS ?_ ?_ ?_
  rotate_left 2
  · intro W hSW; go_simp; try with_reducible rfl
  · simp only [List.set_cons_succ, List.set_cons_zero]; rfl
  refine' take_at 68 rfl (by kernel_rfl) (by kernel_rfl) (by kernel_rfl) (fun _ _ _ h => h) (by rfl) hS ?_ ?_ ?_
  rotate_left 2
  · intro W hSW; go_simp; try with_reducible rfl
  · simp only [List.set_cons_succ, List.set_cons_zero]; rfl
  refine' take_at 69 rfl (by kernel_rfl) (by kernel_rfl) (by kernel_rfl) (fun _ _ _ h => h) (by rfl) hS ?_ ?_ ?_
  rotate_left 2
  · intro W hSW; go_simp; try with_reducible rfl
  · simp only [List.set_cons_succ, List.set_cons_zero]; rfl
  refine' take_at 70 rfl (by kernel_rfl) (by kernel_rfl) (by kernel_rfl) (fun _ _ _ h => h) (by rfl) hS ?_ ?_ ?_
  rotate_left 2
  · intro W hSW; go_simp; try with_reducible rfl
  · simp only [List.set_cons_succ, List.set_cons_zero]; rfl
  refine' take_at 71 rfl (by kernel_rfl) (by kernel_rfl) (by kernel_rfl) (fun _ _ _ h => h) (by rfl) hS ?_ ?_ ?_
  rotate_left 2
  · intro W hSW; go_simp; try with_reducible rfl
  · simp only [List.set_cons_succ, List.set_cons_zero]; rfl
  refine' take_at 73 rfl (by kernel_rfl) (by kernel_rfl) (by kernel_rfl) (fun _ _ _ h => h) (by rfl) hS ?_ ?_ ?_
  rotate_left 2
  · intro W hSW; go_simp; try with_reducible rfl
  · simp only [List.set_cons_succ, List.set_cons_zero]; rfl
  refine' take_at 74 rfl (by kernel_rfl) (by kernel_rfl) (by kernel_rfl) (fun _ _ _ h => h) (by rfl) hS ?_ ?_ ?_
  rotate_left 2
  · intro W hSW; go_simp; try with_reducible rfl
  · simp only [List.set_cons_succ, List.set_cons_zero]; rfl
  refine call_at 72 rfl (by kernel_rfl) (by rfl) (fun K hK => ?_)
  go_simp
  refine (risen_in (w := u34) hS Z4 (k1.below hS) (k4.below hS) rfl rfl (by omega)).mono ?_
  rintro e u35 ⟨rfl, kb35⟩
  clear hS
  refine hK.out _ _ (by exact kb35) (fun hS => ?_)
  clear hK K
  refine call_at 75 rfl (by kernel_rfl) (by rfl) (fun K hK => ?_)
  go_simp
  refine (rrisen_in (w := u34) hS Z4 (k1.below hS) (k4.below hS) rfl rfl (by omega)).mono ?_
  rintro e u36 ⟨rfl, kb36⟩
  clear hS
  refine hK.out _ _ (by exact kb36) (fun hS => ?_)
  clear hK K
  refine' take_at 76 rfl (by kernel_rfl) (by kernel_rfl) (by kernel_rfl) (fun _ _ _ h => h) (by rfl) hS ?_ ?_ ?_
  rotate_left 2
  · intro W hSW; go_simp; try with_reducible rfl
  · simp only [List.set_cons_succ, List.set_cons_zero]; rfl
  refine' take_at 77 rfl (by kernel_rfl) (by kernel_rfl) (by kernel_rfl) (fun _ _ _ h => h) (by rfl) hS ?_ ?_ ?_
  rotate_left 2
  · intro W hSW; go_simp; try with_reducible rfl
  · simp only [List.set_cons_succ, List.set_cons_zero]; rfl
  refine' take_at 78 rfl (by kernel_rfl) (by kernel_rfl) (by kernel_rfl) (fun _ _ _ h => h) (by rfl) hS ?_ ?_ ?_
  rotate_left 2
  · intro W hSW; go_simp; try with_reducible rfl
  · simp only [List.set_cons_succ, List.set_cons_zero]; rfl
  refine wpAnyH_done (by kernel_rfl) ?_ _
  refine NoPanic.normal ?_
  go_wp2_with fail
  go_ret
  exact ⟨rfl, HW.out.trans (hS.mono HW.out.size)⟩

theorem tells_long (A1 A2 A3 A4 : Option Addr) (l m p s : List UInt8) (c1 c2 c3 c4 : Nat) (n : Int) (w : World) (hs : l.length ≤ 400 ∧ m.length ≤ 400 ∧ p.length ≤ 400) (s4 : ¬ s.length ≤ 400) :
    Calls Try.prog 3 #[.slice A1 l.length c1, .slice A2 m.length c2, .slice A3 p.length c3, .slice A4 s.length c4, .int .i64 n] w (LawPost w) := by
  have hs4 : (400 : Int) < (s.length : Int) := by omega
  go_enter Try.func3, Try.ntmps3
  go_wp2_with fail
  refine (alive_any _).mono ?_
  rintro e w1 ⟨rfl, hb⟩
  go_wp2_with fail
  refine (short_yes hs.1 hs.2.1 hs.2.2).mono ?_
  rintro e w2 ⟨rfl, rfl⟩
  go_wp2_with fail
  go_ret
  exact ⟨rfl, hb⟩

theorem tells_no (A1 A2 A3 A4 : Option Addr) (l m p s : List UInt8) (c1 c2 c3 c4 : Nat) (n : Int) (w : World) (hs : ¬ (l.length ≤ 400 ∧ m.length ≤ 400 ∧ p.length ≤ 400)) :
    Calls Try.prog 3 #[.slice A1 l.length c1, .slice A2 m.length c2, .slice A3 p.length c3, .slice A4 s.length c4, .int .i64 n] w (LawPost w) := by
  go_enter Try.func3, Try.ntmps3
  go_wp2_with fail
  refine (alive_any _).mono ?_
  rintro e w1 ⟨rfl, hb⟩
  go_wp2_with fail
  refine (short_no hs).mono ?_
  rintro e w2 ⟨rfl, rfl⟩
  go_wp2_with fail
  go_ret
  exact ⟨rfl, hb⟩

theorem tells_walk (A1 A2 A3 A4 : Option Addr) (l m p s : List UInt8) (c1 c2 c3 c4 : Nat) (n : Int) (w : World) (h1 : Bs w A1 l) (h2 : Bs w A2 m) (h3 : Bs w A3 p) (h4 : Bs w A4 s) (hn : (Lit.int .i64 n).wf = true) :
    Calls Try.prog 3 #[.slice A1 l.length c1, .slice A2 m.length c2, .slice A3 p.length c3, .slice A4 s.length c4, .int .i64 n] w (LawPost w) := by
  have hbd : -9223372036854775808 ≤ n ∧ n ≤ 9223372036854775807 := by simpa [Lit.wf, IntKind.min, IntKind.max, IntKind.signed, IntKind.bits] using hn
  by_cases hs : l.length ≤ 400 ∧ m.length ≤ 400 ∧ p.length ≤ 400
  · by_cases s4 : s.length ≤ 400
    · exact tells_yes A1 A2 A3 A4 l m p s c1 c2 c3 c4 n w h1 h2 h3 h4 hs.1 hs.2.1 hs.2.2 s4 hbd.1 hbd.2
    · exact tells_long A1 A2 A3 A4 l m p s c1 c2 c3 c4 n w hs s4
  · exact tells_no A1 A2 A3 A4 l m p s c1 c2 c3 c4 n w hs
end Go.Proofs.Ytlbododoooibbaa
