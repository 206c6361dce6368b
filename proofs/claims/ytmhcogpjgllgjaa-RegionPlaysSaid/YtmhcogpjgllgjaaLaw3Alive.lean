/- The contract of bootjacklaw3.alive. Written by wip/tools/mk_alive3.py. -/
import Derived.Test.YtmhcogpjgllgjaaLaw3None
import Derived.Test.YtmhcogpjgllgjaaGbase
namespace Go.Proofs.Ytmhcogpjgllgjaa
open Go.RowKit
set_option linter.unusedVariables false

theorem alive3_math (b : List UInt8) (wn : List Int) (hb : b.length = 5120) (hw : wn.length = 5) (hw0 : ∀ x ∈ wn, x = 0) (hb0 : ∀ i, i < 5120 → b.getD i 0 = 255) (z : List UInt8) (hz : z = List.replicate 8 0) :
    DlOk ⟨b, wn, 0, false, false, 0, []⟩ ∧ ∃ d1 : Dl, dgProg ⟨b, wn, 0, false, false, 0, []⟩ 2 3 0 z = (0, d1) ∧ d1.b.length = 5120 ∧ peekOf d1 2048 8 = z := by
  have ok0 : DlOk ⟨b, wn, 0, false, false, 0, []⟩ := ⟨by simp [hb, hw], by simp [hw], fun x hx => by have := hw0 x hx; omega, by simp, by simp, by simp, by simp, by simp⟩
  have hzl : z.length = 8 := by rw [hz]; simp
  refine ⟨ok0, ⟨laid b 2048 z, wn, 1, false, false, 0, []⟩, ?_, by simp [laid_len, hb], ?_⟩
  · unfold dgProg
    rw [if_neg (by simp), if_pos (by rw [hzl]; omega)]
    unfold dprogOf
    rw [if_neg (by simp), if_neg (by simp [hb, hzl]), if_neg (by simp [hzl]), if_neg]
    · rw [hzl]
      show dprogTo _ 2048 z 1 = _
      have hc : cut z 0 8 = z := by rw [← hzl]; exact cut_self z
      rw [dprogTo, if_pos (show (dprogTo ⟨b, wn, 0, false, false, 0, []⟩ 2048 z 0).1 = 0 from rfl)]
      show dwordOf _ _ (cut z 0 8) = _
      rw [hc]
      rfl
    · rw [Bool.not_eq_false]
      refine canB_true (by rw [cut_len (by simp [hb, hzl])]) fun i hi => ?_
      rw [cut_len (by simp [hb, hzl]), hzl] at hi
      rw [hz, getD_rep _ _ _ hi]
      simp
  · have hl : (laid b 2048 z).length = 5120 := by rw [laid_len, hb]
    have e : peekOf ⟨laid b 2048 z, wn, 1, false, false, 0, []⟩ 2048 8 = cut (laid b 2048 z) 2048 8 := by
      unfold peekOf
      rw [if_pos (by simp [hl])]
      rfl
    rw [e]
    clear e
    refine list_ext_getD ?_ fun i hi => ?_
    · rw [cut_len (by omega), hzl]
    · rw [cut_len (by omega)] at hi
      rw [cut_get hi, laid_get (by omega), if_pos (by omega), Nat.add_sub_cancel_left]

set_option maxRecDepth 100000 in
set_option maxHeartbeats 1600000 in
theorem alive3_any (w : World) : Calls Try.prog 7 #[] w fun e w' => e = .returned (.bool true) ∧ Below w.heap.size w w' := by
  have HN : Hid (Calls Try.prog 9 #[.int .i64 5] w (DNewPost w 5)) := Lib.hid (dnew_any 5 5 w (by show (if (5 : Int) < 1 then 1 else if 256 < (5 : Int) then 256 else 5) = ((5 : Nat) : Int); decide) (by omega) (by omega))
  have mk : ∀ u : World, (Instr.makeSlice 41 (.int .i64 8) (.int .i64 8)).run Try.prog u = _ := fun u => make_bytes 8 (by omega) u
  go_enter Try.func7, Try.ntmps7
  go_wp2_with (go_at_call 9; refine HN.out.mono ?_; rintro e w1 ⟨g, gB, gW, cB, cW, rfl, hf, hb, hg, hgB, hgW⟩; have HF := Lib.hid (hf 0); have HB := Lib.hid hb; clear hf hb)
  obtain ⟨z, Hz⟩ : ∃ z, Hid (z = List.replicate 8 (0 : UInt8)) := ⟨_, rfl⟩
  have hM := alive3_math (blanks 5) (List.replicate 5 0) (blanks_len 5) (by simp) (by intro x hx; simp at hx; exact hx) (fun i hi => blanks_get (by omega)) z Hz.out
  obtain ⟨bb, Hbb⟩ : ∃ bb, Hid (blanks 5 = bb) := ⟨_, rfl⟩
  obtain ⟨wn, Hwn⟩ : ∃ wn, Hid (List.replicate 5 (0 : Int) = wn) := ⟨_, rfl⟩
  rw [Hbb.out, Hwn.out] at HF hM
  obtain ⟨ok0, dd, hd1, hdl, hpk⟩ := hM
  have HD1 := Lib.hid hd1
  have Hdl := Lib.hid hdl
  have Hpk := Lib.hid hpk
  clear hd1 hdl hpk
  have HOF := Lib.hid (dof_any HF.out ok0 5 (by rw [← Hwn.out]; simp) 2 3 (by omega) (by omega) (by omega) (by omega))
  rw [show ofB 5 2 3 = true from by decide] at HOF
  go_wp2_with (go_at_call 11; refine HOF.out.mono ?_; rintro e w2 ⟨rfl, hb2⟩; have HB2 := Lib.hid hb2; clear hb2)
  have hcell := box_only w2 (.pointer (some ⟨g, 0, none⟩)) (.int .i64 2) (.int .i64 3) 30 (FlF g gB gW) (flF_old HF.out HB2.out.size)
  obtain ⟨w3, Hw3⟩ : ∃ w3, Hid (w2.alloc (.cells #[.pointer (some ⟨g, 0, none⟩), .int .i64 2, .int .i64 3] 30) = w3) := ⟨_, rfl⟩
  have hb3 : Below w2.heap.size w2 w3 := by rw [← Hw3.out]; exact (Below.refl _ _).alloc (Nat.le_refl _) _
  rw [Hw3.out] at hcell
  have L0 : ∀ W, Only (FlF g gB gW) w3 W → W.cell? ⟨w2.heap.size, 0, none⟩ = some (.pointer (some ⟨g, 0, none⟩)) := fun W hW => (hcell W hW).1
  have L1 : ∀ W, Only (FlF g gB gW) w3 W → W.cell? ⟨w2.heap.size, 1, none⟩ = some (.int .i64 2) := fun W hW => (hcell W hW).2.1
  have L2 : ∀ W, Only (FlF g gB gW) w3 W → W.cell? ⟨w2.heap.size, 2, none⟩ = some (.int .i64 3) := fun W hW => (hcell W hW).2.2
  have HF3 := Lib.hid ((HF.out.below HB2.out).below hb3)
  have HB3 := Lib.hid (below_on (below_on HB.out HB2.out) hb3)
  obtain ⟨w4, Hw4⟩ : ∃ w4, Hid ((w3.alloc (.cells (madeCells #[.int .u8 0] 8) 5)).drew = w4) := ⟨_, rfl⟩
  have hb4 : Below w3.heap.size w3 w4 := by rw [← Hw4.out]; exact ((Below.refl _ _).alloc (Nat.le_refl _) _).drew
  have hz4 : Bs w4 (some ⟨w3.heap.size, 0, none⟩) z := by rw [← Hw4.out, Hz.out]; exact (own_made w3 8 5 (by omega)).bs
  have hzl : Hid (z.length = 8) := Lib.hid (by rw [Hz.out]; simp)
  have hoff : Off (FlF g gB gW) (some ⟨w3.heap.size, 0, none⟩) z := off_new HF3.out (by rintro k ⟨a, e, rfl⟩; injection e with e; subst e; exact Nat.le_refl _)
  have HPG : Hid (Calls Try.prog 21 #[.agg #[.pointer (some ⟨g, 0, none⟩), .int .i64 2, .int .i64 3], .int .i64 0, .slice (some ⟨w3.heap.size, 0, none⟩) 8 8] w4 (DErasePost w4 g gB gW cB cW 0 (0, dd))) := Lib.hid (by
    have := dgprog_any (HF3.out.below hb4) ok0 2 3 (by omega) (by omega) 0 (by omega) (by omega) (some ⟨w3.heap.size, 0, none⟩) z 8 hz4 hoff (by rw [hzl.out]; omega) (by rw [hzl.out]; omega) (by rw [hzl.out]; simp)
    rw [hzl.out, HD1.out] at this
    exact this)
  clear hcell hb3 hb4 hz4 hoff
  go_wp2_with fail
  rw [Hw3.out]
  refine wp_region_noPanic ?_
  refine wp_region_held_drew (S := fun W => Only (FlF g gB gW) w3 W) (by kernel_rfl) (by exact (Only.refl _ _).drew) (fun hS => ?_)
  refine' take_at 0 rfl (by kernel_rfl) (by kernel_rfl) (by kernel_rfl) (fun _ _ _ h => h) (by rfl) hS ?_ ?_ ?_
  rotate_left 2
  · intro W hSW; go_simp; try with_reducible rfl
  · simp only [List.set_cons_succ, List.set_cons_zero]; rfl
  refine call_at 1 rfl (by kernel_rfl) (by rfl) (fun K hK => ?_)
  go_simp
  rw [Hw4.out]
  refine hK.out _ _ (by rw [← Hw4.out]; exact ((Only.refl _ _).alloc _).drew) (fun hS => ?_)
  clear hK K
  refine call_at 2 rfl (by kernel_rfl) (by rfl) (fun K hK => ?_)
  go_simp
  refine HPG.out.mono ?_
  rintro e w5 ⟨rfl, hd5, ho5⟩
  have kS5 := hS.trans ho5
  have HF5 := Lib.hid hd5
  clear hS hd5 ho5
  refine hK.out _ _ (by exact kS5) (fun hS => ?_)
  clear hK K
  refine' take_at 3 rfl (by kernel_rfl) (by kernel_rfl) (by kernel_rfl) (fun _ _ _ h => h) (by rfl) hS ?_ ?_ ?_
  rotate_left 2
  · intro W hSW; go_simp; try with_reducible rfl
  · simp only [List.set_cons_succ, List.set_cons_zero]; rfl
  refine wpAnyH_done (by kernel_rfl) ?_ _
  refine NoPanic.normal ?_
  have HB5 : Hid (Below w.heap.size w w5) := Lib.hid (below_fl HB3.out kS5 hg hgB hgW)
  have HPK := Lib.hid (dpeek_any HF5.out 2048 8 (by omega) (by omega) (by omega) (by omega) (by show dd.b.length ≤ _; rw [Hdl.out]; omega))
  rw [show peekOf ((0 : Int), dd).2 2048 8 = z from Hpk.out] at HPK
  go_wp2_with fail
  refine HPK.out.mono ?_
  rintro e w6 ⟨v6, rfl, ho6, hb6⟩
  obtain ⟨A6, c6, rfl, hbs6, -⟩ := ho6.form
  rw [hzl.out]
  obtain ⟨s, Hs⟩ : ∃ s, Hid (strB z = s) := ⟨_, rfl⟩
  have HB6 := Lib.hid (below_on HB5.out hb6)
  have m6 : ∀ W, Below w6.heap.size w6 W → (convert 41 9 (.slice A6 8 c6)).run Try.prog W = .ok (.string s) W := fun W hW => conv_now (hbs6.below hW) hzl.out.symm Hs.out
  have hz6 : w2.heap.size < w5.heap.size := World.block_lt_of_cell? w5 _ (L0 w5 kS5)
  have M0 : ∀ W, Below w6.heap.size w6 W → W.cell? ⟨w2.heap.size, 0, none⟩ = some (.pointer (some ⟨g, 0, none⟩)) := fun W hW => by rw [(hb6.trans (hW.mono hb6.size)).cell (p := ⟨w2.heap.size, 0, none⟩) hz6]; exact L0 w5 kS5
  have M1 : ∀ W, Below w6.heap.size w6 W → W.cell? ⟨w2.heap.size, 1, none⟩ = some (.int .i64 2) := fun W hW => by rw [(hb6.trans (hW.mono hb6.size)).cell (p := ⟨w2.heap.size, 1, none⟩) hz6]; exact L1 w5 kS5
  have M2 : ∀ W, Below w6.heap.size w6 W → W.cell? ⟨w2.heap.size, 2, none⟩ = some (.int .i64 3) := fun W hW => by rw [(hb6.trans (hW.mono hb6.size)).cell (p := ⟨w2.heap.size, 2, none⟩) hz6]; exact L2 w5 kS5
  clear ho6 hb6 hbs6 L0 L1 L2 kS5
  go_wp2_with fail
  refine wp_region_noPanic ?_
  refine wp_region_held_drew (S := fun W => Below w6.heap.size w6 W) (by kernel_rfl) (by exact (Below.refl _ _).drew) (fun hS => ?_)
  refine' take_at 0 rfl (by kernel_rfl) (by kernel_rfl) (by kernel_rfl) (fun _ _ _ h => h) (by rfl) hS ?_ ?_ ?_
  rotate_left 2
  · intro W hSW; go_simp; try with_reducible rfl
  · simp only [List.set_cons_succ, List.set_cons_zero]; rfl
  refine call_at 1 rfl (by kernel_rfl) (by rfl) (fun K hK => ?_)
  go_simp
  refine (num3_any _ _).mono ?_
  rintro e w7 ⟨rfl, rfl⟩
  refine hK.out _ _ (by assumption) (fun hS => ?_)
  clear hK K
  refine' take_at 2 rfl (by kernel_rfl) (by kernel_rfl) (by kernel_rfl) (fun _ _ _ h => h) (by rfl) hS ?_ ?_ ?_
  rotate_left 2
  · intro W hSW; go_simp; try with_reducible rfl
  · simp only [List.set_cons_succ, List.set_cons_zero]; rfl
  refine' take_at 3 rfl (by kernel_rfl) (by kernel_rfl) (by kernel_rfl) (fun _ _ _ h => h) (by rfl) hS ?_ ?_ ?_
  rotate_left 2
  · intro W hSW; go_simp; try with_reducible rfl
  · simp only [List.set_cons_succ, List.set_cons_zero]; rfl
  refine' take_at 4 rfl (by kernel_rfl) (by kernel_rfl) (by kernel_rfl) (fun _ _ _ h => h) (by rfl) hS ?_ ?_ ?_
  rotate_left 2
  · intro W hSW; go_simp; try with_reducible rfl
  · simp only [List.set_cons_succ, List.set_cons_zero]; rfl
  refine call_at 5 rfl (by kernel_rfl) (by rfl) (fun K hK => ?_)
  go_simp
  refine (num3_any _ _).mono ?_
  rintro e w7 ⟨rfl, rfl⟩
  refine hK.out _ _ (by assumption) (fun hS => ?_)
  clear hK K
  refine' take_at 6 rfl (by kernel_rfl) (by kernel_rfl) (by kernel_rfl) (fun _ _ _ h => h) (by rfl) hS ?_ ?_ ?_
  rotate_left 2
  · intro W hSW; go_simp; try with_reducible rfl
  · simp only [List.set_cons_succ, List.set_cons_zero]; rfl
  refine' take_at 7 rfl (by kernel_rfl) (by kernel_rfl) (by kernel_rfl) (fun _ _ _ h => h) (by rfl) hS ?_ ?_ ?_
  rotate_left 2
  · intro W hSW; go_simp; try with_reducible rfl
  · simp only [List.set_cons_succ, List.set_cons_zero]; rfl
  refine' take_at 8 rfl (by kernel_rfl) (by kernel_rfl) (by kernel_rfl) (fun _ _ _ h => h) (by rfl) hS ?_ ?_ ?_
  rotate_left 2
  · intro W hSW; go_simp; try with_reducible rfl
  · simp only [List.set_cons_succ, List.set_cons_zero]; rfl
  refine' take_at 9 rfl (by kernel_rfl) (by kernel_rfl) (by kernel_rfl) (fun _ _ _ h => h) (by rfl) hS ?_ ?_ ?_
  rotate_left 2
  · intro W hSW; go_simp; try with_reducible rfl
  · simp only [List.set_cons_succ, List.set_cons_zero]; rfl
  refine call_at 10 rfl (by kernel_rfl) (by rfl) (fun K hK => ?_)
  go_simp
  refine (dgsize_any _ _ 3 _ (by omega)).mono ?_
  rintro e w8 ⟨rfl, hb8⟩
  have kS8 := below_on hS hb8
  clear hS hb8
  refine hK.out _ _ (by exact kS8) (fun hS => ?_)
  clear hK K
  refine' take_at 11 rfl (by kernel_rfl) (by kernel_rfl) (by kernel_rfl) (fun _ _ _ h => h) (by rfl) hS ?_ ?_ ?_
  rotate_left 2
  · intro W hSW; go_simp; try with_reducible rfl
  · simp only [List.set_cons_succ, List.set_cons_zero]; rfl
  refine' take_at 12 rfl (by kernel_rfl) (by kernel_rfl) (by kernel_rfl) (fun _ _ _ h => h) (by rfl) hS ?_ ?_ ?_
  rotate_left 2
  · intro W hSW; go_simp; try with_reducible rfl
  · simp only [List.set_cons_succ, List.set_cons_zero]; rfl
  refine' take_at 13 rfl (by kernel_rfl) (by kernel_rfl) (by kernel_rfl) (fun _ _ _ h => h) (by rfl) hS ?_ ?_ ?_
  rotate_left 2
  · intro W hSW; go_simp; try with_reducible rfl
  · simp only [List.set_cons_succ, List.set_cons_zero]; rfl
  refine' take_at 14 rfl (by kernel_rfl) (by kernel_rfl) (by kernel_rfl) (fun _ _ _ h => h) (by rfl) hS ?_ ?_ ?_
  rotate_left 2
  · intro W hSW; go_simp; try with_reducible rfl
  · simp only [List.set_cons_succ, List.set_cons_zero]; rfl
  refine' take_at 15 rfl (by kernel_rfl) (by kernel_rfl) (by kernel_rfl) (fun _ _ _ h => h) (by rfl) hS ?_ ?_ ?_
  rotate_left 2
  · intro W hSW; go_simp; try with_reducible rfl
  · simp only [List.set_cons_succ, List.set_cons_zero]; rfl
  refine call_at 16 rfl (by kernel_rfl) (by rfl) (fun K hK => ?_)
  go_simp
  obtain ⟨w9, Hw9⟩ : ∃ w9, Hid (w8.alloc (.cells (madeCells #[.int .u8 0] 8) 5) = w9) := ⟨_, rfl⟩
  have kS9 : Below w6.heap.size w6 w9 := by rw [← Hw9.out]; exact kS8.alloc kS8.size _
  have hz9 : Bs w9 (some ⟨w8.heap.size, 0, none⟩) z := by rw [← Hw9.out, Hz.out]; exact (own_made w8 8 5 (by omega)).bs
  have m9 : ∀ W, Below w9.heap.size w9 W → (convert 41 9 (.slice (some ⟨w8.heap.size, 0, none⟩) 8 8)).run Try.prog W = .ok (.string s) W := fun W hW => conv_now (hz9.below hW) hzl.out.symm Hs.out
  clear hz9
  rw [Hw9.out]
  refine hK.out _ _ (by exact kS9) (fun hS => ?_)
  clear hK K
  refine held_mono (S2 := fun W => Below w9.heap.size w9 W) (fun W hW => kS9.trans (hW.mono kS9.size)) _ _ _ _ ?_
  replace hS : Below w9.heap.size w9 w9 := Below.refl _ _
  refine' take_at 17 rfl (by kernel_rfl) (by kernel_rfl) (by kernel_rfl) (fun _ _ _ h => h) (by rfl) hS ?_ ?_ ?_
  rotate_left 2
  · intro W hSW; go_simp; try with_reducible rfl
  · simp only [List.set_cons_succ, List.set_cons_zero]; rfl
  refine' take_at 18 rfl (by kernel_rfl) (by kernel_rfl) (by kernel_rfl) (fun _ _ _ h => h) (by rfl) hS ?_ ?_ ?_
  rotate_left 2
  · intro W hSW; go_simp; try with_reducible rfl
  · simp only [List.set_cons_succ, List.set_cons_zero]; rfl
  refine' take_at 19 rfl (by kernel_rfl) (by kernel_rfl) (by kernel_rfl) (fun _ _ _ h => h) (by rfl) hS ?_ ?_ ?_
  rotate_left 2
  · intro W hSW; go_simp; try with_reducible rfl
  · simp only [List.set_cons_succ, List.set_cons_zero]; rfl
  refine' take_at 20 rfl (by kernel_rfl) (by kernel_rfl) (by kernel_rfl) (fun _ _ _ h => h) (by rfl) hS ?_ ?_ ?_
  rotate_left 2
  · intro W hSW; go_simp; try with_reducible rfl
  · simp only [List.set_cons_zero]; rfl
  refine wpAnyH_done (by kernel_rfl) ?_ _
  refine NoPanic.normal ?_
  go_wp2_with fail
  go_ret
  exact ⟨rfl, HB6.out.trans ((kS9.trans (hS.mono kS9.size)).mono HB6.out.size)⟩
end Go.Proofs.Ytmhcogpjgllgjaa

