/- RegionParts walked. Written by wip/tools/mk_parts3.py. -/
import Derived.Test.YtmhcogpjgllgjaaLaw3Alive
import Derived.Test.YtmhcogpjgllgjaaCalm
import Derived.Test.YtmhcogpjgllgjaaGbase
namespace Go.Proofs.Ytmhcogpjgllgjaa
open Go.RowKit
set_option linter.unusedVariables false

set_option maxRecDepth 100000 in
set_option maxHeartbeats 3200000 in
theorem law3Parts_in (a c : Nat) (s n : Int) (A : Option Addr) (l : List UInt8) (k : Nat) (w : World) (hb : Bs w A l) (hk : l.length ≤ k) (ha : a ≤ 4) (hc : 1 ≤ c) (hac : a + c ≤ 5) (hl : l.length ≤ 64)
    (s1 : -9223372036854775808 ≤ s) (s2 : s ≤ 9223372036854775807) (n1 : -9223372036854775808 ≤ n) (n2 : n ≤ 9223372036854775807) :
    Calls Try.prog 5 #[.int .i64 (a : Int), .int .i64 (c : Int), .int .i64 s, .int .i64 n, .slice A l.length k] w fun e w' => e = .returned (.bool true) ∧ Below w.heap.size w w' := by
  have HN : Hid (∀ W, Calls Try.prog 9 #[.int .i64 5] W (DNewPost W 5)) := Lib.hid (fun W => dnew_any 5 5 W (by show (if (5 : Int) < 1 then 1 else if 256 < (5 : Int) then 256 else 5) = ((5 : Nat) : Int); decide) (by omega) (by omega))
  have HA := Lib.hid hb
  obtain ⟨z, Hz⟩ : ∃ z : Nat, Hid (l.length = z) := ⟨_, rfl⟩
  rw [Hz.out] at hk hl ⊢
  clear hb
  obtain ⟨fo, Hfo⟩ : ∃ fo, Hid (ofB c s n = fo) := ⟨_, rfl⟩
  obtain ⟨y, hy⟩ : ∃ y : Int, (a : Int) + s = y := ⟨_, rfl⟩
  have g1 : decide ((a : Int) < 0) = false := decide_eq_false (by omega)
  have g2 : decide (4 < (a : Int)) = false := decide_eq_false (by omega)
  have g3 : decide ((c : Int) < 1) = false := decide_eq_false (by omega)
  have g4 : decide (5 - (a : Int) < (c : Int)) = false := decide_eq_false (by omega)
  have g5 : decide (64 < (z : Int)) = false := decide_eq_false (by omega)
  have HPT : Hid (∀ (W : World) (p : Option Addr), Calls Try.prog 23 #[.agg #[.pointer p, .int .i64 (a : Int), .int .i64 (c : Int)], .int .i64 s, .int .i64 n] W (PartPost W (.pointer p) y n fo)) := Lib.hid fun W p => dgpart_is Hfo hy (by omega) (by omega) s1 s2 n1 n2
  cases fo with
  | false =>
    have hno : ¬ (0 ≤ s ∧ 1 ≤ n ∧ s + n ≤ (c : Int)) := fun h => by have := ofB_iff.2 h; rw [Hfo.out] at this; cases this
    go_enter Try.func5, Try.ntmps5
    go_wp2_with fail
    refine (alive3_any _).mono ?_
    rintro e w1 ⟨rfl, hb1⟩
    have B1 := Lib.hid hb1
    clear hb1
    go_wp2_with fail
    refine (HN.out _).mono ?_
    rintro e w2 ⟨g, gB, gW, cB, cW, rfl, hf, hb2, hg, hgB, hgW⟩
    have HF := Lib.hid (hf 0)
    have B2 := Lib.hid (below_on B1.out hb2)
    have G1 : Hid (w.heap.size ≤ g ∧ w.heap.size ≤ gB ∧ w.heap.size ≤ gW) := Lib.hid (by have := B1.out.size; omega)
    clear hf hb2 hg hgB hgW
    obtain ⟨bb, Hbb⟩ : ∃ bb, Hid (blanks 5 = bb) := ⟨_, rfl⟩
    obtain ⟨wn, Hwn⟩ : ∃ wn, Hid (List.replicate 5 (0 : Int) = wn) := ⟨_, rfl⟩
    have HF2 : Hid (DevFl w2 g gB gW cB cW 0 (freshD bb wn)) := by rw [← Hbb.out, ← Hwn.out]; exact HF
    have hbl : bb.length = 5120 := by rw [← Hbb.out]; exact blanks_len 5
    have hwl : wn.length = 5 := by rw [← Hwn.out]; simp
    have OK0 : Hid (DlOk (freshD bb wn)) := Lib.hid (fresh_ok bb wn (by omega) (by omega) (by rw [← Hwn.out]; intro x hx; simpa using hx))
    have Hbl := Lib.hid hbl
    have HBLK : Hid (∀ i, i < bb.length → bb.getD i 0 = 255) := Lib.hid fun i hi => by rw [← Hbb.out]; exact blanks_get (by omega)
    have HOF := dof_any HF2.out OK0.out 5 hwl (a : Int) (c : Int) (by omega) (by omega) (by omega) (by omega)
    rw [show ofB 5 (a : Int) (c : Int) = true from ofB_iff.2 ⟨by omega, by omega, by omega⟩] at HOF
    have HOF2 := Lib.hid HOF
    clear HF HOF hbl hwl
    go_wp2_with fail
    refine HOF2.out.mono ?_
    rintro e w3 ⟨rfl, hb3⟩
    have B3 := Lib.hid (below_on B2.out hb3)
    have HF3 := Lib.hid (HF2.out.below hb3)
    clear hb3 HF2
    -- r's cell
    have hcell := box_cells w3 (.pointer (some ⟨g, 0, none⟩)) (.int .i64 (a : Int)) (.int .i64 (c : Int)) 30
    have hb4 : Below w3.heap.size w3 (w3.alloc (.cells #[.pointer (some ⟨g, 0, none⟩), .int .i64 (a : Int), .int .i64 (c : Int)] 30)) := (Below.refl _ _).alloc (Nat.le_refl _) _
    obtain ⟨m0, m1, m2⟩ := hcell _ (Below.refl _ _)
    have B4 := Lib.hid (below_on B3.out hb4)
    have HF4 := Lib.hid (HF3.out.below hb4)
    clear hb4 hcell
    go_wp2_with fail
    refine (HPT.out _ _).mono ?_
    rintro e w5 ⟨rfl, hb5⟩
    have B5 := Lib.hid (below_on B4.out hb5)
    have HF5 := Lib.hid (HF4.out.below hb5)
    clear hb5 m0 m1 m2 HF4
    have hcell := box_cells w5 (.pointer none) (.int .i64 0) (.int .i64 0) 30
    obtain ⟨m0, m1, m2⟩ := hcell _ (Below.refl _ _)
    have B6 := Lib.hid (below_on B5.out ((Below.refl _ _).alloc (Nat.le_refl _) (.cells #[.pointer none, .int .i64 0, .int .i64 0] 30)))
    have HSZ : Hid (∀ W, Calls Try.prog 14 #[.agg #[.pointer none, .int .i64 0, .int .i64 0]] W fun e w' => e = .returned (.int .i64 0) ∧ Below W.heap.size W w') := Lib.hid fun W => dgsize_any _ 0 0 W (by omega)
    clear hcell
    have hq : (decide (s < 0) = true) ∨ (decide (s < 0) = false ∧ decide (n < 1) = true) ∨ (decide (s < 0) = false ∧ decide (n < 1) = false ∧ decide ((c : Int) < s) = true) ∨ (decide (s < 0) = false ∧ decide (n < 1) = false ∧ decide ((c : Int) < s) = false ∧ decide ((c : Int) - s < n) = true ∧ -9223372036854775808 ≤ (c : Int) - s ∧ (c : Int) - s ≤ 9223372036854775807) := by
      simp only [decide_eq_true_eq, decide_eq_false_iff_not]
      omega
    rcases hq with q1 | ⟨q1, q2⟩ | ⟨q1, q2, q3⟩ | ⟨q1, q2, q3, q4, q5, q6⟩
    all_goals
      go_wp2_with (first
        | (go_at_call 13; refine (num3_any _ _).mono ?_; rintro e w4 ⟨rfl, rfl⟩)
        | (go_at_call 14; refine (HSZ.out _).mono ?_; rintro e w6 ⟨rfl, hb6⟩; have B7 := Lib.hid (below_on B6.out hb6); clear hb6))
      go_ret
      exact ⟨rfl, B7.out⟩
  | true =>
    obtain ⟨f1, f2, f3⟩ := ofB_iff.1 Hfo.out
    obtain ⟨fr, rfl⟩ := Int.eq_ofNat_of_zero_le f1
    obtain ⟨nn, rfl⟩ := Int.eq_ofNat_of_zero_le (show 0 ≤ n by omega)
    obtain ⟨af, Haf⟩ : ∃ af : Nat, Hid (a + fr = af) := ⟨_, rfl⟩
    have hya : y = (af : Int) := by have := Haf.out; omega
    subst hya
    have hafn : af + nn ≤ 5 := by have := Haf.out; omega
    have q1 : decide ((fr : Int) < 0) = false := decide_eq_false (by omega)
    have q2 : decide ((nn : Int) < 1) = false := decide_eq_false (by omega)
    have q3 : decide ((c : Int) < (fr : Int)) = false := decide_eq_false (by omega)
    have q4 : decide ((c : Int) - (fr : Int) < (nn : Int)) = false := decide_eq_false (by omega)
    obtain ⟨K1, HK⟩ : ∃ K1 : Nat, Hid (z / 8 * 8 = K1) := ⟨_, rfl⟩
    have hKz : K1 ≤ z := by have := HK.out; omega
    obtain ⟨m, Hm⟩ : ∃ m, Hid (l.take K1 = m) := ⟨_, rfl⟩
    have hml : m.length = K1 := by rw [← Hm.out, List.length_take]; have := Hz.out; omega
    have e8 : (z : Int) / 8 * 8 = (K1 : Int) := by have := HK.out; omega
    have sl : ∀ u, (Instr.slice 41 (.slice A z k) none (some (.int .i64 (K1 : Int))) none).run Try.prog u = _ := fun u => slice_head A z k K1 (by omega) u
    have HM : Hid (Bs w A m) := Lib.hid (by rw [← Hm.out]; exact HA.out.take K1)
    go_enter Try.func5, Try.ntmps5
    go_wp2_with fail
    refine (alive3_any _).mono ?_
    rintro e w1 ⟨rfl, hb1⟩
    have B1 := Lib.hid hb1
    clear hb1
    go_wp2_with fail
    refine (HN.out _).mono ?_
    rintro e w2 ⟨g, gB, gW, cB, cW, rfl, hf, hb2, hg, hgB, hgW⟩
    have HF := Lib.hid (hf 0)
    have B2 := Lib.hid (below_on B1.out hb2)
    have G1 : Hid (w.heap.size ≤ g ∧ w.heap.size ≤ gB ∧ w.heap.size ≤ gW) := Lib.hid (by have := B1.out.size; omega)
    clear hf hb2 hg hgB hgW
    obtain ⟨bb, Hbb⟩ : ∃ bb, Hid (blanks 5 = bb) := ⟨_, rfl⟩
    obtain ⟨wn, Hwn⟩ : ∃ wn, Hid (List.replicate 5 (0 : Int) = wn) := ⟨_, rfl⟩
    have HF2 : Hid (DevFl w2 g gB gW cB cW 0 (freshD bb wn)) := by rw [← Hbb.out, ← Hwn.out]; exact HF
    have hbl : bb.length = 5120 := by rw [← Hbb.out]; exact blanks_len 5
    have hwl : wn.length = 5 := by rw [← Hwn.out]; simp
    have OK0 : Hid (DlOk (freshD bb wn)) := Lib.hid (fresh_ok bb wn (by omega) (by omega) (by rw [← Hwn.out]; intro x hx; simpa using hx))
    have Hbl := Lib.hid hbl
    have HBLK : Hid (∀ i, i < bb.length → bb.getD i 0 = 255) := Lib.hid fun i hi => by rw [← Hbb.out]; exact blanks_get (by omega)
    have HOF := dof_any HF2.out OK0.out 5 hwl (a : Int) (c : Int) (by omega) (by omega) (by omega) (by omega)
    rw [show ofB 5 (a : Int) (c : Int) = true from ofB_iff.2 ⟨by omega, by omega, by omega⟩] at HOF
    have HOF2 := Lib.hid HOF
    clear HF HOF hbl hwl
    go_wp2_with fail
    refine HOF2.out.mono ?_
    rintro e w3 ⟨rfl, hb3⟩
    have B3 := Lib.hid (below_on B2.out hb3)
    have HF3 := Lib.hid (HF2.out.below hb3)
    clear hb3 HF2
    -- r's cell
    have hcell := box_cells w3 (.pointer (some ⟨g, 0, none⟩)) (.int .i64 (a : Int)) (.int .i64 (c : Int)) 30
    have hb4 : Below w3.heap.size w3 (w3.alloc (.cells #[.pointer (some ⟨g, 0, none⟩), .int .i64 (a : Int), .int .i64 (c : Int)] 30)) := (Below.refl _ _).alloc (Nat.le_refl _) _
    obtain ⟨m0, m1, m2⟩ := hcell _ (Below.refl _ _)
    have B4 := Lib.hid (below_on B3.out hb4)
    have HF4 := Lib.hid (HF3.out.below hb4)
    clear hb4 hcell
    go_wp2_with fail
    refine (HPT.out _ _).mono ?_
    rintro e w5 ⟨rfl, hb5⟩
    have B5 := Lib.hid (below_on B4.out hb5)
    have HF5 := Lib.hid (HF4.out.below hb5)
    clear hb5 m0 m1 m2 HF4
    have hcell := box_cells w5 (.pointer (some ⟨g, 0, none⟩)) (.int .i64 (af : Int)) (.int .i64 (nn : Int)) 30
    obtain ⟨m0, m1, m2⟩ := hcell _ (Below.refl _ _)
    have hb6 : Below w5.heap.size w5 (w5.alloc (.cells #[.pointer (some ⟨g, 0, none⟩), .int .i64 (af : Int), .int .i64 (nn : Int)] 30)) := (Below.refl _ _).alloc (Nat.le_refl _) _
    have B6 := Lib.hid (below_on B5.out hb6)
    have HF6 := Lib.hid (HF5.out.below hb6)
    have hoff : Off (FlF g gB gW) A m := off_old G1.out.1 G1.out.2.1 G1.out.2.2 HM.out
    obtain ⟨d1, Hd1⟩ : ∃ d1, Hid (calmed (freshD bb wn) (laid bb (af * 1024) m) ((m.length / 8 : Nat) : Int) = d1) := ⟨_, rfl⟩
    have hcp : dprogOf (freshD bb wn) ((af : Int) * 1024 + 0) m = (0, d1) := by
      rw [← Hd1.out]
      exact calm_prog (freshD bb wn) rfl rfl (af * 1024) m (by show _ ≤ bb.length; rw [Hbl.out]; omega) (by omega) (by rw [hml, ← HK.out]; omega) (can_blank (l := bb) (by rw [Hbl.out]; omega) HBLK.out) _ (by omega)
    have hdg : dgProg (freshD bb wn) af nn 0 m = (0, d1) := by
      unfold dgProg
      rw [if_neg (by simp [freshD]), if_pos (by omega)]
      exact hcp
    have HPG := dgprog_any HF6.out OK0.out af nn (by omega) (by omega) 0 (by omega) (by omega) A m k (HM.out.below B6.out) hoff (by omega) (by omega) (by show (0 : Int) + _ ≤ _; omega)
    rw [hdg, hml] at HPG
    have HPG2 := Lib.hid HPG
    have HCELL := Lib.hid hcell
    have HOFF := Lib.hid hoff
    clear HPG hcp hdg hoff hb6 hcell
    go_wp2_with (first
        | (go_at_call 13; refine (num3_any _ _).mono ?_; rintro e w4 ⟨rfl, rfl⟩)
        | (go_at_call 21; (with_reducible refine HPG2.out.mono ?_); rintro e w8 ⟨rfl, hf8, ho8⟩; have HF8 := Lib.hid hf8; have HO8 := Lib.hid ho8; clear hf8 ho8))
    have B8 : Hid (Below w.heap.size w w8) := Lib.hid (below_fl B6.out HO8.out G1.out.1 G1.out.2.1 G1.out.2.2)
    have hfz : ¬ FlF g gB gW w5.heap.size := flF_old HF5.out (Nat.le_refl _)
    have L : ∀ W, Below w8.heap.size w8 W → W.cell? ⟨w5.heap.size, 0, none⟩ = some (.pointer (some ⟨g, 0, none⟩)) ∧ W.cell? ⟨w5.heap.size, 1, none⟩ = some (.int .i64 (af : Int)) ∧ W.cell? ⟨w5.heap.size, 2, none⟩ = some (.int .i64 (nn : Int)) := fun W hW =>
      box_only w5 _ _ _ _ (FlF g gB gW) hfz W (HO8.out.trans (Only.of_below hW))
    have L0 : ∀ W, Below w8.heap.size w8 W → W.cell? ⟨w5.heap.size, 0, none⟩ = some (.pointer (some ⟨g, 0, none⟩)) := fun W hW => (L W hW).1
    have L1 : ∀ W, Below w8.heap.size w8 W → W.cell? ⟨w5.heap.size, 1, none⟩ = some (.int .i64 (af : Int)) := fun W hW => (L W hW).2.1
    have L2 : ∀ W, Below w8.heap.size w8 W → W.cell? ⟨w5.heap.size, 2, none⟩ = some (.int .i64 (nn : Int)) := fun W hW => (L W hW).2.2
    obtain ⟨st, Hst⟩ : ∃ st, Hid (strB m = st) := ⟨_, rfl⟩
    have HMA : Hid (Bs w8 A m) := Lib.hid ((HM.out.below B6.out).offs HOFF.out HO8.out)
    have mA : ∀ W, Below w8.heap.size w8 W → (convert 41 9 (.slice A K1 k)).run Try.prog W = .ok (.string st) W := fun W hW => conv_now (HMA.out.below hW) hml.symm Hst.out
    obtain ⟨y2, hy2⟩ : ∃ y2 : Int, (af : Int) * 1024 = y2 := ⟨_, rfl⟩
    obtain ⟨y3, hy3⟩ : ∃ y3 : Int, (nn : Int) * 1024 = y3 := ⟨_, rfl⟩
    have hw1 : IntKind.i64.wrap ((a : Int) + (fr : Int)) = (af : Int) := by rw [IntWalk.i64_in _ (by omega)]; exact hy
    have hw2 : IntKind.i64.wrap ((af : Int) * 1024) = y2 := by rw [IntWalk.i64_in _ (by omega)]; exact hy2
    have hw3 : IntKind.i64.wrap ((nn : Int) * 1024) = y3 := by rw [IntWalk.i64_in _ (by omega)]; exact hy3
    have HSZ : Hid (∀ W, Calls Try.prog 14 #[.agg #[.pointer (some ⟨g, 0, none⟩), .int .i64 (af : Int), .int .i64 (nn : Int)]] W fun e w' => e = .returned (.int .i64 y3) ∧ Below W.heap.size W w') := Lib.hid fun W => by rw [← hy3]; exact dgsize_any _ _ nn W (by omega)
    have HPK : Hid (∀ W, Below w8.heap.size w8 W → Calls Try.prog 17 #[.pointer (some ⟨g, 0, none⟩), .int .i64 y2, .int .i64 (K1 : Int)] W (RetOb 5 W m)) := Lib.hid fun W hW => by
      have hd1l : d1.b.length = 5120 := by rw [← Hd1.out]; exact (laid_len _ _ _).trans Hbl.out
      have := dpeek_any (HF8.out.below hW) y2 (K1 : Int) (by omega) (by omega) (by omega) (by omega) (by show d1.b.length ≤ _; omega)
      have e : peekOf ((0 : Int), d1).2 y2 (K1 : Int) = m := by
        show peekOf d1 y2 (K1 : Int) = m
        unfold peekOf
        rw [if_pos (by omega), ← hy2, ← hml, Int.toNat_natCast, show ((af : Int) * 1024).toNat = af * 1024 by omega, ← Hd1.out]
        exact calm_cut (by rw [Hbl.out]; omega)
      rw [e] at this
      exact this
    have hw0 : IntKind.i64.wrap (af : Int) = (af : Int) := IntWalk.i64_in _ (by omega)
    clear hfz L HCELL HMA hy2 hy3 m0 m1 m2 HF6 HF5
    go_wp2_with fail
    refine wp_region_noPanic ?_
    refine wp_region_held_drew (S := fun W => Below w8.heap.size w8 W) (by kernel_rfl) (by exact (Below.refl _ _).drew) (fun hS => ?_)
    refine' take_at 0 rfl (by kernel_rfl) (by kernel_rfl) (by kernel_rfl) (fun _ _ _ h => h) (by rfl) hS ?_ ?_ ?_
    rotate_left 2
    · intro W hSW; go_simp; try with_reducible rfl
    · simp only [List.set_cons_succ, List.set_cons_zero]; rfl
    refine call_at 1 rfl (by kernel_rfl) (by rfl) (fun K hK => ?_)
    go_simp
    refine (num3_any _ _).mono ?_
    rintro e w7 ⟨rfl, rfl⟩
    refine hK.out _ _ (by assumption) (fun hS => ?_)
    clear hK K
    refine' take_at 2 rfl (by kernel_rfl) (by kernel_rfl) (by kernel_rfl) (fun _ _ _ h => h) (by rfl) hS ?_ ?_ ?_
    rotate_left 2
    · intro W hSW; go_simp; try with_reducible rfl
    · simp only [List.set_cons_succ, List.set_cons_zero]; rfl
    refine' take_at 3 rfl (by kernel_rfl) (by kernel_rfl) (by kernel_rfl) (fun _ _ _ h => h) (by rfl) hS ?_ ?_ ?_
    rotate_left 2
    · intro W hSW; go_simp; try with_reducible rfl
    · simp only [List.set_cons_succ, List.set_cons_zero]; rfl
    refine' take_at 4 rfl (by kernel_rfl) (by kernel_rfl) (by kernel_rfl) (fun _ _ _ h => h) (by rfl) hS ?_ ?_ ?_
    rotate_left 2
    · intro W hSW; go_simp; try with_reducible rfl
    · simp only [List.set_cons_succ, List.set_cons_zero]; rfl
    refine call_at 5 rfl (by kernel_rfl) (by rfl) (fun K hK => ?_)
    go_simp
    refine (num3_any _ _).mono ?_
    rintro e w7 ⟨rfl, rfl⟩
    refine hK.out _ _ (by assumption) (fun hS => ?_)
    clear hK K
    refine' take_at 6 rfl (by kernel_rfl) (by kernel_rfl) (by kernel_rfl) (fun _ _ _ h => h) (by rfl) hS ?_ ?_ ?_
    rotate_left 2
    · intro W hSW; go_simp; try with_reducible rfl
    · simp only [List.set_cons_succ, List.set_cons_zero]; rfl
    refine' take_at 7 rfl (by kernel_rfl) (by kernel_rfl) (by kernel_rfl) (fun _ _ _ h => h) (by rfl) hS ?_ ?_ ?_
    rotate_left 2
    · intro W hSW; go_simp; try with_reducible rfl
    · simp only [List.set_cons_succ, List.set_cons_zero]; rfl
    refine' take_at 8 rfl (by kernel_rfl) (by kernel_rfl) (by kernel_rfl) (fun _ _ _ h => h) (by rfl) hS ?_ ?_ ?_
    rotate_left 2
    · intro W hSW; go_simp; try with_reducible rfl
    · simp only [List.set_cons_succ, List.set_cons_zero]; rfl
    refine' take_at 9 rfl (by kernel_rfl) (by kernel_rfl) (by kernel_rfl) (fun _ _ _ h => h) (by rfl) hS ?_ ?_ ?_
    rotate_left 2
    · intro W hSW; go_simp; try with_reducible rfl
    · simp only [List.set_cons_succ, List.set_cons_zero]; rfl
    refine' take_at 11 rfl (by kernel_rfl) (by kernel_rfl) (by kernel_rfl) (fun _ _ _ h => h) (by rfl) hS ?_ ?_ ?_
    rotate_left 2
    · intro W hSW; go_simp; try with_reducible rfl
    · simp only [List.set_cons_succ, List.set_cons_zero]; rfl
    refine' take_at 12 rfl (by kernel_rfl) (by kernel_rfl) (by kernel_rfl) (fun _ _ _ h => h) (by rfl) hS ?_ ?_ ?_
    rotate_left 2
    · intro W hSW; go_simp; try with_reducible rfl
    · simp only [List.set_cons_succ, List.set_cons_zero]; rfl
    refine call_at 10 rfl (by kernel_rfl) (by rfl) (fun K hK => ?_)
    go_simp
    with_reducible refine (HSZ.out _).mono ?_
    rintro e w10 ⟨rfl, hb10⟩
    have kS10 := below_on hS hb10
    clear hS hb10
    refine hK.out _ _ (by exact kS10) (fun hS => ?_)
    clear hK K
    refine' take_at 13 rfl (by kernel_rfl) (by kernel_rfl) (by kernel_rfl) (fun _ _ _ h => h) (by rfl) hS ?_ ?_ ?_
    rotate_left 2
    · intro W hSW; go_simp; try with_reducible rfl
    · simp only [List.set_cons_succ, List.set_cons_zero]; rfl
    refine' take_at 14 rfl (by kernel_rfl) (by kernel_rfl) (by kernel_rfl) (fun _ _ _ h => h) (by rfl) hS ?_ ?_ ?_
    rotate_left 2
    · intro W hSW; go_simp; try with_reducible rfl
    · simp only [List.set_cons_succ, List.set_cons_zero]; rfl
    refine' take_at 15 rfl (by kernel_rfl) (by kernel_rfl) (by kernel_rfl) (fun _ _ _ h => h) (by rfl) hS ?_ ?_ ?_
    rotate_left 2
    · intro W hSW; go_simp; try with_reducible rfl
    · simp only [List.set_cons_succ, List.set_cons_zero]; rfl
    refine' take_at 16 rfl (by kernel_rfl) (by kernel_rfl) (by kernel_rfl) (fun _ _ _ h => h) (by rfl) hS ?_ ?_ ?_
    rotate_left 2
    · intro W hSW; go_simp; try with_reducible rfl
    · simp only [List.set_cons_succ, List.set_cons_zero]; rfl
    refine' take_at 17 rfl (by kernel_rfl) (by kernel_rfl) (by kernel_rfl) (fun _ _ _ h => h) (by rfl) hS ?_ ?_ ?_
    rotate_left 2
    · intro W hSW; go_simp; try with_reducible rfl
    · simp only [List.set_cons_succ, List.set_cons_zero]; rfl
    refine' take_at 18 rfl (by kernel_rfl) (by kernel_rfl) (by kernel_rfl) (fun _ _ _ h => h) (by rfl) hS ?_ ?_ ?_
    rotate_left 2
    · intro W hSW; go_simp; try with_reducible rfl
    · simp only [List.set_cons_succ, List.set_cons_zero]; rfl
    refine' take_at 19 rfl (by kernel_rfl) (by kernel_rfl) (by kernel_rfl) (fun _ _ _ h => h) (by rfl) hS ?_ ?_ ?_
    rotate_left 2
    · intro W hSW; go_simp; try with_reducible rfl
    · simp only [List.set_cons_succ, List.set_cons_zero]; rfl
    refine' take_at 20 rfl (by kernel_rfl) (by kernel_rfl) (by kernel_rfl) (fun _ _ _ h => h) (by rfl) hS ?_ ?_ ?_
    rotate_left 2
    · intro W hSW; go_simp; try with_reducible rfl
    · simp only [List.set_cons_succ, List.set_cons_zero]; rfl
    refine' take_at 21 rfl (by kernel_rfl) (by kernel_rfl) (by kernel_rfl) (fun _ _ _ h => h) (by rfl) hS ?_ ?_ ?_
    rotate_left 2
    · intro W hSW; go_simp; try with_reducible rfl
    · simp only [List.set_cons_succ, List.set_cons_zero]; rfl
    refine' take_at 22 rfl (by kernel_rfl) (by kernel_rfl) (by kernel_rfl) (fun _ _ _ h => h) (by rfl) hS ?_ ?_ ?_
    rotate_left 2
    · intro W hSW; go_simp; try with_reducible rfl
    · simp only [List.set_cons_succ, List.set_cons_zero]; rfl
    refine' take_at 25 rfl (by kernel_rfl) (by kernel_rfl) (by kernel_rfl) (fun _ _ _ h => h) (by rfl) hS ?_ ?_ ?_
    rotate_left 2
    · intro W hSW; go_simp; try with_reducible rfl
    · simp only [List.set_cons_succ, List.set_cons_zero]; rfl
    refine' take_at 26 rfl (by kernel_rfl) (by kernel_rfl) (by kernel_rfl) (fun _ _ _ h => h) (by rfl) hS ?_ ?_ ?_
    rotate_left 2
    · intro W hSW; go_simp; try with_reducible rfl
    · simp only [List.set_cons_succ, List.set_cons_zero]; rfl
    refine call_at 23 rfl (by kernel_rfl) (by rfl) (fun K hK => ?_)
    go_simp
    with_reducible refine (HPK.out _ hS).mono ?_
    rintro e w11 ⟨v11, rfl, ho11, hb11⟩
    obtain ⟨A11, c11, rfl, hbs11, -⟩ := ho11.form
    rw [hml]
    have kS11 := below_on hS hb11
    have m11 : ∀ W, Below w11.heap.size w11 W → (convert 41 9 (.slice A11 K1 c11)).run Try.prog W = .ok (.string st) W := fun W hW => conv_now (hbs11.below hW) hml.symm Hst.out
    clear hS ho11 hb11 hbs11
    refine hK.out _ _ (by exact kS11) (fun hS => ?_)
    clear hK K
    refine held_mono (S2 := fun W => Below w11.heap.size w11 W) (fun W hW => kS11.trans (hW.mono kS11.size)) _ _ _ _ ?_
    replace hS : Below w11.heap.size w11 w11 := Below.refl _ _
    refine' take_at 24 rfl (by kernel_rfl) (by kernel_rfl) (by kernel_rfl) (fun _ _ _ h => h) (by rfl) hS ?_ ?_ ?_
    rotate_left 2
    · intro W hSW; go_simp; try with_reducible rfl
    · simp only [List.set_cons_succ, List.set_cons_zero]; rfl
    refine' take_at 27 rfl (by kernel_rfl) (by kernel_rfl) (by kernel_rfl) (fun _ _ _ h => h) (by rfl) hS ?_ ?_ ?_
    rotate_left 2
    · intro W hSW; go_simp; try with_reducible rfl
    · simp only [List.set_cons_succ, List.set_cons_zero]; rfl
    refine' take_at 28 rfl (by kernel_rfl) (by kernel_rfl) (by kernel_rfl) (fun _ _ _ h => h) (by rfl) hS ?_ ?_ ?_
    rotate_left 2
    · intro W hSW; go_simp; try with_reducible rfl
    · simp only [List.set_cons_succ, List.set_cons_zero]; rfl
    refine' take_at 29 rfl (by kernel_rfl) (by kernel_rfl) (by kernel_rfl) (fun _ _ _ h => h) (by rfl) hS ?_ ?_ ?_
    rotate_left 2
    · intro W hSW; go_simp; try with_reducible rfl
    · simp only [List.set_cons_succ, List.set_cons_zero]; rfl
    refine wpAnyH_done (by kernel_rfl) ?_ _
    refine NoPanic.normal ?_
    go_wp2_with fail
    go_ret
    exact ⟨rfl, B8.out.trans ((kS11.trans (hS.mono kS11.size)).mono B8.out.size)⟩

set_option maxRecDepth 100000 in
set_option maxHeartbeats 3200000 in
theorem law3Parts (a c s n : Int) (A : Option Addr) (l : List UInt8) (k : Nat) (w : World) (hb : Bs w A l) (hk : l.length ≤ k) (a1 : -9223372036854775808 ≤ a) (a2 : a ≤ 9223372036854775807) (c1 : -9223372036854775808 ≤ c) (c2 : c ≤ 9223372036854775807)
    (s1 : -9223372036854775808 ≤ s) (s2 : s ≤ 9223372036854775807) (n1 : -9223372036854775808 ≤ n) (n2 : n ≤ 9223372036854775807) :
    Calls Try.prog 5 #[.int .i64 a, .int .i64 c, .int .i64 s, .int .i64 n, .slice A l.length k] w fun e w' => e = .returned (.bool true) ∧ Below w.heap.size w w' := by
  by_cases hin : 0 ≤ a ∧ a ≤ 4 ∧ 1 ≤ c ∧ c ≤ 5 - a ∧ l.length ≤ 64
  · obtain ⟨h1, h2, h3, h4, h5⟩ := hin
    obtain ⟨x, rfl⟩ := Int.eq_ofNat_of_zero_le h1
    obtain ⟨y, rfl⟩ := Int.eq_ofNat_of_zero_le (show 0 ≤ c by omega)
    exact law3Parts_in x y s n A l k w hb hk (by omega) (by omega) (by omega) h5 s1 s2 n1 n2
  · obtain ⟨z, hz⟩ : ∃ z : Nat, l.length = z := ⟨_, rfl⟩
    rw [hz] at hin hk ⊢
    clear hb
    have hq : (decide (a < 0) = true) ∨ (decide (a < 0) = false ∧ decide (4 < a) = true) ∨ (decide (a < 0) = false ∧ decide (4 < a) = false ∧ decide (c < 1) = true) ∨ (decide (a < 0) = false ∧ decide (4 < a) = false ∧ decide (c < 1) = false ∧ decide (5 - a < c) = true ∧ -9223372036854775808 ≤ 5 - a ∧ 5 - a ≤ 9223372036854775807)
        ∨ (decide (a < 0) = false ∧ decide (4 < a) = false ∧ decide (c < 1) = false ∧ decide (5 - a < c) = false ∧ decide (64 < (z : Int)) = true ∧ -9223372036854775808 ≤ 5 - a ∧ 5 - a ≤ 9223372036854775807) := by
      simp only [decide_eq_true_eq, decide_eq_false_iff_not]
      omega
    clear hin hz
    rcases hq with q1 | ⟨q1, q2⟩ | ⟨q1, q2, q3⟩ | ⟨q1, q2, q3, q4, q5, q6⟩ | ⟨q1, q2, q3, q4, q7, q5, q6⟩
    all_goals
      go_enter Try.func5, Try.ntmps5
      go_wp2_with (go_at_call 7; refine (alive3_any _).mono ?_; rintro e w1 ⟨rfl, hb1⟩; have B1 := Lib.hid hb1; clear hb1)
      go_ret
      exact ⟨rfl, B1.out⟩
end Go.Proofs.Ytmhcogpjgllgjaa

