/- The contract of bootjackref1.GetRecord. -/
import Derived.Test.YtddalnmoahpljaaSealGet2
import Derived.Test.YtddalnmoahpljaaGbase
import Derived.Deep.RegionHeld3
namespace Go.Proofs.Ytddalnmoahpljaa
open Go.RowKit
set_option linter.unusedVariables false
set_option maxRecDepth 100000

/-- .. with the size beside -/
def GetCutS (w1 : World) (k q s : Int) (body : List UInt8) (v6 v7 : Value) (wx : World) : Prop := v6 = .int .i64 s ∧ GetCut w1 k q body v7 wx

set_option maxHeartbeats 1600000 in
theorem rget_any (A : Option Addr) (b : List UInt8) (L c : Nat) (w : World) (hbs : Bs w A b) (hL : b.length = L) (hc : L ≤ c) (hm : L ≤ 9223372036854775807) :
    Calls Try.prog 11 #[.slice A L c] w (GetPost w b) := by
  have HN : Hid (¬ isR b → ∀ w', Below w.heap.size w w' → GetPost w b noneR w') := Lib.hid fun h w' hb => ⟨hb, .inr ⟨h, rfl⟩⟩
  have hb0 : Below w.heap.size w (w.alloc (.cells #[.int .i64 0, .int .i64 0, .slice none 0 0] 24)) := (Below.refl _ _).alloc (Nat.le_refl _) _
  by_cases h8 : L < 16
  · have hno : ¬ isR b := fun h => by have := h.1; omega
    have HP : Hid (∀ w', Below w.heap.size w w' → GetPost w b noneR w') := Lib.hid (HN.out hno)
    have d0 : decide ((L : Int) < 16) = true := decide_eq_true (by omega)
    have Hb0 := Lib.hid hb0
    clear HN hno hbs hL hb0
    go_enter Try.func11, Try.ntmps11
    go_wp2
    exact bodyPost_ret (v := .tuple #[.agg #[.int .i64 0, .int .i64 0, .slice none 0 0], .int .i64 0, .bool false]) (by simp [results, Try.results11, go_sem]) rfl (HP.out _ Hb0.out)
  · have d0 : decide ((L : Int) < 16) = false := decide_eq_false (by omega)
    obtain ⟨w1, Hw1⟩ : ∃ w1, Hid (w.alloc (.cells #[.int .i64 0, .int .i64 0, .slice none 0 0] 24) = w1) := ⟨_, rfl⟩
    have hz1 : w1.heap.size = w.heap.size + 1 := by rw [← Hw1.out]; simp
    have hzc : ∀ W, Below w1.heap.size w1 W → W.heap[w.heap.size]? = some (.cells zeroR 24 (0, 0)) := fun W hW => by
      rw [hW.block _ (by omega), ← Hw1.out]
      exact heap_alloc_new w _
    rw [Hw1.out] at hb0
    have HG := Lib.hid hzc
    clear hzc
    have hbs := hbs.below hb0
    have Hb0 := Lib.hid hb0
    clear hb0
    obtain ⟨gb, go, rfl, hcell⟩ := hbs (by omega)
    have k0 := hcell 0 (by omega)
    rw [Nat.add_zero] at k0
    obtain ⟨A2, hA2, sl2⟩ := slice_mid (some ⟨gb, go, none⟩) w1 b hbs c (by omega) 2 2 (by omega) (by omega)
    have s2 := sl2 L 2 4 rfl rfl
    obtain ⟨n, Hn⟩ : ∃ n, Hid (lenR b = n) := ⟨_, rfl⟩
    have hl2 : ((b.drop 2).take 2).length = 2 := by rw [List.length_take, List.length_drop]; omega
    have hn2 : n < 65536 := by
      rw [← Hn.out]
      refine Nat.lt_of_lt_of_le (numB_lt _) (Nat.le_trans (Nat.pow_le_pow_right (by omega) (show ((b.drop 2).take 2).length ≤ 2 by omega)) (by decide))
    have HNU : Hid (∀ W, Below w1.heap.size w1 W → Calls Try.prog 26 #[.slice A2 2 (c - 2)] W fun e w' => e = .returned (.int .u64 (n : Int)) ∧ ∃ n, w' = W.drewN n) := Lib.hid fun W hW => by
      have := rnumber_any A2 ((b.drop 2).take 2) (c - 2) W (hA2.below hW) (by omega)
      rw [hl2, show numB ((b.drop 2).take 2) = n from Hn.out] at this
      exact this
    have HS : Hid (∀ W, Calls Try.prog 16 #[.int .i64 (n : Int)] W fun e w' => e = .returned (.int .i64 (sizeI (n : Int))) ∧ w' = W) := Lib.hid fun W => rsize_any (n : Int) W (by omega) (by omega)
    clear hl2 sl2 hA2
    have kr : Below w1.heap.size w1 w1 := Below.refl _ _
    by_cases h5 : 512 < n
    · have hno : ¬ isR b := fun h => by have := h.2.1; rw [Hn.out] at this; omega
      have HP : Hid (∀ w', Below w.heap.size w w' → GetPost w b noneR w') := Lib.hid (HN.out hno)
      have hsz : sizeI (n : Int) = 0 := if_pos (.inr (by omega))
      rw [hsz] at HS
      clear HN hno hbs hcell hL hsz
      go_enter Try.func11, Try.ntmps11
      go_upto_region 1 with fail
      rw [Hw1.out]
      go_wp2_with fail
      with_reducible refine (HNU.out _ kr).mono ?_
      rintro e w' ⟨rfl, nq, rfl⟩
      go_wp2_with fail
      with_reducible refine (HS.out _).mono ?_
      rintro e w' ⟨rfl, rfl⟩
      go_wp2_with (refine wpList_store_row rfl 24 (.tmp 2) (.tmp 26) rfl w.heap.size zeroR rfl rfl 24 zeroR (HG.out _ (below_drewN' (Below.refl _ _) _)) (infoR _ rfl) rfl zeroR_one ?_)
      (try simp only [Exit.inBlock, Exit.then])
      refine bodyPost_ret (results_cell3 rfl _ _ w.heap.size _ zeroR _ _ rfl (setRow_heap _ _ _ _ _ _ (HG.out _ (below_drewN' (Below.refl _ _) _))) Try.underlying24 rfl (infoR _ rfl)) rfl ?_
      exact HP.out _ (below_setRow (below_drewN' Hb0.out _) (Nat.le_refl _))
    · have hsz : sizeI (n : Int) = ((sizeR n : Nat) : Int) := by unfold sizeI; rw [if_neg (by omega)]; simp
      rw [hsz] at HS
      have hs16 : 16 ≤ sizeR n ∧ sizeR n ≤ 536 ∧ n + 16 ≤ sizeR n := by unfold sizeR; omega
      obtain ⟨s, Hs⟩ : ∃ s, Hid (sizeR n = s) := ⟨_, rfl⟩
      rw [Hs.out] at HS hs16
      have d1 : ((s : Int) == 0) = false := by simp; omega
      by_cases hls : L < s
      · have hno : ¬ isR b := fun h => by have := h.2.2.1; rw [Hn.out, Hs.out] at this; omega
        have HP : Hid (∀ w', Below w.heap.size w w' → GetPost w b noneR w') := Lib.hid (HN.out hno)
        have d2 : decide ((L : Int) < (s : Int)) = true := decide_eq_true (by omega)
        clear HN hno hbs hcell hL hsz
        go_enter Try.func11, Try.ntmps11
        go_upto_region 1 with fail
        rw [Hw1.out]
        go_wp2_with fail
        with_reducible refine (HNU.out _ kr).mono ?_
        rintro e w' ⟨rfl, nq, rfl⟩
        go_wp2_with fail
        with_reducible refine (HS.out _).mono ?_
        rintro e w' ⟨rfl, rfl⟩
        go_wp2_with (refine wpList_store_row rfl 24 (.tmp 2) (.tmp 26) rfl w.heap.size zeroR rfl rfl 24 zeroR (HG.out _ (below_drewN' (Below.refl _ _) _)) (infoR _ rfl) rfl zeroR_one ?_)
        (try simp only [Exit.inBlock, Exit.then])
        refine bodyPost_ret (results_cell3 rfl _ _ w.heap.size _ zeroR _ _ rfl (setRow_heap _ _ _ _ _ _ (HG.out _ (below_drewN' (Below.refl _ _) _))) Try.underlying24 rfl (infoR _ rfl)) rfl ?_
        exact HP.out _ (below_setRow (below_drewN' Hb0.out _) (Nat.le_refl _))
      · have d2 : decide ((L : Int) < (s : Int)) = false := decide_eq_false (by omega)
        obtain ⟨A4, hA4, sl4⟩ := slice_mid (some ⟨gb, go, none⟩) w1 b hbs c (by omega) 4 4 (by omega) (by omega)
        obtain ⟨A8, hA8, sl8⟩ := slice_mid (some ⟨gb, go, none⟩) w1 b hbs c (by omega) 8 n (by omega) (by omega)
        have s4 := sl4 L 4 8 rfl rfl
        have s8 := sl8 L 8 (8 + (n : Int)) rfl rfl
        clear sl4 sl8
        go_enter Try.func11, Try.ntmps11
        go_upto_region 1 with fail
        rw [Hw1.out]
        go_wp2_with fail
        with_reducible refine (HNU.out _ kr).mono ?_
        rintro e w' ⟨rfl, nq, rfl⟩
        go_wp2_with fail
        with_reducible refine (HS.out _).mono ?_
        rintro e w' ⟨rfl, rfl⟩
        go_upto_region 7 with fail
        obtain ⟨q, hq⟩ : ∃ q, seqR b = q := ⟨_, rfl⟩
        have hl4 : ((b.drop 4).take 4).length = 4 := by rw [List.length_take, List.length_drop]; omega
        have hql : q < 4294967296 := by
          rw [← hq]
          refine Nat.lt_of_lt_of_le (numB_lt _) (Nat.le_trans (Nat.pow_le_pow_right (by omega) (show ((b.drop 4).take 4).length ≤ 4 by omega)) (by decide))
        obtain ⟨body, hbody⟩ : ∃ l, bodyR b = l := ⟨_, rfl⟩
        have hbl : body.length = n := by rw [← hbody]; unfold bodyR; rw [Hn.out, List.length_take, List.length_drop]; omega
        have hA8' : Bs w1 A8 body := by rw [← hbody]; unfold bodyR; rw [Hn.out]; exact hA8
        have HNUM : Hid (∀ W, Below w1.heap.size w1 W → Calls Try.prog 26 #[.slice A4 4 (c - 4)] W fun e w' => e = .returned (.int .u64 (q : Int)) ∧ ∃ n, w' = W.drewN n) := Lib.hid fun W hW => by
          have := rnumber_any A4 ((b.drop 4).take 4) (c - 4) W (hA4.below hW) (by omega)
          rw [hl4, show numB ((b.drop 4).take 4) = q from hq] at this
          exact this
        have HA8 : Hid (∀ W, Below w1.heap.size w1 W → Bs W A8 body) := Lib.hid fun W hW => hA8'.below hW
        obtain ⟨x0, hx0⟩ : ∃ x, b.getD 0 0 = x := ⟨_, rfl⟩
        rw [hx0] at k0
        have l0 := x0.toNat_lt
        have Hx0 := Lib.hid hx0
        have Hq := Lib.hid hq
        have Hbody := Lib.hid hbody
        have Hbl := Lib.hid hbl
        have hS0 : Below w1.heap.size w1 (w1.drewN nq) := below_drewN' (Below.refl _ _) _
        generalize w1.drewN nq = w2 at *
        have K0 : ∀ W, Below w1.heap.size w1 W → W.cell? ⟨gb, go, none⟩ = some (.int .u8 (x0.toNat : Int)) := fun W hW => by
          rw [hW.cell (World.block_lt_of_cell? _ _ k0)]; exact k0
        have hLp : (0 : Int) < (L : Int) := by omega
        have hLn : 0 < L := by omega
        have hLd : decide ((0 : Int) < (L : Int)) = true := decide_eq_true hLp
        have hw8 : IntKind.i64.wrap (8 + (n : Int)) = 8 + (n : Int) := by rw [IntKind.wrap_i64]; omega
        have hwk : IntKind.i64.wrap (x0.toNat : Int) = (x0.toNat : Int) := by rw [IntKind.wrap_i64]; omega
        have hwq : IntKind.i64.wrap (q : Int) = (q : Int) := by rw [IntKind.wrap_i64]; omega
        have Hwk := Lib.hid hwk
        have Hwq := Lib.hid hwq
        have Hz1 := Lib.hid hz1
        have h2s : w1.heap.size ≤ w2.heap.size := hS0.size
        have H2s := Lib.hid h2s
        clear hA8 hA4 hq hbody hA8' hx0 hbl hcell k0 hwk hwq hz1 h2s hl4 s2 kr HNU
        go_cut [6, 7] (GetCutS w1 (x0.toNat : Int) (q : Int) (s : Int) body)
        case first =>
          have kS := hS0
          go_region_held3 (fun W => Below w1.heap.size w1 W) (first | assumption | exact Below.drew (by assumption) | exact Below.alloc (by assumption) (Below.size (by assumption)) _ | exact Below.setCell (Below.setCell (Below.setCell (by assumption) (by assumption) _) (by assumption) _) (by assumption) _) (first
            | (go_at_call 26; (with_reducible refine (HNUM.out _ (by assumption)).mono ?_); rintro e w4 ⟨rfl, nd, hw4⟩; have kS4 : Below w1.heap.size w1 w4 := (by rw [hw4]; exact below_drewN' (by assumption) nd); (try (have HZ4 : Hid (w4.heap[w2.heap.size]? = some (.cells zeroR 24 (0, 0)) ∧ w2.heap.size < w4.heap.size) := Lib.hid ⟨(by rw [hw4]; exact heap_alloc_new w2.drew _), (by rw [hw4]; simp)⟩)); clear hw4)
            | (refine step_append_bs rfl (.const (.slice none 0 0)) (.tmp 38) 22 rfl w1.heap.size 5 Try.underlying22 info5 _ [] rfl (Ob.nil_ _ _ _) A8 body n (c - 8) rfl Hbl.out.symm (HA8.out _ (by first | assumption | exact Below.alloc (by assumption) (Below.size (by assumption)) _)) (by have := Hbl.out; simp; omega) (by first | exact kS4.size | (have := kS4.size; simp; omega)) ?_; intro v5 w5 ho5 hgr5; have hb5 := below_of_grown hgr5; rw [List.nil_append] at ho5; have kS5 : Below w1.heap.size w1 w5 := (by first | exact below_on kS4 hb5 | exact below_on (Below.alloc kS4 kS4.size _) hb5); obtain ⟨A5, c5, hv5, -, -⟩ := ho5.form; rw [Hbl.out] at hv5; subst hv5; have O5 := Lib.hid ho5
               (try (have HZ5 : Hid (w5.heap[w2.heap.size]? = some (.cells #[.int .i64 0, .int .i64 0, .slice none 0 0] 24 (0, 0)) ∧ w1.heap.size ≤ w2.heap.size) := Lib.hid ⟨(hb5.block w2.heap.size HZ4.out.2).trans HZ4.out.1, H2s.out⟩; have hge := HZ5.out.2; obtain ⟨⟨y0, y1, y2⟩, f0, f1, f2⟩ := row_cells HZ5.out.1))
               (try (have HZ5 : Hid (w5.heap[w4.heap.size]? = some (.cells #[.int .i64 0, .int .i64 0, .slice none 0 0] 24 (0, 0)) ∧ w1.heap.size ≤ w4.heap.size) := Lib.hid ⟨(hb5.block w4.heap.size (by simp)).trans (heap_alloc_new w4 _), kS4.size⟩; have hge := HZ5.out.2; obtain ⟨⟨y0, y1, y2⟩, f0, f1, f2⟩ := row_cells HZ5.out.1))
               clear ho5 hb5 hgr5)
            )
          all_goals
            go_wp2_with fail
            go_meet
            first
              | exact ⟨rfl, get_cut3 O5.out HZ5.out.1 (by decide) HZ5.out.2 (by assumption) Hwk.out Hwq.out⟩
              | exact ⟨rfl, get_cutN O5.out (by assumption) Hwk.out Hwq.out⟩
        case rest =>
          obtain ⟨rfl, g, A5, c5, rfl, hg5, r0, r1, r2, hbs5, kb5, hfr5⟩ := hcut
          have HOFF : Hid (∀ k, At A5 k → k ≠ w.heap.size) := Lib.hid fun k hk => by have := hfr5 k hk; have := Hz1.out; omega
          clear hfr5
          rw [Hbl.out] at r2
          have C0 : ∀ W, Below wc.heap.size wc W → W.cell? ⟨g, 0, none⟩ = some (.int .i64 (x0.toNat : Int)) := fun W hW => by rw [hW.cell (World.block_lt_of_cell? _ _ r0)]; exact r0
          have C1 : ∀ W, Below wc.heap.size wc W → W.cell? ⟨g, 1, none⟩ = some (.int .i64 (q : Int)) := fun W hW => by rw [hW.cell (World.block_lt_of_cell? _ _ r1)]; exact r1
          have C2 : ∀ W, Below wc.heap.size wc W → W.cell? ⟨g, 2, none⟩ = some (.slice A5 n c5) := fun W hW => by rw [hW.cell (World.block_lt_of_cell? _ _ r2)]; exact r2
          have HC := Lib.hid (And.intro C0 (And.intro C1 C2))
          obtain ⟨P, hP⟩ : ∃ P, putR (x0.toNat : Int) (q : Int) body = P := ⟨_, rfl⟩
          have HBS5 := Lib.hid hbs5
          have HPUT : Hid (∀ W, Below wc.heap.size wc W → Calls Try.prog 13 #[.agg #[.int .i64 (x0.toNat : Int), .int .i64 (q : Int), .slice A5 n c5]] W (RetOb 5 W P)) := Lib.hid fun W hW => by
            have := rput_any (x0.toNat : Int) (q : Int) A5 body c5 W (HBS5.out.below hW) (by omega) (by omega) (by omega) (by omega) (by rw [Hbl.out]; omega)
            rw [hP, Hbl.out] at this
            exact this
          have HIS : Hid (isR b ↔ P = b.take s) := Lib.hid (by
            unfold isR
            rw [Hx0.out, Hq.out, Hbody.out, hP, Hn.out, Hs.out]
            constructor
            · exact fun h => h.2.2.2
            · exact fun h => ⟨by omega, by omega, by omega, h⟩)
          have hsh := slice_head (some ⟨gb, go, none⟩) L c s (by omega)
          have hbsw := (hbs.below kb5).take s
          obtain ⟨st, Hst⟩ : ∃ st, Hid (strB (b.take s) = st) := ⟨_, rfl⟩
          have cv2 : ∀ W, Below wc.heap.size wc W → (convert 22 9 (.slice (some ⟨gb, go, none⟩) s c)).run Try.prog W = .ok (.string st) W := fun W hW => by
            rw [← Hst.out]
            exact run_conv_bs W _ 5 _ Try.underlying22 Try.underlying5 Try.underlying9 _ _ _ _ (hbsw.below hW) (by rw [List.length_take]; omega)
          have KB5 := Lib.hid kb5
          obtain ⟨sp, Hsp⟩ : ∃ sp, Hid (strB P = sp) := ⟨_, rfl⟩
          have hK : Below wc.heap.size wc wc := Below.refl _ _
          clear hbs5 hbsw hbs kb5 hP HNUM s4 s8 hS0 r0 r1 r2
          go_upto_region 8 with fail
          go_wp2_with fail
          -- REGION8
          refine wp_region_noPanic ?_
          refine wp_region_held_drew (S := fun W => Below wc.heap.size wc W) (by kernel_rfl) (by exact (Below.refl _ _).drew) (fun hS => ?_)
          refine' take_at 0 rfl (by kernel_rfl) (by kernel_rfl) (by kernel_rfl) (fun _ _ _ h => h) (by rfl) hS ?_ ?_ ?_
          rotate_left 2
          · intro W hSW; go_simp; try with_reducible rfl
          · simp only [List.set_cons_succ, List.set_cons_zero]; rfl
          refine' take_at 3 rfl (by kernel_rfl) (by kernel_rfl) (by kernel_rfl) (fun _ _ _ h => h) (by rfl) hS ?_ ?_ ?_
          rotate_left 2
          · intro W hSW; go_simp; try with_reducible rfl
          · simp only [List.set_cons_succ, List.set_cons_zero]; rfl
          refine' take_at 4 rfl (by kernel_rfl) (by kernel_rfl) (by kernel_rfl) (fun _ _ _ h => h) (by rfl) hS ?_ ?_ ?_
          rotate_left 2
          · intro W hSW; go_simp; try with_reducible rfl
          · simp only [List.set_cons_succ, List.set_cons_zero]; rfl
          refine' take_at 5 rfl (by kernel_rfl) (by kernel_rfl) (by kernel_rfl) (fun _ _ _ h => h) (by rfl) hS ?_ ?_ ?_
          rotate_left 2
          · intro W hSW; go_simp; try with_reducible rfl
          · simp only [List.set_cons_succ, List.set_cons_zero]; rfl
          refine' take_at 6 rfl (by kernel_rfl) (by kernel_rfl) (by kernel_rfl) (fun _ _ _ h => h) (by rfl) hS ?_ ?_ ?_
          rotate_left 2
          · intro W hSW; go_simp; try with_reducible rfl
          · simp only [List.set_cons_succ, List.set_cons_zero]; rfl
          refine call_at 1 rfl (by kernel_rfl) (by rfl) (fun K hK => ?_)
          go_simp
          with_reducible refine (HPUT.out _ hS).mono ?_
          rintro e w6 ⟨v6, rfl, ho6, hb6⟩
          obtain ⟨A6, c6, rfl, hbs6, -⟩ := ho6.form
          have kS6 := below_on hS hb6
          have cv6 : ∀ W, Below w6.heap.size w6 W → (convert 22 9 (.slice A6 P.length c6)).run Try.prog W = .ok (.string sp) W := fun W hW => by
            rw [← Hsp.out]
            exact run_conv_bs W _ 5 _ Try.underlying22 Try.underlying5 Try.underlying9 A6 P c6 _ (hbs6.below hW) rfl
          clear hS ho6 hb6 hbs6
          refine hK.out _ _ (by exact kS6) (fun hS => ?_)
          clear hK K
          refine held_mono (S2 := fun W => Below w6.heap.size w6 W) (fun W hW => below_on kS6 hW) _ _ _ _ ?_
          replace hS : Below w6.heap.size w6 w6 := Below.refl _ _
          replace cv2 : ∀ W, Below w6.heap.size w6 W → (convert 22 9 (.slice (some ⟨gb, go, none⟩) s c)).run Try.prog W = .ok (.string st) W := fun W hW => cv2 W (below_on kS6 hW)
          refine' take_at 2 rfl (by kernel_rfl) (by kernel_rfl) (by kernel_rfl) (fun _ _ _ h => h) (by rfl) hS ?_ ?_ ?_
          rotate_left 2
          · intro W hSW; go_simp; try with_reducible rfl
          · simp only [List.set_cons_succ, List.set_cons_zero]; rfl
          refine' take_at 7 rfl (by kernel_rfl) (by kernel_rfl) (by kernel_rfl) (fun _ _ _ h => h) (by rfl) hS ?_ ?_ ?_
          rotate_left 2
          · intro W hSW; go_simp; try with_reducible rfl
          · simp only [List.set_cons_succ, List.set_cons_zero]; rfl
          refine wpAnyH_done (by kernel_rfl) ?_ _
          refine NoPanic.normal ?_
          -- BEHIND8
          clear C0 C1 C2
          have r0 : w6.cell? ⟨g, 0, none⟩ = _ := HC.out.1 w6 kS6
          have r1 : w6.cell? ⟨g, 1, none⟩ = _ := HC.out.2.1 w6 kS6
          have r2 : w6.cell? ⟨g, 2, none⟩ = _ := HC.out.2.2 w6 kS6
          have hg0 := HG.out w6 (below_on KB5.out kS6)
          have HB6 : Hid (Below w.heap.size w w6) := Lib.hid (below_on Hb0.out (below_on KB5.out kS6))
          obtain ⟨bb, hbb⟩ : ∃ bb, (!sp.toList == st.toList) = bb := ⟨_, rfl⟩
          rw [hbb]
          by_cases hpre : P = b.take s
          · have hyes : isR b := HIS.out.2 hpre
            have HY : Hid (∀ w', Below w.heap.size w w' → Bs w' A5 body → GetPost w b (.returned (.tuple #[.agg #[.int .i64 (x0.toNat : Int), .int .i64 (q : Int), .slice A5 n c5], .int .i64 (s : Int), .bool true])) w') := Lib.hid fun w' hb' hbs' =>
                ⟨hb', .inl ⟨hyes, A5, c5, by rw [Hx0.out, Hq.out, Hbody.out, Hbl.out, Hn.out, Hs.out], by rw [Hbody.out]; exact hbs'⟩⟩
            have hss : bb = false := by rw [← hbb, ← Hsp.out, ← Hst.out, hpre]; simp
            subst hss
            clear hbb
            have HB5 := Lib.hid (HBS5.out.below kS6)
            have oc : (#[Value.int .i64 (x0.toNat : Int), .int .i64 (q : Int), .slice A5 n c5] : Array Value).all (·.oneCell') = true := by simp [Value.oneCell']
            clear hyes hpre cv6 cv2
            go_wp2_with (refine wpList_store_row rfl 24 (.tmp 2) (.tmp 50) rfl w.heap.size _ rfl rfl 24 zeroR hg0 (infoR _ rfl) rfl oc ?_)
            (try simp only [Exit.inBlock, Exit.then])
            refine bodyPost_ret (results_cell3 rfl _ _ w.heap.size _ _ _ _ rfl (setRow_heap _ _ _ _ _ _ hg0) Try.underlying24 rfl (infoR _ rfl)) rfl ?_
            refine HY.out _ (below_setRow HB6.out (Nat.le_refl _)) ?_
            intro hl
            obtain ⟨bb, oo, e, hcc⟩ := HB5.out hl
            refine ⟨bb, oo, e, fun j hj => ?_⟩
            rw [cell_setRow_other _ _ _ _ (HOFF.out bb ⟨_, e, rfl⟩)]
            exact hcc j hj
          · have hno : ¬ isR b := fun h => hpre (HIS.out.1 h)
            have HP : Hid (∀ w', Below w.heap.size w w' → GetPost w b noneR w') := Lib.hid (HN.out hno)
            have hss : bb = true := by
              rw [← hbb, Bool.not_eq_true', Go.Lib.bytes_beq_false_iff, ← Hsp.out, ← Hst.out]
              exact fun h => hpre (strB_inj.1 h)
            subst hss
            clear hbb
            clear hno hpre cv6 cv2 HN
            go_wp2_with (refine wpList_store_row rfl 24 (.tmp 2) (.tmp 49) rfl w.heap.size zeroR rfl rfl 24 zeroR hg0 (infoR _ rfl) rfl zeroR_one ?_)
            (try simp only [Exit.inBlock, Exit.then])
            refine bodyPost_ret (results_cell3 rfl _ _ w.heap.size _ zeroR _ _ rfl (setRow_heap _ _ _ _ _ _ hg0) Try.underlying24 rfl (infoR _ rfl)) rfl ?_
            exact HP.out _ (below_setRow HB6.out (Nat.le_refl _))
end Go.Proofs.Ytddalnmoahpljaa

