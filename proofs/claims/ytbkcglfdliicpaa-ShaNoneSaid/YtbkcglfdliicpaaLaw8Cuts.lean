/- ShaParts walked, over whatever the program's Hash is. Written by wip/tools/mk_law8.py. -/
import Derived.Test.YtbkcglfdliicpaaLaw8Parts
namespace Go.Proofs.Ytbkcglfdliicpaa
open Go.RowKit
set_option linter.unusedVariables false
set_option maxRecDepth 100000

set_option maxHeartbeats 3200000 in
theorem law8Parts {H : HashP} (C : ShaC H) (A B : Option Addr) (l : List UInt8) (L : List Int) (c c' : Nat) (w : World) (hb : Bs w A l) (hc : l.length ≤ c) (hL : IntRow w B L) :
    Calls Try.prog 4 #[.slice A l.length c, .slice B L.length c'] w fun e w' => e = .returned (.bool true) ∧ Below w.heap.size w w' := by
  have HA := Lib.hid (fun W => alive8_any C W)
  obtain ⟨n, hn⟩ : ∃ n, l.length = n := ⟨_, rfl⟩
  obtain ⟨x, hx⟩ : ∃ n, L.length = n := ⟨_, rfl⟩
  have HN := Lib.hid hn
  have HX := Lib.hid hx
  rw [hn] at hc ⊢
  rw [hx]
  by_cases g0 : 700 < n
  · have d0 : decide ((700 : Int) < (n : Int)) = true := decide_eq_true (by omega)
    clear g0
    go_enter Try.func4, Try.ntmps4
    go_wp2_with fail
    with_reducible refine (HA.out _).mono ?_
    rintro e w1 ⟨rfl, hb1⟩
    go_wp2_with fail
    go_ret
    exact ⟨rfl, hb1⟩
  · have d0 : decide ((700 : Int) < (n : Int)) = false := decide_eq_false (by omega)
    by_cases g1 : 100 < x
    · have d1 : decide ((100 : Int) < (x : Int)) = true := decide_eq_true (by omega)
      clear g1
      go_enter Try.func4, Try.ntmps4
      go_wp2_with fail
      with_reducible refine (HA.out _).mono ?_
      rintro e w1 ⟨rfl, hb1⟩
      go_wp2_with fail
      go_ret
      exact ⟨rfl, hb1⟩
    · have d1 : decide ((100 : Int) < (x : Int)) = false := decide_eq_false (by omega)
      have HB := Lib.hid hb
      have HLR := Lib.hid hL
      have HNEW := Lib.hid C.new
      have HS0 : Hid (∀ W g F, H W g Sh.nil F → Calls Try.prog 13 #[.pointer (some ⟨g, 0, none⟩)] W fun e w' => e = .returned (.agg (arrB Sh.nil.sum)) ∧ Below W.heap.size W w') := Lib.hid fun W g F h => C.sum h (by decide)
      have HPA : Hid (∀ W g F, H W g Sh.nil F → Bs W A l → IntRow W B L → (∀ k, 0 < l.length → At A k → ¬ F k) → (∀ k, 0 < L.length → At B k → ¬ F k) →
          Calls Try.prog 14 #[.pointer (some ⟨g, 0, none⟩), .slice A n c, .slice B x c'] W fun e w' => e = .returned (.tuple #[]) ∧ ∃ F', H w' g (Sh.nil.add l) F' ∧ (∀ j, F' j → F j ∨ W.heap.size ≤ j) ∧ Only F W w') := Lib.hid fun W g F h h1 h2 h3 h4 => by
        rw [← hn, ← hx]
        exact parts8_any C h A B l L c c' h1 (by omega) h2 h3 h4 (by decide) (by omega) (by omega)
      have hsn : (Sh.nil.add l).n = n := by show 0 + l.length = n; omega
      have HS1 : Hid (∀ W g F, H W g (Sh.nil.add l) F → Calls Try.prog 13 #[.pointer (some ⟨g, 0, none⟩)] W fun e w' => e = .returned (.agg (arrB (digest l))) ∧ Below W.heap.size W w') := Lib.hid fun W g F h => by rw [← sum_digest]; exact C.sum h (by omega)
      have HC1 : Hid (∀ W g F, H W g (Sh.nil.add l) F → Calls Try.prog 15 #[.pointer (some ⟨g, 0, none⟩)] W fun e w' => e = .returned (.int .i64 (n : Int)) ∧ Below W.heap.size W w') := Lib.hid fun W g F h => by rw [← hsn]; exact C.count h (by omega)
      have HOF : Hid (∀ W, Bs W A l → Calls Try.prog 10 #[.slice (some ⟨W.heap.size, 0, none⟩) 1 1] (W.alloc (.cells #[.slice A n c] 22)).drew fun e w' => e = .returned (.agg (arrB (digest l))) ∧ Below W.heap.size W w') := Lib.hid fun W h => (of1_any C W.drew A l n c hn h hc (by omega)).mono fun e w' h => ⟨h.1, ⟨h.2.os, h.2.tape, h.2.output, h.2.size, h.2.block⟩⟩
      have hz := fun u => zero_arr 24 (arrB (List.replicate 64 0)) 64 (by kernel_rfl) u
      obtain ⟨t0, ht0⟩ : ∃ t0, arrB (List.replicate 64 0) = t0 := ⟨_, rfl⟩
      have ht0s : t0.size = 64 := by rw [← ht0, arrB_size]; simp
      rw [ht0] at hz
      have E1 := eq64 (digest l) (digest_len l)
      have hm64 : Try.prog.eqGuardType Try.prog.depth 24 = false := by kernel_rfl
      obtain ⟨D, hD⟩ : ∃ D, arrB (digest l) = D := ⟨_, rfl⟩
      have nD : D.size = 64 := by rw [← hD, arrB_size, digest_len]
      have oD : D.all (·.oneCell') = true := by rw [← hD]; exact arrB_one _
      have iD : (Try.prog.info? 24).map (·.size) = some D.size := by rw [nD]; kernel_rfl
      have sD : t0.size = D.size := by rw [ht0s, nD]
      rw [hD] at HS1 HOF E1
      obtain ⟨S0, hS0e⟩ : ∃ D, arrB Sh.nil.sum = D := ⟨_, rfl⟩
      rw [hS0e] at HS0
      have HK : Hid (∀ {W W' g h F} (Q : Nat → Prop), H W g h F → Only Q W W' → (∀ j, F j → ¬ Q j) → H W' g h F) := Lib.hid C.keep
      have HBL : Hid (∀ {W W' g h F}, H W g h F → Below W.heap.size W W' → H W' g h F) := Lib.hid C.below
      have HLT : Hid (∀ {W g h F}, H W g h F → ∀ j, F j → j < W.heap.size) := Lib.hid C.lt
      generalize hst : Sh.nil.add l = st at *
      clear hD nD hst hsn hS0e ht0 ht0s hb hL hn hx C
      go_enter Try.func4, Try.ntmps4
      go_wp2_with fail
      with_reducible refine (HA.out _).mono ?_
      rintro e w1 ⟨rfl, hb1⟩
      have HB1 := Lib.hid hb1
      have HL1 := Lib.hid (HB.out.below hb1)
      have HR1 := Lib.hid (HLR.out.below hb1)
      clear hb1 HA HB HLR
      go_wp2_with fail
      with_reducible refine (HNEW.out _).mono ?_
      rintro e w2 ⟨g, F, rfl, hh2, hF2, hb2⟩
      have HB2 := Lib.hid hb2
      have HH2 := Lib.hid hh2
      have HF := Lib.hid hF2
      clear hb2 hh2 hF2 HNEW
      go_wp2_with fail
      with_reducible refine (HS0.out _ _ _ HH2.out).mono ?_
      rintro e w3 ⟨rfl, hb3⟩
      have HH3 := Lib.hid (HBL.out HH2.out hb3)
      have HB3 := Lib.hid (below_next HB2.out hb3)
      have HAF : Hid (∀ k, 0 < l.length → At A k → ¬ F k) := Lib.hid fun k hl hk hf => by have := bs_lt HL1.out hl hk; have := HF.out k hf; omega
      have HBF : Hid (∀ k, 0 < L.length → At B k → ¬ F k) := Lib.hid fun k hl hk hf => by
        obtain ⟨b, o, e, hcs⟩ := HR1.out hl
        obtain ⟨a, e2, rfl⟩ := hk
        rw [e] at e2
        injection e2 with e2
        subst e2
        have := World.block_lt_of_cell? w1 _ (hcs 0 hl).1
        have := HF.out _ hf
        simp at *
        omega
      clear hb3 HH2 HB2
      go_wp2_with fail
      with_reducible refine (HPA.out _ _ _ HH3.out (HL1.out.below HB3.out) (HR1.out.below HB3.out) HAF.out HBF.out).mono ?_
      rintro e w4 ⟨rfl, F', hh4, hF4, ho4⟩
      have HH4 := Lib.hid hh4
      have HB4 : Hid (Below w1.heap.size w1 w4) := Lib.hid (HB3.out.trans (ho4.below HB3.out.size (fun k hk hf => by have := HF.out k hf; omega)))
      clear hh4 hF4 ho4 HH3 HB3 HAF HBF HPA HS0
      go_wp2_with fail
      with_reducible refine (HS1.out _ _ _ HH4.out).mono ?_
      rintro e w5 ⟨rfl, hb5⟩
      have HH5 := Lib.hid (HBL.out HH4.out hb5)
      have HB5 := Lib.hid (below_next HB4.out hb5)
      have h0 : (w5.alloc (.cells t0 24)).heap[w5.heap.size]? = some (.cells t0 24 (0, 0)) := heap_alloc_new _ _
      clear hb5 HH4 HB4
      go_upto_region 10 with (refine wpList_store_row rfl 24 (.tmp 7) (.tmp 32) rfl w5.heap.size D rfl rfl 24 t0 h0 iD sD oD ?_)
      have hr6 : ((w5.alloc (.cells t0 24)).setRow w5.heap.size D).heap[w5.heap.size]? = some (.cells D 24 (0, 0)) := setRow_heap _ _ _ _ _ _ h0
      have ho6 : Only (fun j => j = w5.heap.size) w5 ((w5.alloc (.cells t0 24)).setRow w5.heap.size D) := ⟨rfl, rfl, rfl, by simp, fun j hj hn => by rw [setRow_other _ _ _ _ hn, heap_alloc_old _ _ hj]⟩
      have hh6 := HK.out _ HH5.out ho6 (fun j hj hq => by have := HLT.out HH5.out j hj; omega)
      have hb6 : Below w1.heap.size w1 ((w5.alloc (.cells t0 24)).setRow w5.heap.size D) := below_setRow (below_alloc HB5.out _) HB5.out.size
      have hz6 : w5.heap.size < ((w5.alloc (.cells t0 24)).setRow w5.heap.size D).heap.size := by simp
      generalize (w5.alloc (.cells t0 24)).setRow w5.heap.size D = w6 at *
      have HROW : Hid (∀ W, Below w6.heap.size w6 W → W.heap[w5.heap.size]? = some (.cells D 24 (0, 0))) := Lib.hid fun W hW => by rw [hW.block _ hz6]; exact hr6
      have HLW : Hid (∀ W, Below w6.heap.size w6 W → Bs W A l) := Lib.hid fun W hW => (HL1.out.below hb6).below hW
      have HSUM : Hid (∀ W, Below w6.heap.size w6 W → Calls Try.prog 13 #[.pointer (some ⟨g, 0, none⟩)] W fun e w' => e = .returned (.agg D) ∧ Below W.heap.size W w') := Lib.hid fun W hW => HS1.out W g F' (HBL.out hh6 hW)
      have HCNT : Hid (∀ W, Below w6.heap.size w6 W → Calls Try.prog 15 #[.pointer (some ⟨g, 0, none⟩)] W fun e w' => e = .returned (.int .i64 (n : Int)) ∧ Below W.heap.size W w') := Lib.hid fun W hW => HC1.out W g F' (HBL.out hh6 hW)
      have HB6 := Lib.hid hb6
      clear h0 hr6 ho6 hh6 hb6 hz6 HH5 HB5 HS1 HC1 HK HBL HLT HL1 HR1 HF
      refine wp_region_noPanic ?_
      refine wp_region_held_drew (S := fun W => Below w6.heap.size w6 W) (by kernel_rfl) (by exact (Below.refl _ _).drew) (fun hS => ?_)
      refine' take_at 0 rfl (by kernel_rfl) (by kernel_rfl) (by kernel_rfl) (fun _ _ _ h => h) (by rfl) hS ?_ ?_ ?_
      rotate_left 2
      · intro W hSW; exact run_load_row rfl rfl (HROW.out W hSW) Try.underlying24 rfl iD
      · simp only [List.set_cons_succ, List.set_cons_zero]; rfl
      refine' take_at 1 rfl (by kernel_rfl) (by kernel_rfl) (by kernel_rfl) (fun _ _ _ h => h) (by rfl) hS ?_ ?_ ?_
      rotate_left 2
      · intro W hSW; go_simp; try with_reducible rfl
      · simp only [List.set_cons_succ, List.set_cons_zero]; rfl
      refine call_at 2 rfl (by kernel_rfl) (by rfl) (fun K hK => ?_)
      go_simp
      refine hK.out _ _ (by exact Below.alloc hS hS.size _) (fun hS => ?_)
      clear hK K
      refine call_at 3 rfl (by kernel_rfl) (by rfl) (fun K hK => ?_)
      go_simp
      with_reducible refine (HOF.out _ (HLW.out _ (Below.refl _ _))).mono ?_
      rintro e v1 ⟨rfl, hb1⟩
      have kb1 := hb1
      clear hS hb1
      refine hK.out _ _ (by exact kb1) (fun hS => ?_)
      clear hK K
      refine' take_at 4 rfl (by kernel_rfl) (by kernel_rfl) (by kernel_rfl) (fun _ _ _ h => h) (by rfl) hS ?_ ?_ ?_
      rotate_left 2
      · intro W hSW; exact run_eql_agg rfl rfl rfl hm64 (E1 W)
      · simp only [List.set_cons_succ, List.set_cons_zero]; rfl
      refine' take_at 5 rfl (by kernel_rfl) (by kernel_rfl) (by kernel_rfl) (fun _ _ _ h => h) (by rfl) hS ?_ ?_ ?_
      rotate_left 2
      · intro W hSW; go_simp; try with_reducible rfl
      · simp only [List.set_cons_succ, List.set_cons_zero]; rfl
      refine' take_at 6 rfl (by kernel_rfl) (by kernel_rfl) (by kernel_rfl) (fun _ _ _ h => h) (by rfl) hS ?_ ?_ ?_
      rotate_left 2
      · intro W hSW; go_simp; try with_reducible rfl
      · simp only [List.set_cons_succ, List.set_cons_zero]; rfl
      refine' take_at 8 rfl (by kernel_rfl) (by kernel_rfl) (by kernel_rfl) (fun _ _ _ h => h) (by rfl) hS ?_ ?_ ?_
      rotate_left 2
      · intro W hSW; exact run_load_row rfl rfl (HROW.out W hSW) Try.underlying24 rfl iD
      · simp only [List.set_cons_succ, List.set_cons_zero]; rfl
      refine call_at 7 rfl (by kernel_rfl) (by rfl) (fun K hK => ?_)
      go_simp
      with_reducible refine (HSUM.out _ hS).mono ?_
      rintro e v2 ⟨rfl, hb2⟩
      have kb2 := below_on hS hb2
      clear hS hb2
      refine hK.out _ _ (by exact kb2) (fun hS => ?_)
      clear hK K
      refine' take_at 9 rfl (by kernel_rfl) (by kernel_rfl) (by kernel_rfl) (fun _ _ _ h => h) (by rfl) hS ?_ ?_ ?_
      rotate_left 2
      · intro W hSW; exact run_eql_agg rfl rfl rfl hm64 (E1 W)
      · simp only [List.set_cons_succ, List.set_cons_zero]; rfl
      refine' take_at 10 rfl (by kernel_rfl) (by kernel_rfl) (by kernel_rfl) (fun _ _ _ h => h) (by rfl) hS ?_ ?_ ?_
      rotate_left 2
      · intro W hSW; go_simp; try with_reducible rfl
      · simp only [List.set_cons_succ, List.set_cons_zero]; rfl
      refine' take_at 11 rfl (by kernel_rfl) (by kernel_rfl) (by kernel_rfl) (fun _ _ _ h => h) (by rfl) hS ?_ ?_ ?_
      rotate_left 2
      · intro W hSW; go_simp; try with_reducible rfl
      · simp only [List.set_cons_succ, List.set_cons_zero]; rfl
      refine' take_at 12 rfl (by kernel_rfl) (by kernel_rfl) (by kernel_rfl) (fun _ _ _ h => h) (by rfl) hS ?_ ?_ ?_
      rotate_left 2
      · intro W hSW; go_simp; try with_reducible rfl
      · simp only [List.set_cons_succ, List.set_cons_zero]; rfl
      refine' take_at 14 rfl (by kernel_rfl) (by kernel_rfl) (by kernel_rfl) (fun _ _ _ h => h) (by rfl) hS ?_ ?_ ?_
      rotate_left 2
      · intro W hSW; go_simp; try with_reducible rfl
      · simp only [List.set_cons_succ, List.set_cons_zero]; rfl
      refine' take_at 15 rfl (by kernel_rfl) (by kernel_rfl) (by kernel_rfl) (fun _ _ _ h => h) (by rfl) hS ?_ ?_ ?_
      rotate_left 2
      · intro W hSW; go_simp; try with_reducible rfl
      · simp only [List.set_cons_succ, List.set_cons_zero]; rfl
      refine call_at 13 rfl (by kernel_rfl) (by rfl) (fun K hK => ?_)
      go_simp
      with_reducible refine (HCNT.out _ hS).mono ?_
      rintro e v3 ⟨rfl, hb3⟩
      have kb3 := below_on hS hb3
      clear hS hb3
      refine hK.out _ _ (by exact kb3) (fun hS => ?_)
      clear hK K
      refine' take_at 16 rfl (by kernel_rfl) (by kernel_rfl) (by kernel_rfl) (fun _ _ _ h => h) (by rfl) hS ?_ ?_ ?_
      rotate_left 2
      · intro W hSW; go_simp; try with_reducible rfl
      · simp only [List.set_cons_succ, List.set_cons_zero]; rfl
      refine' take_at 17 rfl (by kernel_rfl) (by kernel_rfl) (by kernel_rfl) (fun _ _ _ h => h) (by rfl) hS ?_ ?_ ?_
      rotate_left 2
      · intro W hSW; go_simp; try with_reducible rfl
      · simp only [List.set_cons_succ, List.set_cons_zero]; rfl
      refine' take_at 18 rfl (by kernel_rfl) (by kernel_rfl) (by kernel_rfl) (fun _ _ _ h => h) (by rfl) hS ?_ ?_ ?_
      rotate_left 2
      · intro W hSW; go_simp; try with_reducible rfl
      · simp only [List.set_cons_succ, List.set_cons_zero]; rfl
      refine wpAnyH_done (by kernel_rfl) ?_ _
      refine NoPanic.normal ?_
      go_wp2_with fail
      go_ret
      exact ⟨rfl, below_next (below_next HB1.out HB6.out) kb3⟩
end Go.Proofs.Ytbkcglfdliicpaa

