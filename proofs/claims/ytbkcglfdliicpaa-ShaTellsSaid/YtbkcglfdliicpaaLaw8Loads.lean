/- ShaLoads walked, over whatever the program's Hash is. Written by wip/tools/mk_law8.py. -/
import Derived.Test.YtbkcglfdliicpaaLaw8Mid
namespace Go.Proofs.Ytbkcglfdliicpaa
open Go.RowKit
set_option linter.unusedVariables false
set_option maxRecDepth 100000

set_option maxHeartbeats 6400000 in
theorem law8Loads {H : HashP} (C : ShaC H) (A B : Option Addr) (l m : List UInt8) (c d : Nat) (w : World) (hb : Bs w A l) (hb2 : Bs w B m) (hc : l.length ≤ c) (hd : m.length ≤ d) :
    Calls Try.prog 6 #[.slice A l.length c, .slice B m.length d] w fun e w' => e = .returned (.bool true) ∧ Below w.heap.size w w' := by
  have HA := Lib.hid (fun W => alive8_any C W)
  obtain ⟨n, hn⟩ : ∃ n, l.length = n := ⟨_, rfl⟩
  obtain ⟨k, hk⟩ : ∃ n, m.length = n := ⟨_, rfl⟩
  have HN := Lib.hid hn
  have HKL := Lib.hid hk
  rw [hn] at hc ⊢
  rw [hk] at hd ⊢
  by_cases g0 : 250 < n
  · have d0 : decide ((250 : Int) < (n : Int)) = true := decide_eq_true (by omega)
    clear g0
    go_enter Try.func6, Try.ntmps6
    go_wp2_with fail
    with_reducible refine (HA.out _).mono ?_
    rintro e w1 ⟨rfl, hb1⟩
    go_wp2_with fail
    go_ret
    exact ⟨rfl, hb1⟩
  · have d0 : decide ((250 : Int) < (n : Int)) = false := decide_eq_false (by omega)
    by_cases g1 : 300 < k
    · have d1 : decide ((300 : Int) < (k : Int)) = true := decide_eq_true (by omega)
      clear g1
      go_enter Try.func6, Try.ntmps6
      go_wp2_with fail
      with_reducible refine (HA.out _).mono ?_
      rintro e w1 ⟨rfl, hb1⟩
      go_wp2_with fail
      go_ret
      exact ⟨rfl, hb1⟩
    · have d1 : decide ((300 : Int) < (k : Int)) = false := decide_eq_false (by omega)
      have HB := Lib.hid hb
      have HBM := Lib.hid hb2
      have HMY : Hid (∀ W, Bs W A l → Calls Try.prog 20 #[.slice A n c] W fun e w' => e = .returned (.bool (mayB l)) ∧ w' = W) := Lib.hid fun W h => by rw [← hn]; exact rmay_any A l c W h
      have hnl : n ≤ 250 := by omega
      have hkl : k ≤ 300 := by omega
      by_cases hmay : mayB l = true
      · have hn200 : n = 200 := by rw [← hn]; simp only [mayB, Bool.and_eq_true, decide_eq_true_eq] at hmay; exact hmay.1
        subst hn200
        obtain ⟨hmid, hok, hsn⟩ := mid_load hmay
        obtain ⟨st, hst⟩ : ∃ s, loadB l = s := ⟨_, rfl⟩
        rw [hst] at hmid hok hsn
        obtain ⟨sq, hsq⟩ : ∃ s, st.add m = s := ⟨_, rfl⟩
        have hokq : sq.ok := by rw [← hsq]; exact Sh.add_ok hok m
        have hsqn : sq.n = st.n + k := by rw [← hsq, ← hk]; rfl
        obtain ⟨Q, hQ⟩ : ∃ M, sq.mid = M := ⟨_, rfl⟩
        have hQl : Q.length = 200 := by rw [← hQ]; exact Sh.mid_len hokq
        have hQld : loadB Q = sq := by rw [← hQ]; exact load_mid hokq (by omega)
        obtain ⟨sQ, hsQ⟩ : ∃ s, strB Q = s := ⟨_, rfl⟩
        obtain ⟨D, hD⟩ : ∃ D, arrB st.sum = D := ⟨_, rfl⟩
        obtain ⟨D2, hD2⟩ : ∃ D, arrB sq.sum = D := ⟨_, rfl⟩
        have E1 := eq64 st.sum (bytesS_len _)
        have E2 := eq64 sq.sum (bytesS_len _)
        have hm64 : Try.prog.eqGuardType Try.prog.depth 24 = false := by kernel_rfl
        have hz := fun u => zero_arr 24 (arrB (List.replicate 64 0)) 64 (by kernel_rfl) u
        obtain ⟨t0, ht0⟩ : ∃ t0, arrB (List.replicate 64 0) = t0 := ⟨_, rfl⟩
        have ht0s : t0.size = 64 := by rw [← ht0, arrB_size]; simp
        rw [ht0] at hz
        have nD : D.size = 64 := by rw [← hD, arrB_size]; exact bytesS_len _
        have oD : D.all (·.oneCell') = true := by rw [← hD]; exact arrB_one _
        have iD : (Try.prog.info? 24).map (·.size) = some D.size := by rw [nD]; kernel_rfl
        have sD : t0.size = D.size := by rw [ht0s, nD]
        rw [hD] at E1
        rw [hD2] at E2
        have HQL := Lib.hid hQl
        have HSQ := Lib.hid hsQ
        obtain ⟨N, hN⟩ : ∃ N, st.n = N := ⟨_, rfl⟩
        have HLD : Hid (∀ (W : World) (A : Option Addr) (c : Nat), Bs W A l → 200 ≤ c → Calls Try.prog 17 #[.slice A 200 c] W fun e w' => ∃ g F, e = .returned (.tuple #[.pointer (some ⟨g, 0, none⟩), .bool true]) ∧ H w' g st F ∧ (∀ j, F j → W.heap.size ≤ j) ∧ Below W.heap.size W w') := Lib.hid fun W A c h1 h2 => by
          have h := C.load W A l c h1 (by omega) hmay
          rwa [hn, hst] at h
        have HSU0 : Hid (∀ W g F, H W g st F → Calls Try.prog 13 #[.pointer (some ⟨g, 0, none⟩)] W fun e w' => e = .returned (.agg D) ∧ Below W.heap.size W w') := Lib.hid fun W g F h => by rw [← hD]; exact C.sum h (by omega)
        have HCO : Hid (∀ W g F, H W g st F → Calls Try.prog 15 #[.pointer (some ⟨g, 0, none⟩)] W fun e w' => e = .returned (.int .i64 (N : Int)) ∧ Below W.heap.size W w') := Lib.hid fun W g F h => by rw [← hN]; exact C.count h (by omega)
        have HWR : Hid (∀ W g F, H W g st F → Bs W B m → (∀ k, 0 < m.length → At B k → ¬ F k) → Calls Try.prog 19 #[.pointer (some ⟨g, 0, none⟩), .slice B k d] W fun e w' => e = .returned (.tuple #[]) ∧ ∃ F', H w' g sq F' ∧ (∀ j, F' j → F j ∨ W.heap.size ≤ j) ∧ Only F W w') := Lib.hid fun W g F h h1 h2 => by
          rw [← hk, ← hsq]
          exact C.write B m d h h1 (by omega) h2 (by omega) (by omega)
        have HAF : Hid (∀ W, Bs W A l → Bs W B m → Calls Try.prog 21 #[.slice A 200 c, .slice B k d] W (RetOb 5 W Q)) := Lib.hid fun W h1 h2 => by
          rw [← hk, ← hQ, ← hsq, ← hst]
          exact rafter_any A B l m c d W h1 h2 hmay hc (by omega) (by omega)
        have HRC0 : Hid (∀ W, Bs W A l → Calls Try.prog 22 #[.slice A 200 c] W fun e w' => e = .returned (.int .i64 (N : Int)) ∧ Below W.heap.size W w') := Lib.hid fun W h => by
          refine (rCount_any A l c W h hmay).mono fun e w' h => ⟨?_, by rw [h.2]; exact Below.refl _ _⟩
          rw [h.1, ← hN, ← hst]
          rfl
        have HRF0 : Hid (∀ W, Bs W A l → Calls Try.prog 23 #[.slice A 200 c] W fun e w' => e = .returned (.agg D) ∧ Below W.heap.size W w') := Lib.hid fun W h => by rw [← hD, ← hst]; exact rfrom_any A l c W h hn hc
        have HRF1 : Hid (∀ W A c, Bs W A Q → 200 ≤ c → Calls Try.prog 23 #[.slice A 200 c] W fun e w' => e = .returned (.agg D2) ∧ Below W.heap.size W w') := Lib.hid fun W A c h h2 => by rw [← hD2, ← hQld]; exact rfrom_any A Q c W h hQl h2
        have HSU1 : Hid (∀ W g F, H W g sq F → Calls Try.prog 13 #[.pointer (some ⟨g, 0, none⟩)] W fun e w' => e = .returned (.agg D2) ∧ Below W.heap.size W w') := Lib.hid fun W g F h => by rw [← hD2]; exact C.sum h (by omega)
        have HMD0 : Hid (∀ W g F, H W g sq F → Calls Try.prog 16 #[.pointer (some ⟨g, 0, none⟩)] W (RetOb 5 W Q)) := Lib.hid fun W g F h => by rw [← hQ]; exact C.mid h (by omega)
        have HK : Hid (∀ {W W' g h F} (Q : Nat → Prop), H W g h F → Only Q W W' → (∀ j, F j → ¬ Q j) → H W' g h F) := Lib.hid C.keep
        have HBL : Hid (∀ {W W' g h F}, H W g h F → Below W.heap.size W W' → H W' g h F) := Lib.hid C.below
        have HLT : Hid (∀ {W g h F}, H W g h F → ∀ j, F j → j < W.heap.size) := Lib.hid C.lt
        rw [hmay] at HMY
        clear hb hb2 hn hk hst hmid hok hsn hsq hokq hsqn hQ hQl hQld hsQ hD hD2 nD ht0 ht0s hN C hmay hc hd
        go_enter Try.func6, Try.ntmps6
        go_wp2_with fail
        with_reducible refine (HA.out _).mono ?_
        rintro e w1 ⟨rfl, hb1⟩
        have HB1 := Lib.hid hb1
        have HL1 := Lib.hid (HB.out.below hb1)
        have HM1 := Lib.hid (HBM.out.below hb1)
        have O0 : Hid (Ob 5 w1 w1.heap.size (.slice none 0 0) []) := Lib.hid (Ob.nil_ _ _ _)
        clear hb1 HA HB HBM
        go_wp2_with (at_builtin; refine wpList_append_bs rfl (.const (.slice none 0 0)) (.tmp 26) 22 rfl w1.heap.size 5 Try.underlying22 info5 _ [] rfl O0.out A l 200 c rfl HN.out.symm HL1.out (by rw [HN.out]; simp) (Nat.le_refl _) ?_; intro v2 w2 ho2 hgr2; rw [List.nil_append] at ho2; have HB2 := Lib.hid ((Below.refl w1.heap.size w1).grown hgr2 (Nat.le_refl _) (fun k hk => by cases hk)); obtain ⟨A2, c2, rfl, hbs2, hc2⟩ := ho2.formL HN.out; have HL2 := Lib.hid hbs2; clear ho2 hgr2 hbs2)
        clear O0
        with_reducible refine (HLD.out _ _ _ HL2.out hc2).mono ?_
        rintro e w3 ⟨g, F, rfl, hh3, hF3, hb3⟩
        have HH3 := Lib.hid hh3
        have HB3 := Lib.hid (below_next HB2.out hb3)
        have HF : Hid (∀ j, F j → w1.heap.size ≤ j) := Lib.hid fun j hj => by have := hF3 j hj; have := HB2.out.size; omega
        clear hh3 hF3 hb3 HLD HL2 HB2
        go_wp2_with fail
        with_reducible refine (HMY.out _ (HL1.out.below HB3.out)).mono ?_
        rintro e w4 ⟨rfl, hw4⟩
        subst hw4
        go_wp2_with fail
        with_reducible refine (HSU0.out _ _ _ HH3.out).mono ?_
        rintro e w5 ⟨rfl, hb5⟩
        have HH5 := Lib.hid (HBL.out HH3.out hb5)
        have HB5 := Lib.hid (below_next HB3.out hb5)
        have h0 : (w5.alloc (.cells t0 24)).heap[w5.heap.size]? = some (.cells t0 24 (0, 0)) := heap_alloc_new _ _
        have hr6 : ((w5.alloc (.cells t0 24)).setRow w5.heap.size D).heap[w5.heap.size]? = some (.cells D 24 (0, 0)) := setRow_heap _ _ _ _ _ _ h0
        have ho6 : Only (fun j => j = w5.heap.size) w5 ((w5.alloc (.cells t0 24)).setRow w5.heap.size D) := ⟨rfl, rfl, rfl, by simp, fun j hj hn => by rw [setRow_other _ _ _ _ hn, heap_alloc_old _ _ hj]⟩
        have HH6 := Lib.hid (HK.out _ HH5.out ho6 (fun j hj hq => by have := HLT.out HH5.out j hj; omega))
        have HB6 : Hid (Below w1.heap.size w1 ((w5.alloc (.cells t0 24)).setRow w5.heap.size D)) := Lib.hid (below_setRow (below_alloc HB5.out _) HB5.out.size)
        have hz6 : w5.heap.size < ((w5.alloc (.cells t0 24)).setRow w5.heap.size D).heap.size := by simp
        have HLT5 : Hid (∀ j, F j → j < w5.heap.size) := Lib.hid (HLT.out HH5.out)
        have HR6 := Lib.hid hr6
        have HZ6 := Lib.hid hz6
        clear hb5 HH3 HB3 HH5 HB5 HSU0 HMY hr6 ho6 hz6
        go_wp2_with (refine wpList_store_row rfl 24 (.tmp 8) (.tmp 44) rfl w5.heap.size D rfl rfl 24 t0 h0 iD sD oD ?_)
        with_reducible refine (HCO.out _ _ _ HH6.out).mono ?_
        rintro e w6 ⟨rfl, hb6⟩
        have HH7 := Lib.hid (HBL.out HH6.out hb6)
        have hr7 : w6.heap[w5.heap.size]? = some (.cells D 24 (0, 0)) := by rw [hb6.block _ HZ6.out]; exact HR6.out
        have HR7 := Lib.hid hr7
        have HB7 := Lib.hid (below_next HB6.out hb6)
        have HZ7 : Hid (w5.heap.size < w6.heap.size) := Lib.hid (Nat.lt_of_lt_of_le HZ6.out hb6.size)
        have HBF : Hid (∀ k, 0 < m.length → At B k → ¬ F k) := Lib.hid fun k hl hk hf => by have := bs_lt HM1.out hl hk; have := HF.out k hf; omega
        clear hb6 HH6 HB6 HR6 HZ6 h0 hr7 HCO
        go_wp2_with fail
        with_reducible refine (HWR.out _ _ _ HH7.out (HM1.out.below HB7.out) HBF.out).mono ?_
        rintro e w7 ⟨rfl, F', hh7, -, ho7⟩
        have HH8 := Lib.hid hh7
        have hb7 : Below w1.heap.size w1 w7 := HB7.out.trans (ho7.below HB7.out.size (fun k hk hf => by have := HF.out k hf; omega))
        have HB7' := Lib.hid hb7
        have HR8 : Hid (w7.heap[w5.heap.size]? = some (.cells D 24 (0, 0))) := Lib.hid (by rw [ho7.block _ HZ7.out (fun hf => by have := HLT5.out _ hf; omega)]; exact HR7.out)
        have HZ8 : Hid (w5.heap.size < w7.heap.size) := Lib.hid (Nat.lt_of_lt_of_le HZ7.out ho7.size)
        clear hh7 ho7 hb7 HH7 HB7 HR7 HZ7 HBF HWR HF HLT5
        go_wp2_with fail
        with_reducible refine (HAF.out _ (HL1.out.below HB7'.out) (HM1.out.below HB7'.out)).mono ?_
        rintro e w8 ⟨v8, rfl, ho8, hb8⟩
        obtain ⟨A8, c8, rfl, hbs8, hc8⟩ := ho8.formL HQL.out
        have hb8' := below_next HB7'.out hb8
        have HB8 := Lib.hid (below_next HB1.out hb8')
        have HBQ := Lib.hid hbs8
        have hh8 := HBL.out HH8.out hb8
        have hr8 : w8.heap[w5.heap.size]? = some (.cells D 24 (0, 0)) := by rw [hb8.block _ HZ8.out]; exact HR8.out
        have hz8 : w5.heap.size < w8.heap.size := Nat.lt_of_lt_of_le HZ8.out hb8.size
        have HROW : Hid (∀ W, Below w8.heap.size w8 W → W.heap[w5.heap.size]? = some (.cells D 24 (0, 0))) := Lib.hid fun W hW => by rw [hW.block _ hz8]; exact hr8
        have HRC : Hid (∀ W, Below w8.heap.size w8 W → Calls Try.prog 22 #[.slice A 200 c] W fun e w' => e = .returned (.int .i64 (N : Int)) ∧ Below W.heap.size W w') := Lib.hid fun W hW => HRC0.out W ((HL1.out.below hb8').below hW)
        have HRF : Hid (∀ W, Below w8.heap.size w8 W → Calls Try.prog 23 #[.slice A 200 c] W fun e w' => e = .returned (.agg D) ∧ Below W.heap.size W w') := Lib.hid fun W hW => HRF0.out W ((HL1.out.below hb8').below hW)
        have HSU : Hid (∀ W, Below w8.heap.size w8 W → Calls Try.prog 13 #[.pointer (some ⟨g, 0, none⟩)] W fun e w' => e = .returned (.agg D2) ∧ Below W.heap.size W w') := Lib.hid fun W hW => HSU1.out W _ _ (HBL.out hh8 hW)
        have HRF2 : Hid (∀ W, Below w8.heap.size w8 W → Calls Try.prog 23 #[.slice A8 200 c8] W fun e w' => e = .returned (.agg D2) ∧ Below W.heap.size W w') := Lib.hid fun W hW => HRF1.out W _ _ (hbs8.below hW) hc8
        have HMD : Hid (∀ W, Below w8.heap.size w8 W → Calls Try.prog 16 #[.pointer (some ⟨g, 0, none⟩)] W (RetOb 5 W Q)) := Lib.hid fun W hW => HMD0.out W _ _ (HBL.out hh8 hW)
        have HCQ : Hid (∀ W, Below w8.heap.size w8 W → (convert 22 9 (.slice A8 200 c8)).run Try.prog W = .ok (.string sQ) W) := Lib.hid fun W hW => by
          rw [← HSQ.out]
          exact run_conv_bs W _ 5 _ Try.underlying22 Try.underlying5 Try.underlying9 A8 Q c8 _ (HBQ.out.below hW) HQL.out.symm
        clear ho8 hbs8 hb8 hb8' hh8 hr8 hz8 HH8 HB7' HR8 HZ8 HAF HRC0 HRF0 HRF1 HSU1 HMD0 HK HBL HLT HL1 HM1 HB1
        go_upto_region 13 with fail
        refine wp_region_noPanic ?_
        refine wp_region_held_drew (S := fun W => Below w8.heap.size w8 W) (by kernel_rfl) (by exact (Below.refl _ _).drew) (fun hS => ?_)
        refine' take_at 0 rfl (by kernel_rfl) (by kernel_rfl) (by kernel_rfl) (fun _ _ _ h => h) (by rfl) hS ?_ ?_ ?_
        rotate_left 2
        · intro W hSW; go_simp; try with_reducible rfl
        · simp only [List.set_cons_succ, List.set_cons_zero]; rfl
        refine' take_at 1 rfl (by kernel_rfl) (by kernel_rfl) (by kernel_rfl) (fun _ _ _ h => h) (by rfl) hS ?_ ?_ ?_
        rotate_left 2
        · intro W hSW; go_simp; try with_reducible rfl
        · simp only [List.set_cons_succ, List.set_cons_zero]; rfl
        refine call_at 2 rfl (by kernel_rfl) (by rfl) (fun K hK => ?_)
        go_simp
        with_reducible refine (HRC.out _ hS).mono ?_
        rintro e v1 ⟨rfl, hb1⟩
        have kb1 := below_on hS hb1
        clear hS hb1
        refine hK.out _ _ (by exact kb1) (fun hS => ?_)
        clear hK K
        refine' take_at 3 rfl (by kernel_rfl) (by kernel_rfl) (by kernel_rfl) (fun _ _ _ h => h) (by rfl) hS ?_ ?_ ?_
        rotate_left 2
        · intro W hSW; go_simp; try with_reducible rfl
        · simp only [List.set_cons_succ, List.set_cons_zero]; rfl
        refine' take_at 4 rfl (by kernel_rfl) (by kernel_rfl) (by kernel_rfl) (fun _ _ _ h => h) (by rfl) hS ?_ ?_ ?_
        rotate_left 2
        · intro W hSW; go_simp; try with_reducible rfl
        · simp only [List.set_cons_succ, List.set_cons_zero]; rfl
        refine' take_at 5 rfl (by kernel_rfl) (by kernel_rfl) (by kernel_rfl) (fun _ _ _ h => h) (by rfl) hS ?_ ?_ ?_
        rotate_left 2
        · intro W hSW; exact run_load_row rfl rfl (HROW.out W hSW) Try.underlying24 rfl iD
        · simp only [List.set_cons_succ, List.set_cons_zero]; rfl
        refine' take_at 6 rfl (by kernel_rfl) (by kernel_rfl) (by kernel_rfl) (fun _ _ _ h => h) (by rfl) hS ?_ ?_ ?_
        rotate_left 2
        · intro W hSW; go_simp; try with_reducible rfl
        · simp only [List.set_cons_succ, List.set_cons_zero]; rfl
        refine call_at 7 rfl (by kernel_rfl) (by rfl) (fun K hK => ?_)
        go_simp
        with_reducible refine (HRF.out _ hS).mono ?_
        rintro e v2 ⟨rfl, hb2⟩
        have kb2 := below_on hS hb2
        clear hS hb2
        refine hK.out _ _ (by exact kb2) (fun hS => ?_)
        clear hK K
        refine' take_at 8 rfl (by kernel_rfl) (by kernel_rfl) (by kernel_rfl) (fun _ _ _ h => h) (by rfl) hS ?_ ?_ ?_
        rotate_left 2
        · intro W hSW; exact run_eql_agg rfl rfl rfl hm64 (E1 W)
        · simp only [List.set_cons_succ, List.set_cons_zero]; rfl
        refine' take_at 9 rfl (by kernel_rfl) (by kernel_rfl) (by kernel_rfl) (fun _ _ _ h => h) (by rfl) hS ?_ ?_ ?_
        rotate_left 2
        · intro W hSW; go_simp; try with_reducible rfl
        · simp only [List.set_cons_succ, List.set_cons_zero]; rfl
        refine' take_at 10 rfl (by kernel_rfl) (by kernel_rfl) (by kernel_rfl) (fun _ _ _ h => h) (by rfl) hS ?_ ?_ ?_
        rotate_left 2
        · intro W hSW; go_simp; try with_reducible rfl
        · simp only [List.set_cons_succ, List.set_cons_zero]; rfl
        refine' take_at 11 rfl (by kernel_rfl) (by kernel_rfl) (by kernel_rfl) (fun _ _ _ h => h) (by rfl) hS ?_ ?_ ?_
        rotate_left 2
        · intro W hSW; go_simp; try with_reducible rfl
        · simp only [List.set_cons_succ, List.set_cons_zero]; rfl
        refine' take_at 13 rfl (by kernel_rfl) (by kernel_rfl) (by kernel_rfl) (fun _ _ _ h => h) (by rfl) hS ?_ ?_ ?_
        rotate_left 2
        · intro W hSW; go_simp; try with_reducible rfl
        · simp only [List.set_cons_succ, List.set_cons_zero]; rfl
        refine call_at 12 rfl (by kernel_rfl) (by rfl) (fun K hK => ?_)
        go_simp
        with_reducible refine (HSU.out _ hS).mono ?_
        rintro e v3 ⟨rfl, hb3⟩
        have kb3 := below_on hS hb3
        clear hS hb3
        refine hK.out _ _ (by exact kb3) (fun hS => ?_)
        clear hK K
        refine call_at 14 rfl (by kernel_rfl) (by rfl) (fun K hK => ?_)
        go_simp
        with_reducible refine (HRF2.out _ hS).mono ?_
        rintro e v4 ⟨rfl, hb4⟩
        have kb4 := below_on hS hb4
        clear hS hb4
        refine hK.out _ _ (by exact kb4) (fun hS => ?_)
        clear hK K
        refine' take_at 15 rfl (by kernel_rfl) (by kernel_rfl) (by kernel_rfl) (fun _ _ _ h => h) (by rfl) hS ?_ ?_ ?_
        rotate_left 2
        · intro W hSW; exact run_eql_agg rfl rfl rfl hm64 (E2 W)
        · simp only [List.set_cons_succ, List.set_cons_zero]; rfl
        refine' take_at 16 rfl (by kernel_rfl) (by kernel_rfl) (by kernel_rfl) (fun _ _ _ h => h) (by rfl) hS ?_ ?_ ?_
        rotate_left 2
        · intro W hSW; go_simp; try with_reducible rfl
        · simp only [List.set_cons_succ, List.set_cons_zero]; rfl
        refine' take_at 17 rfl (by kernel_rfl) (by kernel_rfl) (by kernel_rfl) (fun _ _ _ h => h) (by rfl) hS ?_ ?_ ?_
        rotate_left 2
        · intro W hSW; go_simp; try with_reducible rfl
        · simp only [List.set_cons_succ, List.set_cons_zero]; rfl
        refine' take_at 18 rfl (by kernel_rfl) (by kernel_rfl) (by kernel_rfl) (fun _ _ _ h => h) (by rfl) hS ?_ ?_ ?_
        rotate_left 2
        · intro W hSW; go_simp; try with_reducible rfl
        · simp only [List.set_cons_succ, List.set_cons_zero]; rfl
        refine' take_at 21 rfl (by kernel_rfl) (by kernel_rfl) (by kernel_rfl) (fun _ _ _ h => h) (by rfl) hS ?_ ?_ ?_
        rotate_left 2
        · intro W hSW; go_simp; try with_reducible rfl
        · simp only [List.set_cons_succ, List.set_cons_zero]; rfl
        refine' take_at 22 rfl (by kernel_rfl) (by kernel_rfl) (by kernel_rfl) (fun _ _ _ h => h) (by rfl) hS ?_ ?_ ?_
        rotate_left 2
        · intro W hSW; exact run_conv_op rfl rfl (HCQ.out W hSW)
        · simp only [List.set_cons_succ, List.set_cons_zero]; rfl
        refine call_at 19 rfl (by kernel_rfl) (by rfl) (fun K hK => ?_)
        go_simp
        with_reducible refine (HMD.out _ hS).mono ?_
        rintro e v5 ⟨x5, rfl, ho5, hb5⟩
        obtain ⟨A5, c5, rfl, hbs5, hcc5⟩ := ho5.formL HQL.out
        have kb5 := below_on hS hb5
        have cv5 : ∀ W, Below v5.heap.size v5 W → (convert 22 9 (.slice A5 200 c5)).run Try.prog W = .ok (.string sQ) W := fun W hW => by
          rw [← HSQ.out]
          exact run_conv_bs W _ 5 _ Try.underlying22 Try.underlying5 Try.underlying9 A5 Q c5 _ (hbs5.below hW) HQL.out.symm
        clear hS ho5 hb5
        refine hK.out _ _ (by exact kb5) (fun hS => ?_)
        clear hK K
        refine held_mono (S2 := fun W => Below v5.heap.size v5 W) (fun W hW => below_on kb5 hW) _ _ _ _ ?_
        replace hS : Below v5.heap.size v5 v5 := Below.refl _ _
        refine' take_at 20 rfl (by kernel_rfl) (by kernel_rfl) (by kernel_rfl) (fun _ _ _ h => h) (by rfl) hS ?_ ?_ ?_
        rotate_left 2
        · intro W hSW; exact run_conv_op rfl rfl (cv5 W hSW)
        · simp only [List.set_cons_succ, List.set_cons_zero]; rfl
        refine' take_at 23 rfl (by kernel_rfl) (by kernel_rfl) (by kernel_rfl) (fun _ _ _ h => h) (by rfl) hS ?_ ?_ ?_
        rotate_left 2
        · intro W hSW; go_simp; try with_reducible rfl
        · simp only [List.set_cons_succ, List.set_cons_zero]; rfl
        refine' take_at 24 rfl (by kernel_rfl) (by kernel_rfl) (by kernel_rfl) (fun _ _ _ h => h) (by rfl) hS ?_ ?_ ?_
        rotate_left 2
        · intro W hSW; go_simp; try with_reducible rfl
        · simp only [List.set_cons_succ, List.set_cons_zero]; rfl
        refine' take_at 25 rfl (by kernel_rfl) (by kernel_rfl) (by kernel_rfl) (fun _ _ _ h => h) (by rfl) hS ?_ ?_ ?_
        rotate_left 2
        · intro W hSW; go_simp; try with_reducible rfl
        · simp only [List.set_cons_succ, List.set_cons_zero]; rfl
        refine wpAnyH_done (by kernel_rfl) ?_ _
        refine NoPanic.normal ?_
        have hfin := (below_on kb5 hS)
        go_wp2_with fail
        go_ret
        exact ⟨rfl, below_next HB8.out hfin⟩
      · have hno : mayB l = false := by cases h : mayB l <;> simp_all
        have HLN : Hid (∀ (W : World) (A : Option Addr) (c : Nat), Bs W A l → n ≤ c → Calls Try.prog 17 #[.slice A n c] W fun e w' => e = .returned (.tuple #[.pointer none, .bool false]) ∧ Below W.heap.size W w') := Lib.hid fun W A c h1 h2 => by
          rw [← hn]
          exact C.loadNo W A l c h1 (by omega) (by omega) hno
        rw [hno] at HMY
        clear hb hb2 hn hk C hmay hno hc hd
        go_enter Try.func6, Try.ntmps6
        go_wp2_with fail
        with_reducible refine (HA.out _).mono ?_
        rintro e w1 ⟨rfl, hb1⟩
        have HB1 := Lib.hid hb1
        have HL1 := Lib.hid (HB.out.below hb1)
        have O0 : Hid (Ob 5 w1 w1.heap.size (.slice none 0 0) []) := Lib.hid (Ob.nil_ _ _ _)
        clear hb1 HA HB HBM
        go_wp2_with (at_builtin; refine wpList_append_bs rfl (.const (.slice none 0 0)) (.tmp 26) 22 rfl w1.heap.size 5 Try.underlying22 info5 _ [] rfl O0.out A l n c rfl HN.out.symm HL1.out (by rw [HN.out]; simp; omega) (Nat.le_refl _) ?_; intro v2 w2 ho2 hgr2; rw [List.nil_append] at ho2; have HB2 := Lib.hid ((Below.refl w1.heap.size w1).grown hgr2 (Nat.le_refl _) (fun k hk => by cases hk)); obtain ⟨A2, c2, rfl, hbs2, hc2⟩ := ho2.formL HN.out; have HL2 := Lib.hid hbs2; clear ho2 hgr2 hbs2)
        clear O0
        with_reducible refine (HLN.out _ _ _ HL2.out hc2).mono ?_
        rintro e w3 ⟨rfl, hb3⟩
        have HB3 := Lib.hid (below_next HB2.out hb3)
        clear hb3 HLN HL2 HB2
        go_wp2_with fail
        with_reducible refine (HMY.out _ (HL1.out.below HB3.out)).mono ?_
        rintro e w4 ⟨rfl, hw4⟩
        subst hw4
        go_wp2_with fail
        go_ret
        exact ⟨rfl, below_next HB1.out HB3.out⟩
end Go.Proofs.Ytbkcglfdliicpaa

