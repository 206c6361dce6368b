/- ShaNone walked, over whatever the program's Hash is. Written by wip/tools/mk_law8.py. -/
import Derived.Test.YtbkcglfdliicpaaLaw8Loads
namespace Go.Proofs.Ytbkcglfdliicpaa
open Go.RowKit
set_option linter.unusedVariables false
set_option maxRecDepth 100000

def aggOf : Option Value → Option (Array Value)
  | some (.agg z) => some z
  | _ => none
theorem zero_ex (T : TypeId) (h : ((Try.prog.info? T).bind fun i => aggOf i.zero).isSome = true) : ∃ Z, ∀ u : World, (zeroValue T).run Try.prog u = .ok (.agg Z) u := by
  obtain ⟨Z, hZ⟩ := Option.isSome_iff_exists.1 h
  refine ⟨Z, fun u => ?_⟩
  cases hi : Try.prog.info? T with
  | none => rw [hi] at hZ; cases hZ
  | some i =>
    rw [hi] at hZ
    simp only [Option.bind_some] at hZ
    have hz : i.zero = some (.agg Z) := by
      unfold aggOf at hZ
      split at hZ
      · rename_i z hz; injection hZ with e; rw [hz, e]
      · cases hZ
    simp [zeroValue, typeInfo, hi, hz]

set_option maxHeartbeats 6400000 in
theorem law8None {H : HashP} (C : ShaC H) (A : Option Addr) (l : List UInt8) (c : Nat) (w : World) (hb : Bs w A l) (hc : l.length ≤ c) :
    Calls Try.prog 8 #[.slice A l.length c] w fun e w' => e = .returned (.bool true) ∧ Below w.heap.size w w' := by
  have HA := Lib.hid (fun W => alive8_any C W)
  obtain ⟨n, hn⟩ : ∃ n, l.length = n := ⟨_, rfl⟩
  have HN := Lib.hid hn
  rw [hn] at hc ⊢
  by_cases g0 : 300 < n
  · have d0 : decide ((300 : Int) < (n : Int)) = true := decide_eq_true (by omega)
    clear g0
    go_enter Try.func8, Try.ntmps8
    go_wp2_with fail
    with_reducible refine (HA.out _).mono ?_
    rintro e w1 ⟨rfl, hb1⟩
    go_wp2_with fail
    go_ret
    exact ⟨rfl, hb1⟩
  · have d0 : decide ((300 : Int) < (n : Int)) = false := decide_eq_false (by omega)
    have HB := Lib.hid hb
    have hnl : n ≤ 300 := by omega
    obtain ⟨Z, hZ⟩ : ∃ Z, ∀ u : World, (zeroValue 52).run Try.prog u = .ok (.agg Z) u := zero_ex 52 (by kernel_rfl)
    obtain ⟨st, hst⟩ : ∃ s, Sh.nil.add l = s := ⟨_, rfl⟩
    have hsn : st.n = n := by rw [← hst]; show 0 + l.length = n; omega
    obtain ⟨Q, hQ⟩ : ∃ M, Sh.nil.mid = M := ⟨_, rfl⟩
    have hQl : Q.length = 200 := by rw [← hQ]; exact Sh.mid_len Sh.nil_ok
    obtain ⟨sQ, hsQ⟩ : ∃ s, strB Q = s := ⟨_, rfl⟩
    obtain ⟨D0, hD0⟩ : ∃ D, arrB (digest []) = D := ⟨_, rfl⟩
    obtain ⟨D, hD⟩ : ∃ D, arrB (digest l) = D := ⟨_, rfl⟩
    have E0 := eq64 (digest []) (digest_len _)
    have E1 := eq64 (digest l) (digest_len _)
    have hm64 : Try.prog.eqGuardType Try.prog.depth 24 = false := by kernel_rfl
    rw [hD0] at E0
    rw [hD] at E1
    have HQL := Lib.hid hQl
    have HSQ := Lib.hid hsQ
    have HWN : Hid (∀ W, Bs W A l → Calls Try.prog 19 #[.pointer none, .slice A n c] W fun e w' => e = .returned (.tuple #[]) ∧ Below W.heap.size W w') := Lib.hid fun W h => by rw [← hn]; exact C.writeNo W A l c h
    have HCN0 := Lib.hid C.countNo
    have HSN0 : Hid (∀ W : World, Calls Try.prog 13 #[.pointer none] W fun e w' => e = .returned (.agg D0) ∧ Below W.heap.size W w') := Lib.hid fun W => by rw [← hD0]; exact C.sumNo W
    have HMN0 : Hid (∀ W : World, Calls Try.prog 16 #[.pointer none] W (RetOb 5 W Q)) := Lib.hid fun W => by rw [← hQ]; exact C.midNo W
    have HO00 : Hid (∀ W : World, Calls Try.prog 10 #[.slice none 0 0] W fun e w' => e = .returned (.agg D0) ∧ Below W.heap.size W w') := Lib.hid fun W => by
      rw [← hD0]
      exact C.of W none [] 0 (rowAt_nil _ _) (by simp) (by simp) (by simp [rowsB])
    have HRM0 : Hid (∀ W : World, Calls Try.prog 18 #[.slice none 0 0] W (RetOb 5 W Q)) := Lib.hid fun W => by
      have h := rmid_any none [] 0 W (Bs.nil_ _ _) (by simp) (by simp)
      rw [Sh.add_nil Sh.nil_ok, hQ] at h
      exact h
    have HZ : Hid (∀ W : World, H (W.alloc (.cells Z 52)) W.heap.size Sh.nil (fun j => j = W.heap.size)) := Lib.hid fun W => C.zero W Z (hZ W)
    have HWR : Hid (∀ W g F, H W g Sh.nil F → Bs W A l → (∀ k, 0 < l.length → At A k → ¬ F k) → Calls Try.prog 19 #[.pointer (some ⟨g, 0, none⟩), .slice A n c] W fun e w' => e = .returned (.tuple #[]) ∧ ∃ F', H w' g st F' ∧ (∀ j, F' j → F j ∨ W.heap.size ≤ j) ∧ Only F W w') := Lib.hid fun W g F h h1 h2 => by
      rw [← hn, ← hst]
      exact C.write A l c h h1 (by omega) h2 (by decide) (by omega)
    have HSU1 : Hid (∀ W g F, H W g st F → Calls Try.prog 13 #[.pointer (some ⟨g, 0, none⟩)] W fun e w' => e = .returned (.agg D) ∧ Below W.heap.size W w') := Lib.hid fun W g F h => by
      have := C.sum h (by omega)
      rwa [← hst, sum_digest, hD] at this
    have HCO1 : Hid (∀ W g F, H W g st F → Calls Try.prog 15 #[.pointer (some ⟨g, 0, none⟩)] W fun e w' => e = .returned (.int .i64 (n : Int)) ∧ Below W.heap.size W w') := Lib.hid fun W g F h => by rw [← hsn]; exact C.count h (by omega)
    have HOF1 : Hid (∀ (W : World) (g : Nat), W.heap[g]? = some (.cells #[.slice A n c] 22 (0, 0)) → Bs W A l → Calls Try.prog 10 #[.slice (some ⟨g, 0, none⟩) 1 1] W fun e w' => e = .returned (.agg D) ∧ Below W.heap.size W w') := Lib.hid fun W g h h1 => by rw [← hD]; exact of1g_any C W g A l n c hn h h1 hc (by omega)
    have HBL : Hid (∀ {W W' g h F}, H W g h F → Below W.heap.size W W' → H W' g h F) := Lib.hid C.below
    clear hb hn hst hsn hQ hQl hsQ hD hD0 C hc
    go_enter Try.func8, Try.ntmps8
    go_wp2_with fail
    with_reducible refine (HA.out _).mono ?_
    rintro e w1 ⟨rfl, hb1⟩
    have HB1 := Lib.hid hb1
    have HL1 := Lib.hid (HB.out.below hb1)
    clear hb1 HA HB
    go_wp2_with fail
    with_reducible refine (HWN.out _ HL1.out).mono ?_
    rintro e w2 ⟨rfl, hb2⟩
    have HB2 := Lib.hid hb2
    have HH3 := Lib.hid (HZ.out w2)
    have HB3 : Hid (Below w1.heap.size w1 (w2.alloc (.cells Z 52))) := Lib.hid (below_alloc hb2 _)
    have HNA : Hid (∀ k, 0 < l.length → At A k → ¬ k = w2.heap.size) := Lib.hid fun k hl hk hf => by have := bs_lt HL1.out hl hk; have := hb2.size; omega
    clear hb2 HZ HWN
    go_wp2_with fail
    with_reducible refine (HWR.out _ _ _ HH3.out (HL1.out.below HB3.out) HNA.out).mono ?_
    rintro e w8 ⟨rfl, F', hh8, -, ho8⟩
    have hb8 : Below w1.heap.size w1 w8 := HB3.out.trans (ho8.below HB3.out.size (fun k hk hf => by have := HB2.out.size; omega))
    have HB8 := Lib.hid (below_next HB1.out hb8)
    have HCN : Hid (∀ W, Below w8.heap.size w8 W → Calls Try.prog 15 #[.pointer none] W fun e w' => e = .returned (.int .i64 0) ∧ Below W.heap.size W w') := Lib.hid fun W _ => HCN0.out W
    have HSN : Hid (∀ W, Below w8.heap.size w8 W → Calls Try.prog 13 #[.pointer none] W fun e w' => e = .returned (.agg D0) ∧ Below W.heap.size W w') := Lib.hid fun W _ => HSN0.out W
    have HO0 : Hid (∀ W, Below w8.heap.size w8 W → Calls Try.prog 10 #[.slice none 0 0] W fun e w' => e = .returned (.agg D0) ∧ Below W.heap.size W w') := Lib.hid fun W _ => HO00.out W
    have HMN : Hid (∀ W, Below w8.heap.size w8 W → Calls Try.prog 16 #[.pointer none] W (RetOb 5 W Q)) := Lib.hid fun W _ => HMN0.out W
    have HRM : Hid (∀ W, Below w8.heap.size w8 W → Calls Try.prog 18 #[.slice none 0 0] W (RetOb 5 W Q)) := Lib.hid fun W _ => HRM0.out W
    have HSU : Hid (∀ W, Below w8.heap.size w8 W → Calls Try.prog 13 #[.pointer (some ⟨w2.heap.size, 0, none⟩)] W fun e w' => e = .returned (.agg D) ∧ Below W.heap.size W w') := Lib.hid fun W hW => HSU1.out W _ _ (HBL.out hh8 hW)
    have HCO : Hid (∀ W, Below w8.heap.size w8 W → Calls Try.prog 15 #[.pointer (some ⟨w2.heap.size, 0, none⟩)] W fun e w' => e = .returned (.int .i64 (n : Int)) ∧ Below W.heap.size W w') := Lib.hid fun W hW => HCO1.out W _ _ (HBL.out hh8 hW)
    have HOF : Hid (∀ (W : World) (g : Nat), W.heap[g]? = some (.cells #[.slice A n c] 22 (0, 0)) → Below w8.heap.size w8 W → Calls Try.prog 10 #[.slice (some ⟨g, 0, none⟩) 1 1] W fun e w' => e = .returned (.agg D) ∧ Below W.heap.size W w') :=
      Lib.hid fun W g hr hW => HOF1.out W g hr ((HL1.out.below hb8).below hW)
    clear hh8 ho8 hb8 HH3 HB2 HB3 HNA HWR HSU1 HCO1 HOF1 HBL HL1 HB1 HCN0 HSN0 HMN0 HO00 HRM0
    go_upto_region 8 with fail
    refine wp_region_noPanic ?_
    refine wp_region_held_drew (S := fun W => Below w8.heap.size w8 W) (by kernel_rfl) (by exact (Below.refl _ _).drew) (fun hS => ?_)
    refine' take_at 0 rfl (by kernel_rfl) (by kernel_rfl) (by kernel_rfl) (fun _ _ _ h => h) (by rfl) hS ?_ ?_ ?_
    rotate_left 2
    · intro W hSW; go_simp; try with_reducible rfl
    · simp only [List.set_cons_succ, List.set_cons_zero]; rfl
    refine call_at 1 rfl (by kernel_rfl) (by rfl) (fun K hK => ?_)
    go_simp
    with_reducible refine (HCN.out _ hS).mono ?_
    rintro e v1 ⟨rfl, hb1⟩
    have kb1 := below_on hS hb1
    clear hS hb1
    refine hK.out _ _ (by exact kb1) (fun hS => ?_)
    clear hK K
    refine' take_at 2 rfl (by kernel_rfl) (by kernel_rfl) (by kernel_rfl) (fun _ _ _ h => h) (by rfl) hS ?_ ?_ ?_
    rotate_left 2
    · intro W hSW; go_simp; try with_reducible rfl
    · simp only [List.set_cons_succ, List.set_cons_zero]; rfl
    refine' take_at 3 rfl (by kernel_rfl) (by kernel_rfl) (by kernel_rfl) (fun _ _ _ h => h) (by rfl) hS ?_ ?_ ?_
    rotate_left 2
    · intro W hSW; go_simp; try with_reducible rfl
    · simp only [List.set_cons_succ, List.set_cons_zero]; rfl
    refine' take_at 4 rfl (by kernel_rfl) (by kernel_rfl) (by kernel_rfl) (fun _ _ _ h => h) (by rfl) hS ?_ ?_ ?_
    rotate_left 2
    · intro W hSW; go_simp; try with_reducible rfl
    · simp only [List.set_cons_succ, List.set_cons_zero]; rfl
    refine call_at 5 rfl (by kernel_rfl) (by rfl) (fun K hK => ?_)
    go_simp
    with_reducible refine (HSN.out _ hS).mono ?_
    rintro e v2 ⟨rfl, hb2⟩
    have kb2 := below_on hS hb2
    clear hS hb2
    refine hK.out _ _ (by exact kb2) (fun hS => ?_)
    clear hK K
    refine call_at 6 rfl (by kernel_rfl) (by rfl) (fun K hK => ?_)
    go_simp
    with_reducible refine (HO0.out _ hS).mono ?_
    rintro e v3 ⟨rfl, hb3⟩
    have kb3 := below_on hS hb3
    clear hS hb3
    refine hK.out _ _ (by exact kb3) (fun hS => ?_)
    clear hK K
    refine' take_at 7 rfl (by kernel_rfl) (by kernel_rfl) (by kernel_rfl) (fun _ _ _ h => h) (by rfl) hS ?_ ?_ ?_
    rotate_left 2
    · intro W hSW; exact run_eql_agg rfl rfl rfl hm64 (E0 W)
    · simp only [List.set_cons_succ, List.set_cons_zero]; rfl
    refine' take_at 8 rfl (by kernel_rfl) (by kernel_rfl) (by kernel_rfl) (fun _ _ _ h => h) (by rfl) hS ?_ ?_ ?_
    rotate_left 2
    · intro W hSW; go_simp; try with_reducible rfl
    · simp only [List.set_cons_succ, List.set_cons_zero]; rfl
    refine' take_at 9 rfl (by kernel_rfl) (by kernel_rfl) (by kernel_rfl) (fun _ _ _ h => h) (by rfl) hS ?_ ?_ ?_
    rotate_left 2
    · intro W hSW; go_simp; try with_reducible rfl
    · simp only [List.set_cons_succ, List.set_cons_zero]; rfl
    refine' take_at 10 rfl (by kernel_rfl) (by kernel_rfl) (by kernel_rfl) (fun _ _ _ h => h) (by rfl) hS ?_ ?_ ?_
    rotate_left 2
    · intro W hSW; go_simp; try with_reducible rfl
    · simp only [List.set_cons_succ, List.set_cons_zero]; rfl
    refine call_at 11 rfl (by kernel_rfl) (by rfl) (fun K hK => ?_)
    go_simp
    with_reducible refine (HMN.out _ hS).mono ?_
    rintro e v4 ⟨x4, rfl, ho4, hb4⟩
    obtain ⟨A4, c4, rfl, hbs4, hcc4⟩ := ho4.formL HQL.out
    have kb4 := below_on hS hb4
    have cv4 : ∀ W, Below v4.heap.size v4 W → (convert 22 9 (.slice A4 200 c4)).run Try.prog W = .ok (.string sQ) W := fun W hW => by
      rw [← HSQ.out]
      exact run_conv_bs W _ 5 _ Try.underlying22 Try.underlying5 Try.underlying9 A4 Q c4 _ (hbs4.below hW) HQL.out.symm
    clear hS ho4 hb4
    refine hK.out _ _ (by exact kb4) (fun hS => ?_)
    clear hK K
    refine held_mono (S2 := fun W => Below v4.heap.size v4 W) (fun W hW => below_on kb4 hW) _ _ _ _ ?_
    replace hS : Below v4.heap.size v4 v4 := Below.refl _ _
    refine' take_at 12 rfl (by kernel_rfl) (by kernel_rfl) (by kernel_rfl) (fun _ _ _ h => h) (by rfl) hS ?_ ?_ ?_
    rotate_left 2
    · intro W hSW; exact run_conv_op rfl rfl (cv4 W hSW)
    · simp only [List.set_cons_succ, List.set_cons_zero]; rfl
    refine call_at 13 rfl (by kernel_rfl) (by rfl) (fun K hK => ?_)
    go_simp
    with_reducible refine (HRM.out _ (below_on kb4 hS)).mono ?_
    rintro e v5 ⟨x5, rfl, ho5, hb5⟩
    obtain ⟨A5, c5, rfl, hbs5, hcc5⟩ := ho5.formL HQL.out
    have kb5 := below_on hS hb5
    have cv5 : ∀ W, Below v5.heap.size v5 W → (convert 22 9 (.slice A5 200 c5)).run Try.prog W = .ok (.string sQ) W := fun W hW => by
      rw [← HSQ.out]
      exact run_conv_bs W _ 5 _ Try.underlying22 Try.underlying5 Try.underlying9 A5 Q c5 _ (hbs5.below hW) HQL.out.symm
    clear hS ho5 hb5
    refine hK.out _ _ (by exact kb5) (fun hS => ?_)
    clear hK K
    refine held_mono (S2 := fun W => Below v5.heap.size v5 W) (fun W hW => below_on kb5 hW) _ _ _ _ ?_
    replace hS : Below v5.heap.size v5 v5 := Below.refl _ _
    refine' take_at 14 rfl (by kernel_rfl) (by kernel_rfl) (by kernel_rfl) (fun _ _ _ h => h) (by rfl) hS ?_ ?_ ?_
    rotate_left 2
    · intro W hSW; exact run_conv_op rfl rfl (cv5 W hSW)
    · simp only [List.set_cons_succ, List.set_cons_zero]; rfl
    refine' take_at 15 rfl (by kernel_rfl) (by kernel_rfl) (by kernel_rfl) (fun _ _ _ h => h) (by rfl) hS ?_ ?_ ?_
    rotate_left 2
    · intro W hSW; go_simp; try with_reducible rfl
    · simp only [List.set_cons_succ, List.set_cons_zero]; rfl
    refine' take_at 16 rfl (by kernel_rfl) (by kernel_rfl) (by kernel_rfl) (fun _ _ _ h => h) (by rfl) hS ?_ ?_ ?_
    rotate_left 2
    · intro W hSW; go_simp; try with_reducible rfl
    · simp only [List.set_cons_succ, List.set_cons_zero]; rfl
    refine' take_at 17 rfl (by kernel_rfl) (by kernel_rfl) (by kernel_rfl) (fun _ _ _ h => h) (by rfl) hS ?_ ?_ ?_
    rotate_left 2
    · intro W hSW; go_simp; try with_reducible rfl
    · simp only [List.set_cons_succ, List.set_cons_zero]; rfl
    refine' take_at 18 rfl (by kernel_rfl) (by kernel_rfl) (by kernel_rfl) (fun _ _ _ h => h) (by rfl) hS ?_ ?_ ?_
    rotate_left 2
    · intro W hSW; go_simp; try with_reducible rfl
    · simp only [List.set_cons_succ, List.set_cons_zero]; rfl
    refine' take_at 20 rfl (by kernel_rfl) (by kernel_rfl) (by kernel_rfl) (fun _ _ _ h => h) (by rfl) hS ?_ ?_ ?_
    rotate_left 2
    · intro W hSW; go_simp; try with_reducible rfl
    · simp only [List.set_cons_succ, List.set_cons_zero]; rfl
    refine call2_at 19 21 rfl rfl (by kernel_rfl) (by rfl) (by rfl) (fun K hK => ?_) (fun K hK => ?_)
    · go_simp
      with_reducible refine (HSU.out _ (below_on kb4 (below_on kb5 hS))).mono ?_
      rintro e v6 ⟨rfl, hb6⟩
      have kb6 := below_on hS hb6
      clear hS hb6
      refine hK.out _ _ (by exact kb6) (fun hS => ?_)
      clear hK K
      refine call_at 21 rfl (by kernel_rfl) (by rfl) (fun K hK => ?_)
      go_simp
      have hr7 : (v6.alloc (Obj.cells #[.slice A n c] 22)).heap[v6.heap.size]? = some (Obj.cells #[.slice A n c] 22) := heap_alloc_new _ _
      have hg7 : v6.heap.size < (v6.alloc (Obj.cells #[.slice A n c] 22)).heap.size := by simp
      have kb7 : Below _ _ (v6.alloc (Obj.cells #[.slice A n c] 22)) := hS.alloc hS.size _
      clear hS
      refine hK.out _ _ (by exact kb7) (fun hS => ?_)
      clear hK K hS
      generalize hwa : v6.alloc (Obj.cells #[.slice A n c] 22) = v7 at hr7 hg7 kb7 ⊢
      clear hwa
      refine held_mono (S2 := fun W => Below v7.heap.size v7 W) (fun W hW => below_on kb7 hW) _ _ _ _ ?_
      have hS : Below v7.heap.size v7 v7 := Below.refl _ _
      refine call_at 22 rfl (by kernel_rfl) (by rfl) (fun K hK => ?_)
      go_simp
      with_reducible refine (HOF.out _ _ (by rw [hS.block _ hg7]; exact hr7) (below_on kb4 (below_on kb5 (below_on kb7 hS)))).mono ?_
      rintro e v8 ⟨rfl, hb8⟩
      have kb8 := below_on hS hb8
      clear hS hb8
      refine hK.out _ _ (by exact kb8) (fun hS => ?_)
      clear hK K
      refine' take_at 23 rfl (by kernel_rfl) (by kernel_rfl) (by kernel_rfl) (fun _ _ _ h => h) (by rfl) hS ?_ ?_ ?_
      rotate_left 2
      · intro W hSW; exact run_eql_agg rfl rfl rfl hm64 (E1 W)
      · simp only [List.set_cons_succ, List.set_cons_zero]; rfl
      refine' take_at 24 rfl (by kernel_rfl) (by kernel_rfl) (by kernel_rfl) (fun _ _ _ h => h) (by rfl) hS ?_ ?_ ?_
      rotate_left 2
      · intro W hSW; go_simp; try with_reducible rfl
      · simp only [List.set_cons_succ, List.set_cons_zero]; rfl
      refine' take_at 25 rfl (by kernel_rfl) (by kernel_rfl) (by kernel_rfl) (fun _ _ _ h => h) (by rfl) hS ?_ ?_ ?_
      rotate_left 2
      · intro W hSW; go_simp; try with_reducible rfl
      · simp only [List.set_cons_succ, List.set_cons_zero]; rfl
      refine' take_at 26 rfl (by kernel_rfl) (by kernel_rfl) (by kernel_rfl) (fun _ _ _ h => h) (by rfl) hS ?_ ?_ ?_
      rotate_left 2
      · intro W hSW; go_simp; try with_reducible rfl
      · simp only [List.set_cons_succ, List.set_cons_zero]; rfl
      refine' take_at 28 rfl (by kernel_rfl) (by kernel_rfl) (by kernel_rfl) (fun _ _ _ h => h) (by rfl) hS ?_ ?_ ?_
      rotate_left 2
      · intro W hSW; go_simp; try with_reducible rfl
      · simp only [List.set_cons_succ, List.set_cons_zero]; rfl
      refine' take_at 29 rfl (by kernel_rfl) (by kernel_rfl) (by kernel_rfl) (fun _ _ _ h => h) (by rfl) hS ?_ ?_ ?_
      rotate_left 2
      · intro W hSW; go_simp; try with_reducible rfl
      · simp only [List.set_cons_succ, List.set_cons_zero]; rfl
      refine call_at 27 rfl (by kernel_rfl) (by rfl) (fun K hK => ?_)
      go_simp
      with_reducible refine (HCO.out _ (below_on kb4 (below_on kb5 (below_on kb7 hS)))).mono ?_
      rintro e v9 ⟨rfl, hb9⟩
      have kb9 := below_on hS hb9
      clear hS hb9
      refine hK.out _ _ (by exact kb9) (fun hS => ?_)
      clear hK K
      refine' take_at 30 rfl (by kernel_rfl) (by kernel_rfl) (by kernel_rfl) (fun _ _ _ h => h) (by rfl) hS ?_ ?_ ?_
      rotate_left 2
      · intro W hSW; go_simp; try with_reducible rfl
      · simp only [List.set_cons_succ, List.set_cons_zero]; rfl
      refine' take_at 31 rfl (by kernel_rfl) (by kernel_rfl) (by kernel_rfl) (fun _ _ _ h => h) (by rfl) hS ?_ ?_ ?_
      rotate_left 2
      · intro W hSW; go_simp; try with_reducible rfl
      · simp only [List.set_cons_succ, List.set_cons_zero]; rfl
      refine' take_at 32 rfl (by kernel_rfl) (by kernel_rfl) (by kernel_rfl) (fun _ _ _ h => h) (by rfl) hS ?_ ?_ ?_
      rotate_left 2
      · intro W hSW; go_simp; try with_reducible rfl
      · simp only [List.set_cons_succ, List.set_cons_zero]; rfl
      refine wpAnyH_done (by kernel_rfl) ?_ _
      refine NoPanic.normal ?_
      have hfin := (below_on kb4 (below_on kb5 (below_on kb7 hS)))
      go_wp2_with fail
      go_ret
      exact ⟨rfl, below_next HB8.out hfin⟩
    · go_simp
      have hr6 : (v5.alloc (Obj.cells #[.slice A n c] 22)).heap[v5.heap.size]? = some (Obj.cells #[.slice A n c] 22) := heap_alloc_new _ _
      have hg6 : v5.heap.size < (v5.alloc (Obj.cells #[.slice A n c] 22)).heap.size := by simp
      have kb6 : Below _ _ (v5.alloc (Obj.cells #[.slice A n c] 22)) := hS.alloc hS.size _
      clear hS
      refine hK.out _ _ (by exact kb6) (fun hS => ?_)
      clear hK K hS
      generalize hwa : v5.alloc (Obj.cells #[.slice A n c] 22) = v6 at hr6 hg6 kb6 ⊢
      clear hwa
      refine held_mono (S2 := fun W => Below v6.heap.size v6 W) (fun W hW => below_on kb6 hW) _ _ _ _ ?_
      have hS : Below v6.heap.size v6 v6 := Below.refl _ _
      refine call_at 19 rfl (by kernel_rfl) (by rfl) (fun K hK => ?_)
      go_simp
      with_reducible refine (HSU.out _ (below_on kb4 (below_on kb5 (below_on kb6 hS)))).mono ?_
      rintro e v7 ⟨rfl, hb7⟩
      have kb7 := below_on hS hb7
      clear hS hb7
      refine hK.out _ _ (by exact kb7) (fun hS => ?_)
      clear hK K
      refine call_at 22 rfl (by kernel_rfl) (by rfl) (fun K hK => ?_)
      go_simp
      with_reducible refine (HOF.out _ _ (by rw [hS.block _ hg6]; exact hr6) (below_on kb4 (below_on kb5 (below_on kb6 hS)))).mono ?_
      rintro e v8 ⟨rfl, hb8⟩
      have kb8 := below_on hS hb8
      clear hS hb8
      refine hK.out _ _ (by exact kb8) (fun hS => ?_)
      clear hK K
      refine' take_at 23 rfl (by kernel_rfl) (by kernel_rfl) (by kernel_rfl) (fun _ _ _ h => h) (by rfl) hS ?_ ?_ ?_
      rotate_left 2
      · intro W hSW; exact run_eql_agg rfl rfl rfl hm64 (E1 W)
      · simp only [List.set_cons_succ, List.set_cons_zero]; rfl
      refine' take_at 24 rfl (by kernel_rfl) (by kernel_rfl) (by kernel_rfl) (fun _ _ _ h => h) (by rfl) hS ?_ ?_ ?_
      rotate_left 2
      · intro W hSW; go_simp; try with_reducible rfl
      · simp only [List.set_cons_succ, List.set_cons_zero]; rfl
      refine' take_at 25 rfl (by kernel_rfl) (by kernel_rfl) (by kernel_rfl) (fun _ _ _ h => h) (by rfl) hS ?_ ?_ ?_
      rotate_left 2
      · intro W hSW; go_simp; try with_reducible rfl
      · simp only [List.set_cons_succ, List.set_cons_zero]; rfl
      refine' take_at 26 rfl (by kernel_rfl) (by kernel_rfl) (by kernel_rfl) (fun _ _ _ h => h) (by rfl) hS ?_ ?_ ?_
      rotate_left 2
      · intro W hSW; go_simp; try with_reducible rfl
      · simp only [List.set_cons_succ, List.set_cons_zero]; rfl
      refine' take_at 28 rfl (by kernel_rfl) (by kernel_rfl) (by kernel_rfl) (fun _ _ _ h => h) (by rfl) hS ?_ ?_ ?_
      rotate_left 2
      · intro W hSW; go_simp; try with_reducible rfl
      · simp only [List.set_cons_succ, List.set_cons_zero]; rfl
      refine' take_at 29 rfl (by kernel_rfl) (by kernel_rfl) (by kernel_rfl) (fun _ _ _ h => h) (by rfl) hS ?_ ?_ ?_
      rotate_left 2
      · intro W hSW; go_simp; try with_reducible rfl
      · simp only [List.set_cons_succ, List.set_cons_zero]; rfl
      refine call_at 27 rfl (by kernel_rfl) (by rfl) (fun K hK => ?_)
      go_simp
      with_reducible refine (HCO.out _ (below_on kb4 (below_on kb5 (below_on kb6 hS)))).mono ?_
      rintro e v9 ⟨rfl, hb9⟩
      have kb9 := below_on hS hb9
      clear hS hb9
      refine hK.out _ _ (by exact kb9) (fun hS => ?_)
      clear hK K
      refine' take_at 30 rfl (by kernel_rfl) (by kernel_rfl) (by kernel_rfl) (fun _ _ _ h => h) (by rfl) hS ?_ ?_ ?_
      rotate_left 2
      · intro W hSW; go_simp; try with_reducible rfl
      · simp only [List.set_cons_succ, List.set_cons_zero]; rfl
      refine' take_at 31 rfl (by kernel_rfl) (by kernel_rfl) (by kernel_rfl) (fun _ _ _ h => h) (by rfl) hS ?_ ?_ ?_
      rotate_left 2
      · intro W hSW; go_simp; try with_reducible rfl
      · simp only [List.set_cons_succ, List.set_cons_zero]; rfl
      refine' take_at 32 rfl (by kernel_rfl) (by kernel_rfl) (by kernel_rfl) (fun _ _ _ h => h) (by rfl) hS ?_ ?_ ?_
      rotate_left 2
      · intro W hSW; go_simp; try with_reducible rfl
      · simp only [List.set_cons_succ, List.set_cons_zero]; rfl
      refine wpAnyH_done (by kernel_rfl) ?_ _
      refine NoPanic.normal ?_
      have hfin := (below_on kb4 (below_on kb5 (below_on kb6 hS)))
      go_wp2_with fail
      go_ret
      exact ⟨rfl, below_next HB8.out hfin⟩
end Go.Proofs.Ytbkcglfdliicpaa

