/- ShaMid walked, over whatever the program's Hash is. Written by wip/tools/mk_law8.py. -/
import Derived.Test.YtbkcglfdliicpaaLaw8Cuts
import Derived.Test.YtbkcglfdliicpaaRegion4
namespace Go.Proofs.Ytbkcglfdliicpaa
open Go.RowKit
set_option linter.unusedVariables false
set_option maxRecDepth 100000

/-- Of rows that lie in a block -/
theorem ofg_any {H : HashP} (C : ShaC H) (W : World) (g : Nat) (rows : BRow) (cs : Array Value) (T : TypeId) (k : Nat) (hg : W.heap[g]? = some (.cells cs T (0, 0))) (hk : rows.length = k) (hc : ∀ (i : Nat) (r : Option Addr × List UInt8 × Nat), rows[i]? = some r → cs[i]? = some (Value.slice r.1 r.2.1.length r.2.2))
    (hr : ∀ r ∈ rows, Bs W r.1 r.2.1 ∧ r.2.1.length ≤ r.2.2) (hk2 : k ≤ 10) (hl : (rowsB rows).length ≤ 10000) :
    Calls Try.prog 10 #[.slice (some ⟨g, 0, none⟩) k k] W fun e w' => e = .returned (.agg (arrB (digest (rowsB rows)))) ∧ Below W.heap.size W w' := by
  subst hk
  exact C.of W _ rows _ (rowAt_cells hg hc hr) (Nat.le_refl _) hk2 hl
theorem of2g_any {H : HashP} (C : ShaC H) (W : World) (g : Nat) (A B : Option Addr) (l m : List UInt8) (n k c d : Nat) (hn : l.length = n) (hk : m.length = k) (hg : W.heap[g]? = some (.cells #[.slice A n c, .slice B k d] 22 (0, 0))) (hb : Bs W A l) (hb2 : Bs W B m) (hc : n ≤ c) (hd : k ≤ d) (hl : n + k ≤ 10000) :
    Calls Try.prog 10 #[.slice (some ⟨g, 0, none⟩) 2 2] W fun e w' => e = .returned (.agg (arrB (digest (l ++ m)))) ∧ Below W.heap.size W w' := by
  subst hn
  subst hk
  have h := ofg_any C W g [(A, l, c), (B, m, d)] _ _ 2 hg rfl (fun i r h => by
      match i, h with
      | 0, h => injection h with h; subst h; rfl
      | 1, h => injection h with h; subst h; rfl) (fun r h => by
      simp only [List.mem_cons, List.not_mem_nil, or_false] at h
      rcases h with rfl | rfl
      · exact ⟨hb, hc⟩
      · exact ⟨hb2, hd⟩) (by omega) (by simpa [rowsB] using hl)
  rwa [show rowsB [(A, l, c), (B, m, d)] = l ++ m by simp [rowsB]] at h
theorem of1g_any {H : HashP} (C : ShaC H) (W : World) (g : Nat) (A : Option Addr) (l : List UInt8) (n c : Nat) (hn : l.length = n) (hg : W.heap[g]? = some (.cells #[.slice A n c] 22 (0, 0))) (hb : Bs W A l) (hc : n ≤ c) (hl : n ≤ 10000) :
    Calls Try.prog 10 #[.slice (some ⟨g, 0, none⟩) 1 1] W fun e w' => e = .returned (.agg (arrB (digest l))) ∧ Below W.heap.size W w' := by
  subst hn
  have h := ofg_any C W g [(A, l, c)] _ _ 1 hg rfl (fun i r h => by
      match i, h with
      | 0, h => injection h with h; subst h; rfl) (fun r h => by
      simp only [List.mem_cons, List.not_mem_nil, or_false] at h
      subst h
      exact ⟨hb, hc⟩) (by omega) (by simpa [rowsB] using hl)
  rwa [show rowsB [(A, l, c)] = l by simp [rowsB]] at h

set_option maxHeartbeats 6400000 in
theorem law8Mid {H : HashP} (C : ShaC H) (A B E : Option Addr) (l m : List UInt8) (L : List Int) (c d c' : Nat) (w : World) (hb : Bs w A l) (hb2 : Bs w B m) (hc : l.length ≤ c) (hd : m.length ≤ d) (hL : IntRow w E L) :
    Calls Try.prog 5 #[.slice A l.length c, .slice B m.length d, .slice E L.length c'] w fun e w' => e = .returned (.bool true) ∧ Below w.heap.size w w' := by
  have HA := Lib.hid (fun W => alive8_any C W)
  obtain ⟨n, hn⟩ : ∃ n, l.length = n := ⟨_, rfl⟩
  obtain ⟨k, hk⟩ : ∃ n, m.length = n := ⟨_, rfl⟩
  obtain ⟨x, hx⟩ : ∃ n, L.length = n := ⟨_, rfl⟩
  have HN := Lib.hid hn
  have HKL := Lib.hid hk
  have HX := Lib.hid hx
  rw [hn] at hc ⊢
  rw [hk] at hd ⊢
  rw [hx]
  by_cases g0 : 500 < n
  · have d0 : decide ((500 : Int) < (n : Int)) = true := decide_eq_true (by omega)
    clear g0
    go_enter Try.func5, Try.ntmps5
    go_wp2_with fail
    with_reducible refine (HA.out _).mono ?_
    rintro e w1 ⟨rfl, hb1⟩
    go_wp2_with fail
    go_ret
    exact ⟨rfl, hb1⟩
  · have d0 : decide ((500 : Int) < (n : Int)) = false := decide_eq_false (by omega)
    by_cases g1 : 500 < k
    · have d1 : decide ((500 : Int) < (k : Int)) = true := decide_eq_true (by omega)
      clear g1
      go_enter Try.func5, Try.ntmps5
      go_wp2_with fail
      with_reducible refine (HA.out _).mono ?_
      rintro e w1 ⟨rfl, hb1⟩
      go_wp2_with fail
      go_ret
      exact ⟨rfl, hb1⟩
    · have d1 : decide ((500 : Int) < (k : Int)) = false := decide_eq_false (by omega)
      by_cases g2 : 100 < x
      · have d2 : decide ((100 : Int) < (x : Int)) = true := decide_eq_true (by omega)
        clear g2
        go_enter Try.func5, Try.ntmps5
        go_wp2_with fail
        with_reducible refine (HA.out _).mono ?_
        rintro e w1 ⟨rfl, hb1⟩
        go_wp2_with fail
        go_ret
        exact ⟨rfl, hb1⟩
      · have d2 : decide ((100 : Int) < (x : Int)) = false := decide_eq_false (by omega)
        have HB := Lib.hid hb
        have HBM := Lib.hid hb2
        have HLR := Lib.hid hL
        have HNEW := Lib.hid C.new
        obtain ⟨st, hst⟩ : ∃ s, Sh.nil.add l = s := ⟨_, rfl⟩
        have hok : st.ok := by rw [← hst]; exact Sh.add_ok Sh.nil_ok l
        have hsn : st.n = n := by rw [← hst]; show 0 + l.length = n; omega
        obtain ⟨sq, hsq⟩ : ∃ s, st.add m = s := ⟨_, rfl⟩
        have hokq : sq.ok := by rw [← hsq]; exact Sh.add_ok hok m
        have hsqn : sq.n = n + k := by rw [← hsq]; show st.n + m.length = n + k; omega
        have hsqe : sq = Sh.nil.add (l ++ m) := by rw [← hsq, ← hst, Sh.add_add]
        obtain ⟨M, hM⟩ : ∃ M, st.mid = M := ⟨_, rfl⟩
        have hMl : M.length = 200 := by rw [← hM]; exact Sh.mid_len hok
        have hMy : mayB M = true := by rw [← hM]; exact may_mid hok (by omega)
        have hMld : loadB M = st := by rw [← hM]; exact load_mid hok (by omega)
        obtain ⟨Q, hQ⟩ : ∃ M, sq.mid = M := ⟨_, rfl⟩
        have hQl : Q.length = 200 := by rw [← hQ]; exact Sh.mid_len hokq
        obtain ⟨sM, hsM⟩ : ∃ s, strB M = s := ⟨_, rfl⟩
        obtain ⟨sQ, hsQ⟩ : ∃ s, strB Q = s := ⟨_, rfl⟩
        obtain ⟨D, hD⟩ : ∃ D, arrB (digest (l ++ m)) = D := ⟨_, rfl⟩
        have hsum : arrB sq.sum = D := by rw [hsqe, sum_digest, hD]
        have E1 := eq64 (digest (l ++ m)) (digest_len _)
        have hm64 : Try.prog.eqGuardType Try.prog.depth 24 = false := by kernel_rfl
        rw [hD] at E1
        have HML := Lib.hid hMl
        have HQL := Lib.hid hQl
        have HSM := Lib.hid hsM
        have HSQ := Lib.hid hsQ
        have HPA : Hid (∀ W g F, H W g Sh.nil F → Bs W A l → IntRow W E L → (∀ k, 0 < l.length → At A k → ¬ F k) → (∀ k, 0 < L.length → At E k → ¬ F k) →
            Calls Try.prog 14 #[.pointer (some ⟨g, 0, none⟩), .slice A n c, .slice E x c'] W fun e w' => e = .returned (.tuple #[]) ∧ ∃ F', H w' g st F' ∧ (∀ j, F' j → F j ∨ W.heap.size ≤ j) ∧ Only F W w') := Lib.hid fun W g F h h1 h2 h3 h4 => by
          rw [← hn, ← hx, ← hst]
          exact parts8_any C h A E l L c c' h1 (by omega) h2 h3 h4 (by decide) (by omega) (by omega)
        have HMD : Hid (∀ W g F, H W g st F → Calls Try.prog 16 #[.pointer (some ⟨g, 0, none⟩)] W (RetOb 5 W M)) := Lib.hid fun W g F h => by rw [← hM]; exact C.mid h (by omega)
        have HMD2 : Hid (∀ W g F, H W g sq F → Calls Try.prog 16 #[.pointer (some ⟨g, 0, none⟩)] W (RetOb 5 W Q)) := Lib.hid fun W g F h => by rw [← hQ]; exact C.mid h (by omega)
        have HLD : Hid (∀ (W : World) (A : Option Addr) (c : Nat), Bs W A M → 200 ≤ c → Calls Try.prog 17 #[.slice A 200 c] W fun e w' => ∃ g F, e = .returned (.tuple #[.pointer (some ⟨g, 0, none⟩), .bool true]) ∧ H w' g st F ∧ (∀ j, F j → W.heap.size ≤ j) ∧ Below W.heap.size W w') := Lib.hid fun W A c h1 h2 => by
          rw [← hMl, ← hMld]
          exact C.load W A M c h1 (by omega) hMy
        have HWR : Hid (∀ W g F, H W g st F → Bs W B m → (∀ k, 0 < m.length → At B k → ¬ F k) → Calls Try.prog 19 #[.pointer (some ⟨g, 0, none⟩), .slice B k d] W fun e w' => e = .returned (.tuple #[]) ∧ ∃ F', H w' g sq F' ∧ (∀ j, F' j → F j ∨ W.heap.size ≤ j) ∧ Only F W w') := Lib.hid fun W g F h h1 h2 => by
          rw [← hk, ← hsq]
          exact C.write B m d h h1 (by omega) h2 (by omega) (by omega)
        have HSU : Hid (∀ W g F, H W g sq F → Calls Try.prog 13 #[.pointer (some ⟨g, 0, none⟩)] W fun e w' => e = .returned (.agg D) ∧ Below W.heap.size W w') := Lib.hid fun W g F h => by rw [← hsum]; exact C.sum h (by omega)
        have HCO : Hid (∀ W g F, H W g sq F → Calls Try.prog 15 #[.pointer (some ⟨g, 0, none⟩)] W fun e w' => e = .returned (.int .i64 ((n : Int) + (k : Int))) ∧ Below W.heap.size W w') := Lib.hid fun W g F h => by
          have := C.count h (by omega)
          rwa [hsqn, Int.natCast_add] at this
        have HRMD : Hid (∀ W, Bs W A l → Calls Try.prog 18 #[.slice A n c] W (RetOb 5 W M)) := Lib.hid fun W h => by rw [← hn, ← hM, ← hst]; exact rmid_any A l c W h (by omega) (by omega)
        have HOFG : Hid (∀ (W : World) (g : Nat), W.heap[g]? = some (.cells #[.slice A n c, .slice B k d] 22 (0, 0)) → Bs W A l → Bs W B m → Calls Try.prog 10 #[.slice (some ⟨g, 0, none⟩) 2 2] W fun e w' => e = .returned (.agg D) ∧ Below W.heap.size W w') :=
          Lib.hid fun W g h h1 h2 => by rw [← hD]; exact of2g_any C W g A B l m n k c d hn hk h h1 h2 hc hd (by omega)
        have HK : Hid (∀ {W W' g h F} (Q : Nat → Prop), H W g h F → Only Q W W' → (∀ j, F j → ¬ Q j) → H W' g h F) := Lib.hid C.keep
        have HBL : Hid (∀ {W W' g h F}, H W g h F → Below W.heap.size W W' → H W' g h F) := Lib.hid C.below
        have HLT : Hid (∀ {W g h F}, H W g h F → ∀ j, F j → j < W.heap.size) := Lib.hid C.lt
        have hnl : n ≤ 500 := by omega
        have hkl : k ≤ 500 := by omega
        have hwr : IntKind.i64.wrap ((n : Int) + (k : Int)) = (n : Int) + (k : Int) := by rw [IntKind.wrap_i64]; omega
        clear hb hb2 hL hn hk hx hst hok hsn hsq hokq hsqn hsqe hM hMl hMy hMld hQ hQl hsM hsQ hD hsum C hc hd
        go_enter Try.func5, Try.ntmps5
        go_wp2_with fail
        with_reducible refine (HA.out _).mono ?_
        rintro e w1 ⟨rfl, hb1⟩
        have HB1 := Lib.hid hb1
        have HL1 := Lib.hid (HB.out.below hb1)
        have HM1 := Lib.hid (HBM.out.below hb1)
        have HR1 := Lib.hid (HLR.out.below hb1)
        clear hb1 HA HB HBM HLR
        go_wp2_with fail
        with_reducible refine (HNEW.out _).mono ?_
        rintro e w2 ⟨g, F, rfl, hh2, hF2, hb2⟩
        have HB2 := Lib.hid hb2
        have HH2 := Lib.hid hh2
        have HF := Lib.hid hF2
        have HAF : Hid (∀ k, 0 < l.length → At A k → ¬ F k) := Lib.hid fun k hl hk hf => by have := bs_lt HL1.out hl hk; have := HF.out k hf; omega
        have HEF : Hid (∀ k, 0 < L.length → At E k → ¬ F k) := Lib.hid fun k hl hk hf => by
          obtain ⟨b, o, e, hcs⟩ := HR1.out hl
          obtain ⟨a, e2, rfl⟩ := hk
          rw [e] at e2
          injection e2 with e2
          subst e2
          have := World.block_lt_of_cell? w1 _ (hcs 0 hl).1
          have := HF.out _ hf
          simp at *
          omega
        clear hb2 hh2 hF2 HNEW
        go_wp2_with fail
        with_reducible refine (HPA.out _ _ _ HH2.out (HL1.out.below HB2.out) (HR1.out.below HB2.out) HAF.out HEF.out).mono ?_
        rintro e w3 ⟨rfl, F1, hh3, hF3, ho3⟩
        have HH3 := Lib.hid hh3
        have HB3 : Hid (Below w1.heap.size w1 w3) := Lib.hid (HB2.out.trans (ho3.below HB2.out.size (fun k hk hf => by have := HF.out k hf; omega)))
        have HF1 : Hid (∀ j, F1 j → w1.heap.size ≤ j) := Lib.hid fun j hj => by
          rcases hF3 j hj with h1 | h1
          · exact HF.out j h1
          · have := HB2.out.size; omega
        clear hh3 hF3 ho3 HH2 HB2 HAF HEF HPA HF HR1
        go_wp2_with fail
        with_reducible refine (HMD.out _ _ _ HH3.out).mono ?_
        rintro e w4 ⟨v4, rfl, ho4, hb4⟩
        obtain ⟨AM, cM, rfl, hbs4, hc4⟩ := ho4.formL HML.out
        have HH4 := Lib.hid (HBL.out HH3.out hb4)
        have HB4 := Lib.hid (below_next HB3.out hb4)
        have HBM4 := Lib.hid hbs4
        clear hb4 ho4 hbs4 HH3 HB3
        go_wp2_with fail
        with_reducible refine (HLD.out _ _ _ HBM4.out hc4).mono ?_
        rintro e w5 ⟨g2, F2, rfl, hh5, hF5, hb5⟩
        have HG5 := Lib.hid hh5
        have HF2 : Hid (∀ j, F2 j → w4.heap.size ≤ j) := Lib.hid hF5
        have HH5 := Lib.hid (HBL.out HH4.out hb5)
        have HLT1 : Hid (∀ j, F1 j → j < w4.heap.size) := Lib.hid (HLT.out HH4.out)
        have HB5 := Lib.hid (below_next HB4.out hb5)
        have HBM5 := Lib.hid (HBM4.out.below hb5)
        have HZ5 : Hid (w4.heap.size ≤ w5.heap.size) := Lib.hid hb5.size
        have HZ1 : Hid (w1.heap.size ≤ w4.heap.size) := Lib.hid HB4.out.size
        have HCM : Hid (∀ W, Below w5.heap.size w5 W → (convert 22 9 (.slice AM 200 cM)).run Try.prog W = .ok (.string sM) W) := Lib.hid fun W hW => by
          rw [← HSM.out]
          exact run_conv_bs W _ 5 _ Try.underlying22 Try.underlying5 Try.underlying9 AM M cM _ (HBM5.out.below hW) HML.out.symm
        have HRM : Hid (∀ W, Below w5.heap.size w5 W → Calls Try.prog 18 #[.slice A n c] W (RetOb 5 W M)) := Lib.hid fun W hW => HRMD.out W ((HL1.out.below HB5.out).below hW)
        have HGM : Hid (∀ W, Below w5.heap.size w5 W → Calls Try.prog 16 #[.pointer (some ⟨g2, 0, none⟩)] W (RetOb 5 W M)) := Lib.hid fun W hW => HMD.out W g2 F2 (HBL.out HG5.out hW)
        clear hh5 hF5 hb5 HH4 HB4 HBM4 HLD
        go_upto_region 10 with fail
        refine wp_region_noPanic ?_
        refine wp_region_held_drew (S := fun W => Below w5.heap.size w5 W) (by kernel_rfl) (by exact (Below.refl _ _).drew) (fun hS => ?_)
        refine' take_at 0 rfl (by kernel_rfl) (by kernel_rfl) (by kernel_rfl) (fun _ _ _ h => h) (by rfl) hS ?_ ?_ ?_
        rotate_left 2
        · intro W hSW; go_simp; try with_reducible rfl
        · simp only [List.set_cons_succ, List.set_cons_zero]; rfl
        refine' take_at 1 rfl (by kernel_rfl) (by kernel_rfl) (by kernel_rfl) (fun _ _ _ h => h) (by rfl) hS ?_ ?_ ?_
        rotate_left 2
        · intro W hSW; go_simp; try with_reducible rfl
        · simp only [List.set_cons_succ, List.set_cons_zero]; rfl
        refine' take_at 2 rfl (by kernel_rfl) (by kernel_rfl) (by kernel_rfl) (fun _ _ _ h => h) (by rfl) hS ?_ ?_ ?_
        rotate_left 2
        · intro W hSW; go_simp; try with_reducible rfl
        · simp only [List.set_cons_succ, List.set_cons_zero]; rfl
        refine' take_at 3 rfl (by kernel_rfl) (by kernel_rfl) (by kernel_rfl) (fun _ _ _ h => h) (by rfl) hS ?_ ?_ ?_
        rotate_left 2
        · intro W hSW; go_simp; try with_reducible rfl
        · simp only [List.set_cons_succ, List.set_cons_zero]; rfl
        refine' take_at 4 rfl (by kernel_rfl) (by kernel_rfl) (by kernel_rfl) (fun _ _ _ h => h) (by rfl) hS ?_ ?_ ?_
        rotate_left 2
        · intro W hSW; go_simp; try with_reducible rfl
        · simp only [List.set_cons_succ, List.set_cons_zero]; rfl
        refine' take_at 5 rfl (by kernel_rfl) (by kernel_rfl) (by kernel_rfl) (fun _ _ _ h => h) (by rfl) hS ?_ ?_ ?_
        rotate_left 2
        · intro W hSW; go_simp; try with_reducible rfl
        · simp only [List.set_cons_succ, List.set_cons_zero]; rfl
        refine' take_at 6 rfl (by kernel_rfl) (by kernel_rfl) (by kernel_rfl) (fun _ _ _ h => h) (by rfl) hS ?_ ?_ ?_
        rotate_left 2
        · intro W hSW; go_simp; try with_reducible rfl
        · simp only [List.set_cons_succ, List.set_cons_zero]; rfl
        refine' take_at 7 rfl (by kernel_rfl) (by kernel_rfl) (by kernel_rfl) (fun _ _ _ h => h) (by rfl) hS ?_ ?_ ?_
        rotate_left 2
        · intro W hSW; go_simp; try with_reducible rfl
        · simp only [List.set_cons_succ, List.set_cons_zero]; rfl
        refine' take_at 8 rfl (by kernel_rfl) (by kernel_rfl) (by kernel_rfl) (fun _ _ _ h => h) (by rfl) hS ?_ ?_ ?_
        rotate_left 2
        · intro W hSW; exact run_conv_op rfl rfl (HCM.out W hSW)
        · simp only [List.set_cons_succ, List.set_cons_zero]; rfl
        refine' take_at 9 rfl (by kernel_rfl) (by kernel_rfl) (by kernel_rfl) (fun _ _ _ h => h) (by rfl) hS ?_ ?_ ?_
        rotate_left 2
        · intro W hSW; go_simp; try with_reducible rfl
        · simp only [List.set_cons_succ, List.set_cons_zero]; rfl
        refine call_at 10 rfl (by kernel_rfl) (by rfl) (fun K hK => ?_)
        go_simp
        with_reducible refine (HRM.out _ hS).mono ?_
        rintro e v1 ⟨x1, rfl, ho1, hb1⟩
        obtain ⟨A1, c1, rfl, hbs1, hcc1⟩ := ho1.formL HML.out
        have kb1 := below_on hS hb1
        have cv1 : ∀ W, Below v1.heap.size v1 W → (convert 22 9 (.slice A1 200 c1)).run Try.prog W = .ok (.string sM) W := fun W hW => by
          rw [← HSM.out]
          exact run_conv_bs W _ 5 _ Try.underlying22 Try.underlying5 Try.underlying9 A1 M c1 _ (hbs1.below hW) HML.out.symm
        clear hS ho1 hb1
        refine hK.out _ _ (by exact kb1) (fun hS => ?_)
        clear hK K
        refine held_mono (S2 := fun W => Below v1.heap.size v1 W) (fun W hW => below_on kb1 hW) _ _ _ _ ?_
        replace hS : Below v1.heap.size v1 v1 := Below.refl _ _
        refine' take_at 11 rfl (by kernel_rfl) (by kernel_rfl) (by kernel_rfl) (fun _ _ _ h => h) (by rfl) hS ?_ ?_ ?_
        rotate_left 2
        · intro W hSW; exact run_conv_op rfl rfl (cv1 W hSW)
        · simp only [List.set_cons_succ, List.set_cons_zero]; rfl
        refine' take_at 12 rfl (by kernel_rfl) (by kernel_rfl) (by kernel_rfl) (fun _ _ _ h => h) (by rfl) hS ?_ ?_ ?_
        rotate_left 2
        · intro W hSW; go_simp; try with_reducible rfl
        · simp only [List.set_cons_succ, List.set_cons_zero]; rfl
        refine' take_at 13 rfl (by kernel_rfl) (by kernel_rfl) (by kernel_rfl) (fun _ _ _ h => h) (by rfl) hS ?_ ?_ ?_
        rotate_left 2
        · intro W hSW; go_simp; try with_reducible rfl
        · simp only [List.set_cons_succ, List.set_cons_zero]; rfl
        refine' take_at 14 rfl (by kernel_rfl) (by kernel_rfl) (by kernel_rfl) (fun _ _ _ h => h) (by rfl) hS ?_ ?_ ?_
        rotate_left 2
        · intro W hSW; go_simp; try with_reducible rfl
        · simp only [List.set_cons_succ, List.set_cons_zero]; rfl
        refine' take_at 15 rfl (by kernel_rfl) (by kernel_rfl) (by kernel_rfl) (fun _ _ _ h => h) (by rfl) hS ?_ ?_ ?_
        rotate_left 2
        · intro W hSW; go_simp; try with_reducible rfl
        · simp only [List.set_cons_succ, List.set_cons_zero]; rfl
        refine' take_at 18 rfl (by kernel_rfl) (by kernel_rfl) (by kernel_rfl) (fun _ _ _ h => h) (by rfl) hS ?_ ?_ ?_
        rotate_left 2
        · intro W hSW; go_simp; try with_reducible rfl
        · simp only [List.set_cons_succ, List.set_cons_zero]; rfl
        refine' take_at 19 rfl (by kernel_rfl) (by kernel_rfl) (by kernel_rfl) (fun _ _ _ h => h) (by rfl) hS ?_ ?_ ?_
        rotate_left 2
        · intro W hSW; exact run_conv_op rfl rfl (HCM.out W (below_on kb1 hSW))
        · simp only [List.set_cons_succ, List.set_cons_zero]; rfl
        refine call_at 16 rfl (by kernel_rfl) (by rfl) (fun K hK => ?_)
        go_simp
        with_reducible refine (HGM.out _ (below_on kb1 hS)).mono ?_
        rintro e v2 ⟨x2, rfl, ho2, hb2⟩
        obtain ⟨A2, c2, rfl, hbs2, hcc2⟩ := ho2.formL HML.out
        have kb2 := below_on hS hb2
        have cv2 : ∀ W, Below v2.heap.size v2 W → (convert 22 9 (.slice A2 200 c2)).run Try.prog W = .ok (.string sM) W := fun W hW => by
          rw [← HSM.out]
          exact run_conv_bs W _ 5 _ Try.underlying22 Try.underlying5 Try.underlying9 A2 M c2 _ (hbs2.below hW) HML.out.symm
        clear hS ho2 hb2
        refine hK.out _ _ (by exact kb2) (fun hS => ?_)
        clear hK K
        refine held_mono (S2 := fun W => Below v2.heap.size v2 W) (fun W hW => below_on kb2 hW) _ _ _ _ ?_
        replace hS : Below v2.heap.size v2 v2 := Below.refl _ _
        refine' take_at 17 rfl (by kernel_rfl) (by kernel_rfl) (by kernel_rfl) (fun _ _ _ h => h) (by rfl) hS ?_ ?_ ?_
        rotate_left 2
        · intro W hSW; exact run_conv_op rfl rfl (cv2 W hSW)
        · simp only [List.set_cons_succ, List.set_cons_zero]; rfl
        refine' take_at 20 rfl (by kernel_rfl) (by kernel_rfl) (by kernel_rfl) (fun _ _ _ h => h) (by rfl) hS ?_ ?_ ?_
        rotate_left 2
        · intro W hSW; go_simp; try with_reducible rfl
        · simp only [List.set_cons_succ, List.set_cons_zero]; rfl
        refine' take_at 21 rfl (by kernel_rfl) (by kernel_rfl) (by kernel_rfl) (fun _ _ _ h => h) (by rfl) hS ?_ ?_ ?_
        rotate_left 2
        · intro W hSW; go_simp; try with_reducible rfl
        · simp only [List.set_cons_succ, List.set_cons_zero]; rfl
        refine wpAnyH_done (by kernel_rfl) ?_ _
        refine NoPanic.normal ?_
        have HB6 := Lib.hid (below_on kb1 (below_on kb2 hS))
        clear hS
        go_wp2_with fail
        obtain ⟨w6, hw6⟩ : ∃ W, v2 = W := ⟨_, rfl⟩
        rw [hw6] at HB6
        rw [hw6]
        clear hw6
        have HG6 := Lib.hid (HBL.out HG5.out HB6.out)
        have HH6 := Lib.hid (HBL.out HH5.out HB6.out)
        have HB6' := Lib.hid (below_next HB5.out HB6.out)
        have HZ6 : Hid (w4.heap.size ≤ w6.heap.size) := Lib.hid (Nat.le_trans HZ5.out HB6.out.size)
        have HBF2 : Hid (∀ k, 0 < m.length → At B k → ¬ F2 k) := Lib.hid fun k hl hk hf => by have := bs_lt HM1.out hl hk; have := HF2.out k hf; have := HZ1.out; omega
        have HBF1 : Hid (∀ k, 0 < m.length → At B k → ¬ F1 k) := Lib.hid fun k hl hk hf => by have := bs_lt HM1.out hl hk; have := HF1.out k hf; omega
        clear HG5 HH5 HB5 HB6 HCM HRM HGM HMD HRMD HBM5
        with_reducible refine (HWR.out _ _ _ HG6.out (HM1.out.below HB6'.out) HBF2.out).mono ?_
        rintro e w7 ⟨rfl, F3, hh7, hF7, ho7⟩
        have HG7 := Lib.hid hh7
        have HH7 : Hid (H w7 g st F1) := Lib.hid (HK.out _ HH6.out ho7 (fun j hj hf => by have := HLT1.out j hj; have := HF2.out j hf; omega))
        have HB7 : Hid (Below w1.heap.size w1 w7) := Lib.hid (HB6'.out.trans (ho7.below HB6'.out.size (fun k hk hf => by have := HF2.out k hf; have := HZ1.out; omega)))
        have HF3 : Hid (∀ j, F3 j → w4.heap.size ≤ j) := Lib.hid fun j hj => by
          rcases hF7 j hj with h1 | h1
          · exact HF2.out j h1
          · exact Nat.le_trans HZ6.out h1
        clear hh7 hF7 ho7 HG6 HH6 HB6'
        go_wp2_with fail
        with_reducible refine (HWR.out _ _ _ HH7.out (HM1.out.below HB7.out) HBF1.out).mono ?_
        rintro e w8 ⟨rfl, F4, hh8, hF8, ho8⟩
        have HH8 := Lib.hid hh8
        have HG8 : Hid (H w8 g2 sq F3) := Lib.hid (HK.out _ HG7.out ho8 (fun j hj hf => by have := HLT1.out j hf; have := HF3.out j hj; omega))
        have hb8 : Below w1.heap.size w1 w8 := HB7.out.trans (ho8.below HB7.out.size (fun k hk hf => by have := HF1.out k hf; omega))
        have HB8 := Lib.hid (below_next HB1.out hb8)
        have HGS : Hid (∀ W, Below w8.heap.size w8 W → Calls Try.prog 13 #[.pointer (some ⟨g2, 0, none⟩)] W fun e w' => e = .returned (.agg D) ∧ Below W.heap.size W w') := Lib.hid fun W hW => HSU.out W _ _ (HBL.out HG8.out hW)
        have HHS : Hid (∀ W, Below w8.heap.size w8 W → Calls Try.prog 13 #[.pointer (some ⟨g, 0, none⟩)] W fun e w' => e = .returned (.agg D) ∧ Below W.heap.size W w') := Lib.hid fun W hW => HSU.out W _ _ (HBL.out HH8.out hW)
        have HGC : Hid (∀ W, Below w8.heap.size w8 W → Calls Try.prog 15 #[.pointer (some ⟨g2, 0, none⟩)] W fun e w' => e = .returned (.int .i64 ((n : Int) + (k : Int))) ∧ Below W.heap.size W w') := Lib.hid fun W hW => HCO.out W _ _ (HBL.out HG8.out hW)
        have HGM2 : Hid (∀ W, Below w8.heap.size w8 W → Calls Try.prog 16 #[.pointer (some ⟨g2, 0, none⟩)] W (RetOb 5 W Q)) := Lib.hid fun W hW => HMD2.out W _ _ (HBL.out HG8.out hW)
        have HHM2 : Hid (∀ W, Below w8.heap.size w8 W → Calls Try.prog 16 #[.pointer (some ⟨g, 0, none⟩)] W (RetOb 5 W Q)) := Lib.hid fun W hW => HMD2.out W _ _ (HBL.out HH8.out hW)
        have HOF : Hid (∀ (W : World) (g : Nat), W.heap[g]? = some (.cells #[.slice A n c, .slice B k d] 22 (0, 0)) → Below w8.heap.size w8 W → Calls Try.prog 10 #[.slice (some ⟨g, 0, none⟩) 2 2] W fun e w' => e = .returned (.agg D) ∧ Below W.heap.size W w') :=
          Lib.hid fun W g hr hW => HOFG.out W g hr ((HL1.out.below hb8).below hW) ((HM1.out.below hb8).below hW)
        clear hh8 hF8 ho8 hb8 HG7 HH7 HB7 HG8 HH8 HSU HCO HMD2 HOFG HK HBL HLT HWR HL1 HM1 HBF1 HBF2 HF1 HF2 HF3 HLT1 HZ1 HZ5 HZ6 HB1
        go_upto_region 14 with fail
        refine wp_region_noPanic ?_
        refine wp_region_held_drew (S := fun W => Below w8.heap.size w8 W) (by kernel_rfl) (by exact (Below.refl _ _).drew) (fun hS => ?_)
        refine' take_at 0 rfl (by kernel_rfl) (by kernel_rfl) (by kernel_rfl) (fun _ _ _ h => h) (by rfl) hS ?_ ?_ ?_
        rotate_left 2
        · intro W hSW; go_simp; try with_reducible rfl
        · simp only [List.set_cons_succ, List.set_cons_zero]; rfl
        refine' take_at 2 rfl (by kernel_rfl) (by kernel_rfl) (by kernel_rfl) (fun _ _ _ h => h) (by rfl) hS ?_ ?_ ?_
        rotate_left 2
        · intro W hSW; go_simp; try with_reducible rfl
        · simp only [List.set_cons_succ, List.set_cons_zero]; rfl
        refine' take_at 3 rfl (by kernel_rfl) (by kernel_rfl) (by kernel_rfl) (fun _ _ _ h => h) (by rfl) hS ?_ ?_ ?_
        rotate_left 2
        · intro W hSW; go_simp; try with_reducible rfl
        · simp only [List.set_cons_succ, List.set_cons_zero]; rfl
        refine call2_at 1 4 rfl rfl (by kernel_rfl) (by rfl) (by rfl) (fun K hK => ?_) (fun K hK => ?_)
        · go_simp
          with_reducible refine (HGS.out _ hS).mono ?_
          rintro e v1 ⟨rfl, hb1⟩
          have kb1 := below_on hS hb1
          clear hS hb1
          refine hK.out _ _ (by exact kb1) (fun hS => ?_)
          clear hK K
          refine call_at 4 rfl (by kernel_rfl) (by rfl) (fun K hK => ?_)
          go_simp
          have hr2 : (v1.alloc (Obj.cells #[.slice A n c, .slice B k d] 22)).heap[v1.heap.size]? = some (Obj.cells #[.slice A n c, .slice B k d] 22) := heap_alloc_new _ _
          have hg2 : v1.heap.size < (v1.alloc (Obj.cells #[.slice A n c, .slice B k d] 22)).heap.size := by simp
          have kb2 : Below _ _ (v1.alloc (Obj.cells #[.slice A n c, .slice B k d] 22)) := hS.alloc hS.size _
          clear hS
          refine hK.out _ _ (by exact kb2) (fun hS => ?_)
          clear hK K hS
          generalize hwa : v1.alloc (Obj.cells #[.slice A n c, .slice B k d] 22) = v2 at hr2 hg2 kb2 ⊢
          clear hwa
          refine held_mono (S2 := fun W => Below v2.heap.size v2 W) (fun W hW => below_on kb2 hW) _ _ _ _ ?_
          have hS : Below v2.heap.size v2 v2 := Below.refl _ _
          refine call_at 5 rfl (by kernel_rfl) (by rfl) (fun K hK => ?_)
          go_simp
          with_reducible refine (HOF.out _ _ (by rw [hS.block _ hg2]; exact hr2) (below_on kb2 hS)).mono ?_
          rintro e v3 ⟨rfl, hb3⟩
          have kb3 := below_on hS hb3
          clear hS hb3
          refine hK.out _ _ (by exact kb3) (fun hS => ?_)
          clear hK K
          refine' take_at 6 rfl (by kernel_rfl) (by kernel_rfl) (by kernel_rfl) (fun _ _ _ h => h) (by rfl) hS ?_ ?_ ?_
          rotate_left 2
          · intro W hSW; exact run_eql_agg rfl rfl rfl hm64 (E1 W)
          · simp only [List.set_cons_succ, List.set_cons_zero]; rfl
          refine' take_at 7 rfl (by kernel_rfl) (by kernel_rfl) (by kernel_rfl) (fun _ _ _ h => h) (by rfl) hS ?_ ?_ ?_
          rotate_left 2
          · intro W hSW; go_simp; try with_reducible rfl
          · simp only [List.set_cons_succ, List.set_cons_zero]; rfl
          refine' take_at 8 rfl (by kernel_rfl) (by kernel_rfl) (by kernel_rfl) (fun _ _ _ h => h) (by rfl) hS ?_ ?_ ?_
          rotate_left 2
          · intro W hSW; go_simp; try with_reducible rfl
          · simp only [List.set_cons_succ, List.set_cons_zero]; rfl
          refine' take_at 10 rfl (by kernel_rfl) (by kernel_rfl) (by kernel_rfl) (fun _ _ _ h => h) (by rfl) hS ?_ ?_ ?_
          rotate_left 2
          · intro W hSW; go_simp; try with_reducible rfl
          · simp only [List.set_cons_succ, List.set_cons_zero]; rfl
          refine call_at 9 rfl (by kernel_rfl) (by rfl) (fun K hK => ?_)
          go_simp
          with_reducible refine (HHS.out _ (below_on kb2 hS)).mono ?_
          rintro e v4 ⟨rfl, hb4⟩
          have kb4 := below_on hS hb4
          clear hS hb4
          refine hK.out _ _ (by exact kb4) (fun hS => ?_)
          clear hK K
          refine call_at 11 rfl (by kernel_rfl) (by rfl) (fun K hK => ?_)
          go_simp
          with_reducible refine (HGS.out _ (below_on kb2 hS)).mono ?_
          rintro e v5 ⟨rfl, hb5⟩
          have kb5 := below_on hS hb5
          clear hS hb5
          refine hK.out _ _ (by exact kb5) (fun hS => ?_)
          clear hK K
          refine' take_at 12 rfl (by kernel_rfl) (by kernel_rfl) (by kernel_rfl) (fun _ _ _ h => h) (by rfl) hS ?_ ?_ ?_
          rotate_left 2
          · intro W hSW; exact run_eql_agg rfl rfl rfl hm64 (E1 W)
          · simp only [List.set_cons_succ, List.set_cons_zero]; rfl
          refine' take_at 13 rfl (by kernel_rfl) (by kernel_rfl) (by kernel_rfl) (fun _ _ _ h => h) (by rfl) hS ?_ ?_ ?_
          rotate_left 2
          · intro W hSW; go_simp; try with_reducible rfl
          · simp only [List.set_cons_succ, List.set_cons_zero]; rfl
          refine' take_at 14 rfl (by kernel_rfl) (by kernel_rfl) (by kernel_rfl) (fun _ _ _ h => h) (by rfl) hS ?_ ?_ ?_
          rotate_left 2
          · intro W hSW; go_simp; try with_reducible rfl
          · simp only [List.set_cons_succ, List.set_cons_zero]; rfl
          refine' take_at 15 rfl (by kernel_rfl) (by kernel_rfl) (by kernel_rfl) (fun _ _ _ h => h) (by rfl) hS ?_ ?_ ?_
          rotate_left 2
          · intro W hSW; go_simp; try with_reducible rfl
          · simp only [List.set_cons_succ, List.set_cons_zero]; rfl
          refine' take_at 17 rfl (by kernel_rfl) (by kernel_rfl) (by kernel_rfl) (fun _ _ _ h => h) (by rfl) hS ?_ ?_ ?_
          rotate_left 2
          · intro W hSW; go_simp; try with_reducible rfl
          · simp only [List.set_cons_succ, List.set_cons_zero]; rfl
          refine' take_at 18 rfl (by kernel_rfl) (by kernel_rfl) (by kernel_rfl) (fun _ _ _ h => h) (by rfl) hS ?_ ?_ ?_
          rotate_left 2
          · intro W hSW; go_simp; try with_reducible rfl
          · simp only [List.set_cons_succ, List.set_cons_zero]; rfl
          refine' take_at 19 rfl (by kernel_rfl) (by kernel_rfl) (by kernel_rfl) (fun _ _ _ h => h) (by rfl) hS ?_ ?_ ?_
          rotate_left 2
          · intro W hSW; go_simp; try with_reducible rfl
          · simp only [List.set_cons_succ, List.set_cons_zero]; rfl
          refine' take_at 20 rfl (by kernel_rfl) (by kernel_rfl) (by kernel_rfl) (fun _ _ _ h => h) (by rfl) hS ?_ ?_ ?_
          rotate_left 2
          · intro W hSW; go_simp; try with_reducible rfl
          · simp only [List.set_cons_succ, List.set_cons_zero]; rfl
          refine' take_at 21 rfl (by kernel_rfl) (by kernel_rfl) (by kernel_rfl) (fun _ _ _ h => h) (by rfl) hS ?_ ?_ ?_
          rotate_left 2
          · intro W hSW; go_simp; try with_reducible rfl
          · simp only [List.set_cons_succ, List.set_cons_zero]; rfl
          refine call_at 16 rfl (by kernel_rfl) (by rfl) (fun K hK => ?_)
          go_simp
          with_reducible refine (HGC.out _ (below_on kb2 hS)).mono ?_
          rintro e v6 ⟨rfl, hb6⟩
          have kb6 := below_on hS hb6
          clear hS hb6
          refine hK.out _ _ (by exact kb6) (fun hS => ?_)
          clear hK K
          refine' take_at 22 rfl (by kernel_rfl) (by kernel_rfl) (by kernel_rfl) (fun _ _ _ h => h) (by rfl) hS ?_ ?_ ?_
          rotate_left 2
          · intro W hSW; go_simp; try with_reducible rfl
          · simp only [List.set_cons_succ, List.set_cons_zero]; rfl
          refine' take_at 23 rfl (by kernel_rfl) (by kernel_rfl) (by kernel_rfl) (fun _ _ _ h => h) (by rfl) hS ?_ ?_ ?_
          rotate_left 2
          · intro W hSW; go_simp; try with_reducible rfl
          · simp only [List.set_cons_succ, List.set_cons_zero]; rfl
          refine' take_at 24 rfl (by kernel_rfl) (by kernel_rfl) (by kernel_rfl) (fun _ _ _ h => h) (by rfl) hS ?_ ?_ ?_
          rotate_left 2
          · intro W hSW; go_simp; try with_reducible rfl
          · simp only [List.set_cons_succ, List.set_cons_zero]; rfl
          refine' take_at 25 rfl (by kernel_rfl) (by kernel_rfl) (by kernel_rfl) (fun _ _ _ h => h) (by rfl) hS ?_ ?_ ?_
          rotate_left 2
          · intro W hSW; go_simp; try with_reducible rfl
          · simp only [List.set_cons_succ, List.set_cons_zero]; rfl
          refine' take_at 28 rfl (by kernel_rfl) (by kernel_rfl) (by kernel_rfl) (fun _ _ _ h => h) (by rfl) hS ?_ ?_ ?_
          rotate_left 2
          · intro W hSW; go_simp; try with_reducible rfl
          · simp only [List.set_cons_succ, List.set_cons_zero]; rfl
          refine call_at 26 rfl (by kernel_rfl) (by rfl) (fun K hK => ?_)
          go_simp
          with_reducible refine (HGM2.out _ (below_on kb2 hS)).mono ?_
          rintro e v7 ⟨x7, rfl, ho7, hb7⟩
          obtain ⟨A7, c7, rfl, hbs7, hcc7⟩ := ho7.formL HQL.out
          have kb7 := below_on hS hb7
          have cv7 : ∀ W, Below v7.heap.size v7 W → (convert 22 9 (.slice A7 200 c7)).run Try.prog W = .ok (.string sQ) W := fun W hW => by
            rw [← HSQ.out]
            exact run_conv_bs W _ 5 _ Try.underlying22 Try.underlying5 Try.underlying9 A7 Q c7 _ (hbs7.below hW) HQL.out.symm
          clear hS ho7 hb7
          refine hK.out _ _ (by exact kb7) (fun hS => ?_)
          clear hK K
          refine held_mono (S2 := fun W => Below v7.heap.size v7 W) (fun W hW => below_on kb7 hW) _ _ _ _ ?_
          replace hS : Below v7.heap.size v7 v7 := Below.refl _ _
          refine' take_at 27 rfl (by kernel_rfl) (by kernel_rfl) (by kernel_rfl) (fun _ _ _ h => h) (by rfl) hS ?_ ?_ ?_
          rotate_left 2
          · intro W hSW; exact run_conv_op rfl rfl (cv7 W hSW)
          · simp only [List.set_cons_succ, List.set_cons_zero]; rfl
          refine call_at 29 rfl (by kernel_rfl) (by rfl) (fun K hK => ?_)
          go_simp
          with_reducible refine (HHM2.out _ (below_on kb2 (below_on kb7 hS))).mono ?_
          rintro e v8 ⟨x8, rfl, ho8, hb8⟩
          obtain ⟨A8, c8, rfl, hbs8, hcc8⟩ := ho8.formL HQL.out
          have kb8 := below_on hS hb8
          have cv8 : ∀ W, Below v8.heap.size v8 W → (convert 22 9 (.slice A8 200 c8)).run Try.prog W = .ok (.string sQ) W := fun W hW => by
            rw [← HSQ.out]
            exact run_conv_bs W _ 5 _ Try.underlying22 Try.underlying5 Try.underlying9 A8 Q c8 _ (hbs8.below hW) HQL.out.symm
          clear hS ho8 hb8
          refine hK.out _ _ (by exact kb8) (fun hS => ?_)
          clear hK K
          refine held_mono (S2 := fun W => Below v8.heap.size v8 W) (fun W hW => below_on kb8 hW) _ _ _ _ ?_
          replace hS : Below v8.heap.size v8 v8 := Below.refl _ _
          refine' take_at 30 rfl (by kernel_rfl) (by kernel_rfl) (by kernel_rfl) (fun _ _ _ h => h) (by rfl) hS ?_ ?_ ?_
          rotate_left 2
          · intro W hSW; exact run_conv_op rfl rfl (cv8 W hSW)
          · simp only [List.set_cons_succ, List.set_cons_zero]; rfl
          refine' take_at 31 rfl (by kernel_rfl) (by kernel_rfl) (by kernel_rfl) (fun _ _ _ h => h) (by rfl) hS ?_ ?_ ?_
          rotate_left 2
          · intro W hSW; go_simp; try with_reducible rfl
          · simp only [List.set_cons_succ, List.set_cons_zero]; rfl
          refine' take_at 32 rfl (by kernel_rfl) (by kernel_rfl) (by kernel_rfl) (fun _ _ _ h => h) (by rfl) hS ?_ ?_ ?_
          rotate_left 2
          · intro W hSW; go_simp; try with_reducible rfl
          · simp only [List.set_cons_succ, List.set_cons_zero]; rfl
          refine' take_at 33 rfl (by kernel_rfl) (by kernel_rfl) (by kernel_rfl) (fun _ _ _ h => h) (by rfl) hS ?_ ?_ ?_
          rotate_left 2
          · intro W hSW; go_simp; try with_reducible rfl
          · simp only [List.set_cons_succ, List.set_cons_zero]; rfl
          refine wpAnyH_done (by kernel_rfl) ?_ _
          refine NoPanic.normal ?_
          have hfin := (below_on kb2 (below_on kb7 (below_on kb8 hS)))
          go_wp2_with fail
          go_ret
          exact ⟨rfl, below_next HB8.out hfin⟩
        · go_simp
          have hr1 : ((w8.alloc (Obj.cells #[.slice A n c, .slice B k d] 22)).drew).heap[w8.heap.size]? = some (Obj.cells #[.slice A n c, .slice B k d] 22) := heap_alloc_new _ _
          have hg1 : w8.heap.size < ((w8.alloc (Obj.cells #[.slice A n c, .slice B k d] 22)).drew).heap.size := by simp
          have kb1 : Below _ _ ((w8.alloc (Obj.cells #[.slice A n c, .slice B k d] 22)).drew) := hS.alloc hS.size _
          clear hS
          refine hK.out _ _ (by exact kb1) (fun hS => ?_)
          clear hK K hS
          generalize hwa : (w8.alloc (Obj.cells #[.slice A n c, .slice B k d] 22)).drew = v1 at hr1 hg1 kb1 ⊢
          clear hwa
          refine held_mono (S2 := fun W => Below v1.heap.size v1 W) (fun W hW => below_on kb1 hW) _ _ _ _ ?_
          have hS : Below v1.heap.size v1 v1 := Below.refl _ _
          refine call_at 1 rfl (by kernel_rfl) (by rfl) (fun K hK => ?_)
          go_simp
          with_reducible refine (HGS.out _ (below_on kb1 hS)).mono ?_
          rintro e v2 ⟨rfl, hb2⟩
          have kb2 := below_on hS hb2
          clear hS hb2
          refine hK.out _ _ (by exact kb2) (fun hS => ?_)
          clear hK K
          refine call_at 5 rfl (by kernel_rfl) (by rfl) (fun K hK => ?_)
          go_simp
          with_reducible refine (HOF.out _ _ (by rw [hS.block _ hg1]; exact hr1) (below_on kb1 hS)).mono ?_
          rintro e v3 ⟨rfl, hb3⟩
          have kb3 := below_on hS hb3
          clear hS hb3
          refine hK.out _ _ (by exact kb3) (fun hS => ?_)
          clear hK K
          refine' take_at 6 rfl (by kernel_rfl) (by kernel_rfl) (by kernel_rfl) (fun _ _ _ h => h) (by rfl) hS ?_ ?_ ?_
          rotate_left 2
          · intro W hSW; exact run_eql_agg rfl rfl rfl hm64 (E1 W)
          · simp only [List.set_cons_succ, List.set_cons_zero]; rfl
          refine' take_at 7 rfl (by kernel_rfl) (by kernel_rfl) (by kernel_rfl) (fun _ _ _ h => h) (by rfl) hS ?_ ?_ ?_
          rotate_left 2
          · intro W hSW; go_simp; try with_reducible rfl
          · simp only [List.set_cons_succ, List.set_cons_zero]; rfl
          refine' take_at 8 rfl (by kernel_rfl) (by kernel_rfl) (by kernel_rfl) (fun _ _ _ h => h) (by rfl) hS ?_ ?_ ?_
          rotate_left 2
          · intro W hSW; go_simp; try with_reducible rfl
          · simp only [List.set_cons_succ, List.set_cons_zero]; rfl
          refine' take_at 10 rfl (by kernel_rfl) (by kernel_rfl) (by kernel_rfl) (fun _ _ _ h => h) (by rfl) hS ?_ ?_ ?_
          rotate_left 2
          · intro W hSW; go_simp; try with_reducible rfl
          · simp only [List.set_cons_succ, List.set_cons_zero]; rfl
          refine call_at 9 rfl (by kernel_rfl) (by rfl) (fun K hK => ?_)
          go_simp
          with_reducible refine (HHS.out _ (below_on kb1 hS)).mono ?_
          rintro e v4 ⟨rfl, hb4⟩
          have kb4 := below_on hS hb4
          clear hS hb4
          refine hK.out _ _ (by exact kb4) (fun hS => ?_)
          clear hK K
          refine call_at 11 rfl (by kernel_rfl) (by rfl) (fun K hK => ?_)
          go_simp
          with_reducible refine (HGS.out _ (below_on kb1 hS)).mono ?_
          rintro e v5 ⟨rfl, hb5⟩
          have kb5 := below_on hS hb5
          clear hS hb5
          refine hK.out _ _ (by exact kb5) (fun hS => ?_)
          clear hK K
          refine' take_at 12 rfl (by kernel_rfl) (by kernel_rfl) (by kernel_rfl) (fun _ _ _ h => h) (by rfl) hS ?_ ?_ ?_
          rotate_left 2
          · intro W hSW; exact run_eql_agg rfl rfl rfl hm64 (E1 W)
          · simp only [List.set_cons_succ, List.set_cons_zero]; rfl
          refine' take_at 13 rfl (by kernel_rfl) (by kernel_rfl) (by kernel_rfl) (fun _ _ _ h => h) (by rfl) hS ?_ ?_ ?_
          rotate_left 2
          · intro W hSW; go_simp; try with_reducible rfl
          · simp only [List.set_cons_succ, List.set_cons_zero]; rfl
          refine' take_at 14 rfl (by kernel_rfl) (by kernel_rfl) (by kernel_rfl) (fun _ _ _ h => h) (by rfl) hS ?_ ?_ ?_
          rotate_left 2
          · intro W hSW; go_simp; try with_reducible rfl
          · simp only [List.set_cons_succ, List.set_cons_zero]; rfl
          refine' take_at 15 rfl (by kernel_rfl) (by kernel_rfl) (by kernel_rfl) (fun _ _ _ h => h) (by rfl) hS ?_ ?_ ?_
          rotate_left 2
          · intro W hSW; go_simp; try with_reducible rfl
          · simp only [List.set_cons_succ, List.set_cons_zero]; rfl
          refine' take_at 17 rfl (by kernel_rfl) (by kernel_rfl) (by kernel_rfl) (fun _ _ _ h => h) (by rfl) hS ?_ ?_ ?_
          rotate_left 2
          · intro W hSW; go_simp; try with_reducible rfl
          · simp only [List.set_cons_succ, List.set_cons_zero]; rfl
          refine' take_at 18 rfl (by kernel_rfl) (by kernel_rfl) (by kernel_rfl) (fun _ _ _ h => h) (by rfl) hS ?_ ?_ ?_
          rotate_left 2
          · intro W hSW; go_simp; try with_reducible rfl
          · simp only [List.set_cons_succ, List.set_cons_zero]; rfl
          refine' take_at 19 rfl (by kernel_rfl) (by kernel_rfl) (by kernel_rfl) (fun _ _ _ h => h) (by rfl) hS ?_ ?_ ?_
          rotate_left 2
          · intro W hSW; go_simp; try with_reducible rfl
          · simp only [List.set_cons_succ, List.set_cons_zero]; rfl
          refine' take_at 20 rfl (by kernel_rfl) (by kernel_rfl) (by kernel_rfl) (fun _ _ _ h => h) (by rfl) hS ?_ ?_ ?_
          rotate_left 2
          · intro W hSW; go_simp; try with_reducible rfl
          · simp only [List.set_cons_succ, List.set_cons_zero]; rfl
          refine' take_at 21 rfl (by kernel_rfl) (by kernel_rfl) (by kernel_rfl) (fun _ _ _ h => h) (by rfl) hS ?_ ?_ ?_
          rotate_left 2
          · intro W hSW; go_simp; try with_reducible rfl
          · simp only [List.set_cons_succ, List.set_cons_zero]; rfl
          refine call_at 16 rfl (by kernel_rfl) (by rfl) (fun K hK => ?_)
          go_simp
          with_reducible refine (HGC.out _ (below_on kb1 hS)).mono ?_
          rintro e v6 ⟨rfl, hb6⟩
          have kb6 := below_on hS hb6
          clear hS hb6
          refine hK.out _ _ (by exact kb6) (fun hS => ?_)
          clear hK K
          refine' take_at 22 rfl (by kernel_rfl) (by kernel_rfl) (by kernel_rfl) (fun _ _ _ h => h) (by rfl) hS ?_ ?_ ?_
          rotate_left 2
          · intro W hSW; go_simp; try with_reducible rfl
          · simp only [List.set_cons_succ, List.set_cons_zero]; rfl
          refine' take_at 23 rfl (by kernel_rfl) (by kernel_rfl) (by kernel_rfl) (fun _ _ _ h => h) (by rfl) hS ?_ ?_ ?_
          rotate_left 2
          · intro W hSW; go_simp; try with_reducible rfl
          · simp only [List.set_cons_succ, List.set_cons_zero]; rfl
          refine' take_at 24 rfl (by kernel_rfl) (by kernel_rfl) (by kernel_rfl) (fun _ _ _ h => h) (by rfl) hS ?_ ?_ ?_
          rotate_left 2
          · intro W hSW; go_simp; try with_reducible rfl
          · simp only [List.set_cons_succ, List.set_cons_zero]; rfl
          refine' take_at 25 rfl (by kernel_rfl) (by kernel_rfl) (by kernel_rfl) (fun _ _ _ h => h) (by rfl) hS ?_ ?_ ?_
          rotate_left 2
          · intro W hSW; go_simp; try with_reducible rfl
          · simp only [List.set_cons_succ, List.set_cons_zero]; rfl
          refine' take_at 28 rfl (by kernel_rfl) (by kernel_rfl) (by kernel_rfl) (fun _ _ _ h => h) (by rfl) hS ?_ ?_ ?_
          rotate_left 2
          · intro W hSW; go_simp; try with_reducible rfl
          · simp only [List.set_cons_succ, List.set_cons_zero]; rfl
          refine call_at 26 rfl (by kernel_rfl) (by rfl) (fun K hK => ?_)
          go_simp
          with_reducible refine (HGM2.out _ (below_on kb1 hS)).mono ?_
          rintro e v7 ⟨x7, rfl, ho7, hb7⟩
          obtain ⟨A7, c7, rfl, hbs7, hcc7⟩ := ho7.formL HQL.out
          have kb7 := below_on hS hb7
          have cv7 : ∀ W, Below v7.heap.size v7 W → (convert 22 9 (.slice A7 200 c7)).run Try.prog W = .ok (.string sQ) W := fun W hW => by
            rw [← HSQ.out]
            exact run_conv_bs W _ 5 _ Try.underlying22 Try.underlying5 Try.underlying9 A7 Q c7 _ (hbs7.below hW) HQL.out.symm
          clear hS ho7 hb7
          refine hK.out _ _ (by exact kb7) (fun hS => ?_)
          clear hK K
          refine held_mono (S2 := fun W => Below v7.heap.size v7 W) (fun W hW => below_on kb7 hW) _ _ _ _ ?_
          replace hS : Below v7.heap.size v7 v7 := Below.refl _ _
          refine' take_at 27 rfl (by kernel_rfl) (by kernel_rfl) (by kernel_rfl) (fun _ _ _ h => h) (by rfl) hS ?_ ?_ ?_
          rotate_left 2
          · intro W hSW; exact run_conv_op rfl rfl (cv7 W hSW)
          · simp only [List.set_cons_succ, List.set_cons_zero]; rfl
          refine call_at 29 rfl (by kernel_rfl) (by rfl) (fun K hK => ?_)
          go_simp
          with_reducible refine (HHM2.out _ (below_on kb1 (below_on kb7 hS))).mono ?_
          rintro e v8 ⟨x8, rfl, ho8, hb8⟩
          obtain ⟨A8, c8, rfl, hbs8, hcc8⟩ := ho8.formL HQL.out
          have kb8 := below_on hS hb8
          have cv8 : ∀ W, Below v8.heap.size v8 W → (convert 22 9 (.slice A8 200 c8)).run Try.prog W = .ok (.string sQ) W := fun W hW => by
            rw [← HSQ.out]
            exact run_conv_bs W _ 5 _ Try.underlying22 Try.underlying5 Try.underlying9 A8 Q c8 _ (hbs8.below hW) HQL.out.symm
          clear hS ho8 hb8
          refine hK.out _ _ (by exact kb8) (fun hS => ?_)
          clear hK K
          refine held_mono (S2 := fun W => Below v8.heap.size v8 W) (fun W hW => below_on kb8 hW) _ _ _ _ ?_
          replace hS : Below v8.heap.size v8 v8 := Below.refl _ _
          refine' take_at 30 rfl (by kernel_rfl) (by kernel_rfl) (by kernel_rfl) (fun _ _ _ h => h) (by rfl) hS ?_ ?_ ?_
          rotate_left 2
          · intro W hSW; exact run_conv_op rfl rfl (cv8 W hSW)
          · simp only [List.set_cons_succ, List.set_cons_zero]; rfl
          refine' take_at 31 rfl (by kernel_rfl) (by kernel_rfl) (by kernel_rfl) (fun _ _ _ h => h) (by rfl) hS ?_ ?_ ?_
          rotate_left 2
          · intro W hSW; go_simp; try with_reducible rfl
          · simp only [List.set_cons_succ, List.set_cons_zero]; rfl
          refine' take_at 32 rfl (by kernel_rfl) (by kernel_rfl) (by kernel_rfl) (fun _ _ _ h => h) (by rfl) hS ?_ ?_ ?_
          rotate_left 2
          · intro W hSW; go_simp; try with_reducible rfl
          · simp only [List.set_cons_succ, List.set_cons_zero]; rfl
          refine' take_at 33 rfl (by kernel_rfl) (by kernel_rfl) (by kernel_rfl) (fun _ _ _ h => h) (by rfl) hS ?_ ?_ ?_
          rotate_left 2
          · intro W hSW; go_simp; try with_reducible rfl
          · simp only [List.set_cons_succ, List.set_cons_zero]; rfl
          refine wpAnyH_done (by kernel_rfl) ?_ _
          refine NoPanic.normal ?_
          have hfin := (below_on kb1 (below_on kb7 (below_on kb8 hS)))
          go_wp2_with fail
          go_ret
          exact ⟨rfl, below_next HB8.out hfin⟩
end Go.Proofs.Ytbkcglfdliicpaa

