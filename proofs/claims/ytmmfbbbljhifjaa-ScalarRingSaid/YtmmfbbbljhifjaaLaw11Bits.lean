/- The walk of ScalarBits. Written by wip/tools. -/
import Derived.Test.YtmmfbbbljhifjaaLaw11Full
namespace Go.Proofs.Ytmmfbbbljhifjaa
open Go.RowKit
set_option linter.unusedVariables false
set_option maxRecDepth 100000

set_option maxHeartbeats 6400000 in
theorem law11Bits (C : ScC) (a : List UInt8) (ha : a.length = 32) (w : World) : Calls Try.prog 7 #[.agg (arrB a)] w fun e w' => e = .returned (.bool true) ∧ Below w.heap.size w w' := by
  have HAL : Hid (∀ W : World, Calls Try.prog 8 #[] W fun e w' => e = .returned (.bool true) ∧ Below W.heap.size W w') := Lib.hid (fun W => alive11_any C W)
  have hz32 : ∀ u, (zeroValue 22).run Try.prog u = .ok (.agg (bytT 0)) u := fun u => zero32_zero u
  have Ha := Lib.hid ha
  clear ha
  go_enter Try.func7, Try.ntmps7
  go_wp2_with fail
  have HR0 := Lib.hid ((RowsW.nil w).box (arrB a) 22)
  have HB0 := Lib.hid (below_box (Below.refl w.heap.size w) (arrB a) 22)
  obtain ⟨W0, hW0⟩ : ∃ W, (w.alloc (.cells (arrB a) 22)) = W := ⟨_, rfl⟩
  obtain ⟨g0, hg0⟩ : ∃ g, w.heap.size = g := ⟨_, rfl⟩
  rw [hW0] at HR0 HB0
  rw [hg0] at HR0
  rw [hW0, hg0]
  have HG0 := Lib.hid hg0
  clear hW0 hg0
  obtain ⟨na, hna⟩ : ∃ x : Nat, leN a = x := ⟨_, rfl⟩
  have HNa := Lib.hid hna
  clear hna
  with_reducible refine (HAL.out _).mono ?_
  rintro e v1 ⟨rfl, hb1⟩
  have HR1 := Lib.hid (HR0.out.below hb1)
  have HB1 := Lib.hid (below_next HB0.out hb1)
  clear hb1
  go_upto_region 2 with fail
  have h0q1 : (v1.alloc (.cells (bytT 0) 22)).heap[v1.heap.size]? = some (.cells (bytT 0) 22 (0, 0)) := heap_alloc_new _ _
  have HRq1 := Lib.hid (HR1.out.new (bytT 0) (bytT 0) 22)
  have HBq1 := Lib.hid (below_new HB1.out (bytT 0) (bytT 0) 22)
  have HNq1 := Lib.hid HR1.out.ne
  have HGq1 := Lib.hid HB1.out.size
  go_upto_region 3 with (first
      | (refine wpList_runsV (o := ⟨some 7, _, _, _, _, _⟩) rfl (.agg (bytT 0)) (by kernel_rfl) ?_)
      | (refine wpList_store_row rfl 22 (.tmp 4) (.tmp 7) rfl v1.heap.size (bytT 0) rfl rfl 22 (bytT 0) h0q1 (bytT_info _) (byt_size 0 0) (bytT_one _) ?_))
  obtain ⟨Wq1, hWq1⟩ : ∃ W, (v1.alloc (.cells (bytT 0) 22)).setRow v1.heap.size (bytT 0) = W := ⟨_, rfl⟩
  obtain ⟨gq1, hgq1⟩ : ∃ g, v1.heap.size = g := ⟨_, rfl⟩
  rw [hWq1, hgq1] at HRq1
  rw [hWq1] at HBq1
  rw [hgq1] at HNq1 HGq1
  rw [hWq1, hgq1]
  clear hWq1 hgq1 h0q1
  have NEq1_0 : Hid (g0 ≠ gq1) := Lib.hid (HNq1.out (g0, (arrB a), 22) (by simp))
  have HAD : Hid (∀ x y : Nat, x < LL → y < LL → ∀ W : World, Calls Try.prog 16 #[.agg (bytT x), .agg (bytT y)] W (RetV W (.agg (bytT ((x + y) % LL))))) := Lib.hid fun x y hx hy W => by
    have h := C.add (leB 32 x) (leB 32 y) (leB_len _ _) (leB_len _ _) W
    rw [leN_byt hx, leN_byt hy] at h
    exact h
  have HBI : Hid (∀ j : Nat, j < 256 → ∀ W : World, Calls Try.prog 22 #[.agg (arrB a), .int .i64 (j : Int)] W (RetV W (.int .i64 ((na / 2 ^ j % 2 : Nat) : Int)))) := Lib.hid fun j hj W => by
    have h := C.bit a Ha.out (j : Int) (by omega) (by omega) W
    unfold bitZ at h
    rw [if_pos (by omega), HNa.out, Int.toNat_natCast] at h
    exact h
  have HNL : Hid (na < 2 ^ 256) := Lib.hid (by have h := leN_lt a; rw [Ha.out, HNa.out] at h; rwa [show (256 : Nat) ^ 32 = 2 ^ 256 by rw [show (256 : Nat) = 2 ^ 8 by decide, ← Nat.pow_mul]] at h)
  have HRS : Hid (RowsW Wq1 [(gq1, bytT (modR na 256), 22), (g0, arrB a, 22)]) := Lib.hid (by
    have h : modR na 256 = 0 := by unfold modR; rw [Nat.div_eq_of_lt HNL.out, Nat.zero_mod]
    rw [h]; exact HRq1.out)
  have HBS := HBq1
  clear HRq1 HBq1
  have HOW : Hid (w.heap.size ≤ gq1) := Lib.hid HGq1.out
  have iA := arr32_info Ha.out
  have HNE := NEq1_0.out
  go_wp2_with fail
  go_loopw [5] (fun i wr => ∃ k : Nat, k ≤ 256 ∧ i = .int .i64 ((k : Int) - 1) ∧ Hid (RowsW wr [(gq1, bytT (modR na k), 22), (g0, arrB a, 22)]) ∧ Hid (Below w.heap.size w wr)) (fun i _ => (intOf i + 1).toNat)
  case atStart => exact ⟨256, by omega, rfl, HRS, HBS⟩
  case round =>
    clear HRS HBS
    obtain ⟨k, hk, rfl, HR, HB⟩ := hrel
    cases k with
    | succ j =>
      obtain ⟨v, hv⟩ : ∃ v : Int, ((j + 1 : Nat) : Int) - 1 = v := ⟨_, rfl⟩
      rw [hv]
      obtain rfl : v = (j : Int) := by omega
      clear hv
      have hst := modR_step na j
      obtain ⟨R, hR⟩ : ∃ R, modR na (j + 1) = R := ⟨_, rfl⟩
      have hRl : R < LL := by rw [← hR]; exact modR_lt _ _
      rw [hR] at HR hst
      have hb1 := HBI.out j (by omega)
      obtain ⟨c, hc⟩ : ∃ c, na / 2 ^ j % 2 = c := ⟨_, rfl⟩
      have hcl : c = 0 ∨ c = 1 := by rw [← hc]; omega
      rw [hc] at hb1 hst
      have HBJ := Lib.hid hb1
      have HS1 := Lib.hid (HAD.out R R hRl hRl)
      obtain ⟨S, hS⟩ : ∃ S, (R + R) % LL = S := ⟨_, rfl⟩
      have hSl : S < LL := by rw [← hS]; exact Nat.mod_lt _ (by decide)
      rw [hS] at HS1
      have hs1 := HR.out.head
      have b4 : decide (0 ≤ (j : Int)) = true := decide_eq_true (by omega)
      have HJ : Hid (j < 256) := Lib.hid (by omega)
      have HST : Hid (modR na j = (2 * R + c) % LL) := Lib.hid hst
      have HSE := Lib.hid hS
      have HSL := Lib.hid hSl
      clear hb1 hst hR hRl hc hS hSl hk
      go_wp2_with (first
        | (refine wpList_runsV (o := ⟨some 12, _, _, _, _, _⟩) rfl (.agg (bytT R)) (run_loadR rfl rfl hs1 Try.underlying22 rfl (bytT_info R)) ?_)
        | (refine wpList_runsV (o := ⟨some 13, _, _, _, _, _⟩) rfl (.agg (bytT R)) (run_loadR rfl rfl hs1 Try.underlying22 rfl (bytT_info R)) ?_))
      with_reducible refine (HS1.out _).mono ?_
      rintro e w1 ⟨rfl, hb1⟩
      have HR1 := Lib.hid (HR.out.below hb1)
      have HB1 := Lib.hid (below_next HB.out hb1)
      have h2 := HR1.out.head
      have HR2 := Lib.hid (HR1.out.put (by intro r hr; simp only [List.mem_cons, List.not_mem_nil, or_false] at hr; subst hr; exact HNE) (bytT S))
      have HB2 := Lib.hid (below_row (cs := bytT S) HB1.out HOW.out)
      clear hb1 HR HB hs1 b4
      have hrA := HR2.out.tail.head
      go_wp2_with (first
        | (refine wpList_store_row rfl 22 (.tmp 4) (.tmp 14) rfl gq1 (bytT S) rfl rfl 22 (bytT R) h2 (bytT_info S) (byt_size R S) (bytT_one S) ?_)
        | (refine wpList_runsV (o := ⟨some 15, _, _, _, _, _⟩) rfl (.agg (arrB a)) (run_loadR rfl rfl hrA Try.underlying22 rfl iA) ?_))
      obtain ⟨W2, hW2⟩ : ∃ Q, w1.setRow gq1 (bytT S) = Q := ⟨_, rfl⟩
      rw [hW2] at HR2 HB2 ⊢
      clear hW2 h2 hrA HR1 HB1
      with_reducible refine (HBJ.out _).mono ?_
      rintro e w3 ⟨rfl, hb3⟩
      have HR3 := Lib.hid (HR2.out.below hb3)
      have HB3 := Lib.hid (below_next HB2.out hb3)
      clear hb3 HR2 HB2
      have hj := HJ.out
      rcases hcl with rfl | rfl
      · have HE : Hid (RowsW w3 [(gq1, bytT (modR na j), 22), (g0, arrB a, 22)]) := Lib.hid (by rw [HST.out, show 2 * R + 0 = R + R by omega, HSE.out]; exact HR3.out)
        clear HR3
        go_wp2_with fail
        go_roundw
        case rel => exact ⟨j, by omega, by first | rfl | go_num, HE, HB3⟩
        case measure => first | (simp [intOf]; done) | (simp [intOf]; omega)
      · have HS2 := Lib.hid (HAD.out S 1 HSL.out (by decide))
        have hnx : modR na j = (S + 1) % LL := by rw [HST.out, ← HSE.out, Nat.mod_add_mod, show R + R + 1 = 2 * R + 1 by omega]
        obtain ⟨U, hU⟩ : ∃ U, (S + 1) % LL = U := ⟨_, rfl⟩
        rw [hU] at HS2 hnx
        have HNX := Lib.hid hnx
        have hs3 := HR3.out.head
        clear hU hnx
        go_wp2_with (first
          | (refine wpList_runsV (o := ⟨some 19, _, _, _, _, _⟩) rfl (.agg (bytT S)) (run_loadR rfl rfl hs3 Try.underlying22 rfl (bytT_info S)) ?_)
          | (refine wpList_runsV (o := ⟨some 20, _, _, _, _, _⟩) rfl (.agg (bytT 1)) (by kernel_rfl) ?_))
        with_reducible refine (HS2.out _).mono ?_
        rintro e w4 ⟨rfl, hb4⟩
        have HR4 := Lib.hid (HR3.out.below hb4)
        have HB4 := Lib.hid (below_next HB3.out hb4)
        have h4 := HR4.out.head
        have HE : Hid (RowsW (w4.setRow gq1 (bytT U)) [(gq1, bytT (modR na j), 22), (g0, arrB a, 22)]) := Lib.hid (by rw [HNX.out]; exact HR4.out.put (by intro r hr; simp only [List.mem_cons, List.not_mem_nil, or_false] at hr; subst hr; exact HNE) (bytT U))
        have HB5 := Lib.hid (below_row (cs := bytT U) HB4.out HOW.out)
        clear hb4 hs3 HR3 HB3 HR4 HB4
        go_wp2_with (refine wpList_store_row rfl 22 (.tmp 4) (.tmp 21) rfl gq1 (bytT U) rfl rfl 22 (bytT S) h4 (bytT_info U) (byt_size S U) (bytT_one U) ?_)
        go_roundw
        case rel => exact ⟨j, by omega, by first | rfl | go_num, HE, HB5⟩
        case measure => first | (simp [intOf]; done) | (simp [intOf]; omega)
    | zero =>
      have b4 : decide (0 ≤ (((0 : Nat) : Int) - 1)) = false := by decide
      obtain ⟨R, hR⟩ : ∃ R, modR na 0 = R := ⟨_, rfl⟩
      rw [hR] at HR
      have HRE : Hid (R = na % LL) := Lib.hid (by rw [← hR, modR_zero])
      clear hR hk
      go_upto_region 9 with fail
      refine wp_region_noPanic ?_
      refine wp_region_held_drew (S := fun W => Below wr.heap.size wr W) (by kernel_rfl) (by exact (Below.refl _ _).drew) (fun hS => ?_)
      refine' take_at 0 rfl (by kernel_rfl) (by kernel_rfl) (by kernel_rfl) (fun _ _ _ h => h) (by rfl) hS ?_ ?_ ?_
      rotate_left 2
      · intro W hSW; go_simp; try with_reducible rfl
      · simp only [List.set_cons_succ, List.set_cons_zero]; rfl
      refine' take_at 1 rfl (by kernel_rfl) (by kernel_rfl) (by kernel_rfl) (fun _ _ _ h => h) (by rfl) hS ?_ ?_ ?_
      rotate_left 2
      · intro W hSW; go_simp; try with_reducible rfl
      · simp only [List.set_cons_succ, List.set_cons_zero]; rfl
      refine' take_at 2 rfl (by kernel_rfl) (by kernel_rfl) (by kernel_rfl) (fun _ _ _ h => h) (by rfl) hS ?_ ?_ ?_
      rotate_left 2
      · intro W hSW; exact run_loadR rfl rfl (HR.out.below hSW).head Try.underlying22 rfl (bytT_info _)
      · simp only [List.set_cons_succ, List.set_cons_zero]; rfl
      refine' take_at 3 rfl (by kernel_rfl) (by kernel_rfl) (by kernel_rfl) (fun _ _ _ h => h) (by rfl) hS ?_ ?_ ?_
      rotate_left 2
      · intro W hSW; exact run_loadR rfl rfl (HR.out.below hSW).tail.head Try.underlying22 rfl (arr32_info Ha.out)
      · simp only [List.set_cons_succ, List.set_cons_zero]; rfl
      refine' take_at 4 rfl (by kernel_rfl) (by kernel_rfl) (by kernel_rfl) (fun _ _ _ h => h) (by rfl) hS ?_ ?_ ?_
      rotate_left 2
      · intro W hSW; exact run_build0 rfl W
      · simp only [List.set_cons_succ, List.set_cons_zero]; rfl
      refine call_at 5 rfl (by kernel_rfl) (by rfl) (fun K hK => ?_)
      go_simp
      obtain ⟨n2, hn2⟩ : ∃ x : Nat, (na + 0) % LL = x := ⟨_, rfl⟩
      have Hn2 := Lib.hid hn2
      have HLn2 : Hid (n2 < LL) := Lib.hid (by rw [← hn2]; exact Nat.mod_lt _ (by decide))
      clear hn2
      have kq3 := fun W : World => (C.add a (leB 32 0) Ha.out (leB_len 32 0)) W
      rw [byt_fold 0, HNa.out, leN_byt (show 0 < LL by decide), Hn2.out] at kq3
      have Kq3 := Lib.hid kq3
      clear kq3
      with_reducible refine (Kq3.out _).mono ?_
      rintro e vq3 ⟨rfl, hbq3⟩
      have kbq3 := below_next hS hbq3
      clear hS hbq3
      refine hK.out _ _ (by exact kbq3) (fun hS => ?_)
      clear hK K
      refine' take_at 6 rfl (by kernel_rfl) (by kernel_rfl) (by kernel_rfl) (fun _ _ _ h => h) (by rfl) hS ?_ ?_ ?_
      rotate_left 2
      · intro W hSW; exact run_eql2 rfl rfl rfl guardB (by rw [show R = n2 from (by rw [← Hn2.out, HRE.out, Nat.add_zero])]; exact eqBytT n2 W)
      · simp only [List.set_cons_succ, List.set_cons_zero]; rfl
      refine' take_at 7 rfl (by kernel_rfl) (by kernel_rfl) (by kernel_rfl) (fun _ _ _ h => h) (by rfl) hS ?_ ?_ ?_
      rotate_left 2
      · intro W hSW; go_simp; try with_reducible rfl
      · simp only [List.set_cons_succ, List.set_cons_zero]; rfl
      refine' take_at 8 rfl (by kernel_rfl) (by kernel_rfl) (by kernel_rfl) (fun _ _ _ h => h) (by rfl) hS ?_ ?_ ?_
      rotate_left 2
      · intro W hSW; go_simp; try with_reducible rfl
      · simp only [List.set_cons_succ, List.set_cons_zero]; rfl
      refine' take_at 9 rfl (by kernel_rfl) (by kernel_rfl) (by kernel_rfl) (fun _ _ _ h => h) (by rfl) hS ?_ ?_ ?_
      rotate_left 2
      · intro W hSW; exact run_loadR rfl rfl (HR.out.below hSW).tail.head Try.underlying22 rfl (arr32_info Ha.out)
      · simp only [List.set_cons_succ, List.set_cons_zero]; rfl
      refine call_at 10 rfl (by kernel_rfl) (by rfl) (fun K hK => ?_)
      go_simp
      have kq4 := fun W : World => (C.bit a Ha.out (-1) (by decide) (by decide)) W
      rw [show bitZ a (-1) = 0 from by unfold bitZ; rw [if_neg (by decide)]] at kq4
      have Kq4 := Lib.hid kq4
      clear kq4
      with_reducible refine (Kq4.out _).mono ?_
      rintro e vq4 ⟨rfl, hbq4⟩
      have kbq4 := below_next kbq3 hbq4
      clear hS hbq4
      refine hK.out _ _ (by exact kbq4) (fun hS => ?_)
      clear hK K
      refine' take_at 11 rfl (by kernel_rfl) (by kernel_rfl) (by kernel_rfl) (fun _ _ _ h => h) (by rfl) hS ?_ ?_ ?_
      rotate_left 2
      · intro W hSW; go_simp; try with_reducible rfl
      · simp only [List.set_cons_succ, List.set_cons_zero]; rfl
      refine' take_at 12 rfl (by kernel_rfl) (by kernel_rfl) (by kernel_rfl) (fun _ _ _ h => h) (by rfl) hS ?_ ?_ ?_
      rotate_left 2
      · intro W hSW; go_simp; try with_reducible rfl
      · simp only [List.set_cons_succ, List.set_cons_zero]; rfl
      refine' take_at 13 rfl (by kernel_rfl) (by kernel_rfl) (by kernel_rfl) (fun _ _ _ h => h) (by rfl) hS ?_ ?_ ?_
      rotate_left 2
      · intro W hSW; go_simp; try with_reducible rfl
      · simp only [List.set_cons_succ, List.set_cons_zero]; rfl
      refine' take_at 14 rfl (by kernel_rfl) (by kernel_rfl) (by kernel_rfl) (fun _ _ _ h => h) (by rfl) hS ?_ ?_ ?_
      rotate_left 2
      · intro W hSW; exact run_loadR rfl rfl (HR.out.below hSW).tail.head Try.underlying22 rfl (arr32_info Ha.out)
      · simp only [List.set_cons_succ, List.set_cons_zero]; rfl
      refine call_at 15 rfl (by kernel_rfl) (by rfl) (fun K hK => ?_)
      go_simp
      have kq5 := fun W : World => (C.bit a Ha.out (256) (by decide) (by decide)) W
      rw [show bitZ a (256) = 0 from by unfold bitZ; rw [if_neg (by decide)]] at kq5
      have Kq5 := Lib.hid kq5
      clear kq5
      with_reducible refine (Kq5.out _).mono ?_
      rintro e vq5 ⟨rfl, hbq5⟩
      have kbq5 := below_next kbq4 hbq5
      clear hS hbq5
      refine hK.out _ _ (by exact kbq5) (fun hS => ?_)
      clear hK K
      refine' take_at 16 rfl (by kernel_rfl) (by kernel_rfl) (by kernel_rfl) (fun _ _ _ h => h) (by rfl) hS ?_ ?_ ?_
      rotate_left 2
      · intro W hSW; go_simp; try with_reducible rfl
      · simp only [List.set_cons_succ, List.set_cons_zero]; rfl
      refine' take_at 17 rfl (by kernel_rfl) (by kernel_rfl) (by kernel_rfl) (fun _ _ _ h => h) (by rfl) hS ?_ ?_ ?_
      rotate_left 2
      · intro W hSW; go_simp; try with_reducible rfl
      · simp only [List.set_cons_succ, List.set_cons_zero]; rfl
      refine' take_at 18 rfl (by kernel_rfl) (by kernel_rfl) (by kernel_rfl) (fun _ _ _ h => h) (by rfl) hS ?_ ?_ ?_
      rotate_left 2
      · intro W hSW; go_simp; try with_reducible rfl
      · simp only [List.set_cons_succ, List.set_cons_zero]; rfl
      refine wpAnyH_done (by kernel_rfl) ?_ _
      refine NoPanic.normal ?_
      clear hS
      (try simp only [Act.put])
      have HRq6 := Lib.hid (HR.out.below kbq5)
      have HBq6 := Lib.hid (below_next HB.out kbq5)
      go_wp2_with fail
      go_ret
      exact ⟨rfl, HBq6.out⟩
end Go.Proofs.Ytmmfbbbljhifjaa

