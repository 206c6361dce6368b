/- SealTorn walked. Written by wip/tools/mk_torn5.py. -/
import Derived.Test.YtddalnmoahpljaaLaw5Tells
namespace Go.Proofs.Ytddalnmoahpljaa
open Go.RowKit
set_option linter.unusedVariables false
set_option maxRecDepth 100000

/-- what is left of a word that was being programmed over blank bytes: eight bytes, none with fewer bits -/
theorem torn_ge (P p : List UInt8) (t : Nat) (h : 8 * t + 8 ≤ P.length) {T : List UInt8}
    (hT : (if canB (List.replicate 8 255) ((P.drop (8 * t)).take 8) then tornB (List.replicate 8 255) ((P.drop (8 * t)).take 8) p else []) = T) :
    T.length = 8 ∧ ∀ j, j < 8 → (P.getD (8 * t + j) 0).toNat ≤ (T.getD j 0).toNat := by
  have hl : ((P.drop (8 * t)).take 8).length = 8 := by rw [List.length_take, List.length_drop]; omega
  have hc := canB_blank ((P.drop (8 * t)).take 8)
  rw [hl] at hc
  rw [hc, if_pos rfl] at hT
  subst hT
  refine ⟨by simp only [tornB, List.length_map, List.length_range]; exact hl, fun j hj => ?_⟩
  unfold tornB
  rw [getD_map_range _ _ _ (by rw [hl]; exact hj)]
  have e : ((P.drop (8 * t)).take 8).getD j 0 = P.getD (8 * t + j) 0 := by
    simp only [List.getD_eq_getElem?_getD]
    rw [List.getElem?_take_of_lt hj, List.getElem?_drop]
  rw [e]
  unfold tornByte
  rw [UInt8.toNat_or]
  exact Nat.left_le_or

theorem run_conv_bs' {A : Option Addr} {n c : Nat} {W : World} (l : List UInt8) (h : Bs W A l) (e : n = l.length) : (convert 22 9 (.slice A n c)).run Try.prog W = .ok (.string (strB l)) W := by
  subst e
  exact run_conv_bs W _ 5 _ Try.underlying22 Try.underlying5 Try.underlying9 A l c _ h rfl

set_option maxHeartbeats 3200000 in
theorem torn5_yes (k q : Int) (A A2 : Option Addr) (l p : List UInt8) (c cm t : Nat) (w : World) (h : Bs w A l) (hm : Bs w A2 p) (hcm : p.length ≤ cm) (hk1 : -9223372036854775808 ≤ k) (hk2 : k ≤ 9223372036854775807) (hq1 : -9223372036854775808 ≤ q) (hq2 : q ≤ 9223372036854775807)
    (hl : l.length ≤ 600) (ht : 8 * t + 8 ≤ (putR k q l).length) (hml : p.length ≤ 8) :
    Calls Try.prog 5 #[.agg #[.int .i64 k, .int .i64 q, .slice A l.length c], .int .i64 (t : Int), .slice A2 p.length cm] w fun e w' => e = .returned (.bool true) ∧ Below w.heap.size w w' := by
  have hok := putR_ok (k := k) (q := q) (l := l) (by omega)
  have hlen := putR_le k q l
  have hsz := putR_len hok
  have HPUT : Hid (∀ W, Below w.heap.size w W → Calls Try.prog 12 #[.agg #[.int .i64 k, .int .i64 q, .slice A l.length c]] W (RetOb 5 W (putR k q l))) := Lib.hid fun W hW =>
    put_any k q A l c W (h.below hW) hk1 hk2 hq1 hq2 (by omega)
  have HGP : Hid (∀ w w' e more, GetPost w (putR k q l ++ more) e w' → Below w.heap.size w w' ∧ ∃ A c, e = .returned (.tuple #[.agg #[.int .i64 k, .int .i64 q, .slice A l.length c], .int .i64 (sizeR l.length : Nat), .bool true]) ∧ Bs w' A l) := Lib.hid fun w w' e more h => getPost_put hok h
  have HSM : Hid (∀ W A' c', Below w.heap.size w W → Bs W A' l → Calls Try.prog 14 #[.agg #[.int .i64 k, .int .i64 q, .slice A l.length c], .agg #[.int .i64 k, .int .i64 q, .slice A' l.length c']] W (BoolIn W true)) := Lib.hid fun W A' c' hW hb => by
    have := same_any k q k q A A' l l l.length l.length c c' W (h.below hW) hb rfl rfl
    rwa [show decide (k = k ∧ q = q ∧ l = l) = true by simp] at this
  obtain ⟨T, hT⟩ : ∃ T, (if canB (List.replicate 8 255) (((putR k q l).drop (8 * t)).take 8) then tornB (List.replicate 8 255) (((putR k q l).drop (8 * t)).take 8) p else []) = T := ⟨_, rfl⟩
  have htt := torn_ge (putR k q l) p t ht hT
  have HNO : Hid (∀ m, m = (putR k q l).length - 8 * t - 8 + 64 → ((putR k q l).take (8 * t) ++ T ++ List.replicate m 255).take (putR k q l).length ≠ putR k q l → ¬ isR ((putR k q l).take (8 * t) ++ T ++ List.replicate m 255)) := Lib.hid fun m hm hne hr =>
    hne (isR_torn hok ht htt.1 hm htt.2 hr)
  have HTL := Lib.hid htt.1
  have hml8 : (((putR k q l).drop (8 * t)).take 8).length = 8 := by rw [List.length_take, List.length_drop]; omega
  obtain ⟨n, hn⟩ : ∃ n, sizeR l.length = n := ⟨_, rfl⟩
  rw [hn] at hsz HGP
  obtain ⟨P, Hp⟩ : ∃ P, Hid (putR k q l = P) := ⟨_, rfl⟩
  rw [Hp.out] at HPUT HGP hlen hsz HNO ht hT hml8
  rw [hsz] at hlen HNO ht
  obtain ⟨M, hM⟩ : ∃ M, (P.drop (8 * t)).take 8 = M := ⟨_, rfl⟩
  have HML : Hid (M.length = 8) := Lib.hid (by rw [← hM]; exact hml8)
  rw [hM] at hT
  have HT := Lib.hid hT
  obtain ⟨r, hr⟩ : ∃ r, r = n - 8 * t - 8 + 64 := ⟨_, rfl⟩
  obtain ⟨X, hX⟩ : ∃ X, P.take (8 * t) ++ T ++ List.replicate r 255 = X := ⟨_, rfl⟩
  have HNO' : Hid (X.take n ≠ P → ¬ isR X) := Lib.hid (by rw [← hX]; exact HNO.out r hr)
  have HXL : Hid (X.length = n + 64) := Lib.hid (by rw [← hX]; simp only [List.length_append, List.length_take, List.length_replicate, HTL.out]; omega)
  obtain ⟨ln, hln⟩ : ∃ n, l.length = n := ⟨_, rfl⟩
  rw [hln] at HPUT HGP HSM hl ⊢
  obtain ⟨nm, hnm⟩ : ∃ n, p.length = n := ⟨_, rfl⟩
  rw [hnm] at hml hcm ⊢
  have HN := Lib.hid hsz
  have HM := Lib.hid hnm
  have HBM := Lib.hid hm
  have HX := Lib.hid hX
  have HMM := Lib.hid hM
  have hbox : Hid (Below w.heap.size w (w.alloc (.cells #[.int .i64 k, .int .i64 q, .slice A ln c] 24))) := Lib.hid ((Below.refl _ _).alloc (Nat.le_refl _) _)
  have hbc := box_cells w (.int .i64 k) (.int .i64 q) (.slice A ln c) 24
  obtain ⟨w0, Hw0⟩ : ∃ w0, Hid (w.alloc (.cells #[.int .i64 k, .int .i64 q, .slice A ln c] 24) = w0) := ⟨_, rfl⟩
  rw [Hw0.out] at hbox hbc
  have HC := Lib.hid hbc
  have d1 : decide (600 < (ln : Int)) = false := decide_eq_false (by omega)
  have d2 : decide ((t : Int) < 0) = false := decide_eq_false (by omega)
  have d3 : decide ((n : Int) / 8 ≤ (t : Int)) = false := decide_eq_false (by omega)
  have d4 : decide (8 < (nm : Int)) = false := decide_eq_false (by omega)
  have HR := Lib.hid hr
  have hr6 : r ≤ 664 := by omega
  clear hok hn hln hbc h hm hsz hnm hT hX htt hml8 hM HNO hr
  have HA := Lib.hid (alive5_any w0)
  go_enter Try.func5, Try.ntmps5
  go_wp2_with fail
  rw [Hw0.out]
  with_reducible refine HA.out.mono ?_
  rintro e w1 ⟨rfl, hb1⟩
  obtain ⟨c0, c1, c2⟩ := HC.out w1 hb1
  have B1 := Lib.hid (below_on hbox.out hb1)
  have HP1 := Lib.hid (HPUT.out w1 B1.out)
  have HR1 : Hid (Below w0.heap.size w0 w1) := Lib.hid hb1
  clear hb1
  go_wp2_with fail
  with_reducible refine HP1.out.mono ?_
  rintro e w2 ⟨v2, rfl, ho2, hb2⟩
  obtain ⟨g2, cp2, rfl, hbs2, hc2, -⟩ := ho2.formN HN.out (by omega)
  have HR2 : Hid (Below w0.heap.size w0 w2) := Lib.hid (below_on HR1.out hb2)
  obtain ⟨e0, e1, e2⟩ := HC.out w2 HR2.out
  have B2 := Lib.hid (below_on B1.out hb2)
  have HBS2 := Lib.hid hbs2
  have HBM2 : Hid (Bs w2 A2 p) := Lib.hid (HBM.out.below B2.out)
  clear c0 c1 c2 hb2 ho2 hbs2
  obtain ⟨A3, hbs3, sl3⟩ := slice_mid (some ⟨g2, 0, none⟩) w2 P HBS2.out cp2 (by rw [HN.out]; exact hc2) (8 * t) 8 (by rw [HN.out]; omega) (by rw [HN.out]; omega)
  rw [HMM.out] at hbs3
  have HB3 := Lib.hid hbs3
  obtain ⟨c3, hc3⟩ : ∃ x, cp2 - 8 * t = x := ⟨_, rfl⟩
  rw [hc3] at sl3
  have q1 : IntKind.i64.wrap (8 * (t : Int)) = 8 * (t : Int) := IntWalk.i64_in _ (by omega)
  have q2 : IntKind.i64.wrap (8 * (t : Int) + 8) = 8 * (t : Int) + 8 := IntWalk.i64_in _ (by omega)
  have sl4 := sl3 n (8 * (t : Int)) (8 * (t : Int) + 8) (by omega) (by omega)
  have HBLK : Hid (∀ W, Below w2.heap.size w2 W → Calls Try.prog 22 #[.int .i64 8] W (RetIn 5 w2 (List.replicate 8 255))) := Lib.hid fun W hW => blank_in hW (by rfl) (by omega)
  clear hbs3 sl3 hc3
  go_upto_region 5 with fail
  refine wp_region_noPanic ?_
  refine wp_region_held_drew (S := fun W => Below w2.heap.size w2 W) (by kernel_rfl) (by exact (Below.refl _ _).drew) (fun hS => ?_)
  refine' take_at 1 rfl (by kernel_rfl) (by kernel_rfl) (by kernel_rfl) (fun _ _ _ h => h) (by rfl) hS ?_ ?_ ?_
  rotate_left 2
  · intro W hSW; go_simp; try with_reducible rfl
  · simp only [List.set_cons_succ, List.set_cons_zero]; rfl
  refine' take_at 2 rfl (by kernel_rfl) (by kernel_rfl) (by kernel_rfl) (fun _ _ _ h => h) (by rfl) hS ?_ ?_ ?_
  rotate_left 2
  · intro W hSW; go_simp; try with_reducible rfl
  · simp only [List.set_cons_succ, List.set_cons_zero]; rfl
  refine' take_at 3 rfl (by kernel_rfl) (by kernel_rfl) (by kernel_rfl) (fun _ _ _ h => h) (by rfl) hS ?_ ?_ ?_
  rotate_left 2
  · intro W hSW; go_simp; try with_reducible rfl
  · simp only [List.set_cons_succ, List.set_cons_zero]; rfl
  refine' take_at 4 rfl (by kernel_rfl) (by kernel_rfl) (by kernel_rfl) (fun _ _ _ h => h) (by rfl) hS ?_ ?_ ?_
  rotate_left 2
  · intro W hSW; go_simp; try with_reducible rfl
  · simp only [List.set_cons_succ, List.set_cons_zero]; rfl
  refine' take_at 5 rfl (by kernel_rfl) (by kernel_rfl) (by kernel_rfl) (fun _ _ _ h => h) (by rfl) hS ?_ ?_ ?_
  rotate_left 2
  · intro W hSW; go_simp; try with_reducible rfl
  · simp only [List.set_cons_succ, List.set_cons_zero]; rfl
  refine' take_at 6 rfl (by kernel_rfl) (by kernel_rfl) (by kernel_rfl) (fun _ _ _ h => h) (by rfl) hS ?_ ?_ ?_
  rotate_left 2
  · intro W hSW; go_simp; try with_reducible rfl
  · simp only [List.set_cons_succ, List.set_cons_zero]; rfl
  refine' take_at 7 rfl (by kernel_rfl) (by kernel_rfl) (by kernel_rfl) (fun _ _ _ h => h) (by rfl) hS ?_ ?_ ?_
  rotate_left 2
  · intro W hSW; go_simp; try with_reducible rfl
  · simp only [List.set_cons_succ, List.set_cons_zero]; rfl
  refine' take_at 8 rfl (by kernel_rfl) (by kernel_rfl) (by kernel_rfl) (fun _ _ _ h => h) (by rfl) hS ?_ ?_ ?_
  rotate_left 2
  · intro W hSW; go_simp; try with_reducible rfl
  · simp only [List.set_cons_succ, List.set_cons_zero]; rfl
  refine call_at 0 rfl (by kernel_rfl) (by rfl) (fun K hK => ?_)
  go_simp
  with_reducible refine (HBLK.out _ hS).mono ?_
  rintro e v1 ⟨A4, c4, n4, rfl, hn4, hbs4, hb4⟩
  rw [List.length_replicate] at hn4
  subst hn4
  have kb1 : Below w2.heap.size w2 v1 := hb4
  have HB4 := Lib.hid hbs4
  clear hS hb4 hbs4
  refine hK.out _ _ (by exact kb1) (fun hS => ?_)
  clear hK K
  refine held_mono (S2 := fun W => Below v1.heap.size v1 W) (fun W hW => below_on kb1 hW) _ _ _ _ ?_
  replace hS : Below v1.heap.size v1 v1 := Below.refl _ _
  have HTORN : Hid (∀ W, Below v1.heap.size v1 W → Calls Try.prog 21 #[.slice A4 8 c4, .slice A3 8 c3, .slice A2 nm cm] W (RetIn 5 v1 T)) := Lib.hid fun W hW => torn_r hW HT.out (HB4.out.below hW) (HB3.out.below (below_on kb1 hW)) (HBM2.out.below (below_on kb1 hW)) (by simp) HML.out.symm HM.out.symm (by omega) (by omega) (by omega)
  refine call_at 9 rfl (by kernel_rfl) (by rfl) (fun K hK => ?_)
  go_simp
  with_reducible refine (HTORN.out _ hS).mono ?_
  rintro e v2 ⟨A5, c5, n5, rfl, hn5, hbs5, hb5⟩
  rw [HTL.out] at hn5
  subst hn5
  have kb2 : Below v1.heap.size v1 v2 := hb5
  have HB5 := Lib.hid hbs5
  clear hS hb5 hbs5
  refine hK.out _ _ (by exact kb2) (fun hS => ?_)
  clear hK K
  refine' take_at 10 rfl (by kernel_rfl) (by kernel_rfl) (by kernel_rfl) (fun _ _ _ h => h) (by rfl) hS ?_ ?_ ?_
  rotate_left 2
  · intro W hSW; go_simp; try with_reducible rfl
  · simp only [List.set_cons_succ, List.set_cons_zero]; rfl
  refine wpAnyH_done (by kernel_rfl) ?_ _
  refine NoPanic.normal ?_
  -- BEHIND 5
  have B5 : Hid (Below w.heap.size w v2) := Lib.hid (below_on B2.out (below_on kb1 kb2))
  have HR5 : Hid (Below w0.heap.size w0 v2) := Lib.hid (below_on HR2.out (below_on kb1 kb2))
  have HBS5 : Hid (Bs v2 (some ⟨g2, 0, none⟩) P) := Lib.hid (HBS2.out.below (below_on kb1 kb2))
  clear kb1 kb2 e0 e1 e2 sl4 q1 q2
  have sl6 := fun u => slice_head (some ⟨g2, 0, none⟩) n cp2 (8 * t) (by omega) u
  rw [show (((8 * t : Nat)) : Int) = 8 * (t : Int) by omega] at sl6
  obtain ⟨f, hf⟩ : ∃ f, 8 * t = f := ⟨_, rfl⟩
  have hff : 8 * (t : Int) = (f : Int) := by omega
  rw [hff] at sl6
  rw [hf] at sl6 HX
  have HFL : Hid ((P.take f).length = f) := Lib.hid (by rw [List.length_take, HN.out]; omega)
  have HBF : Hid (Bs v2 (some ⟨g2, 0, none⟩) (P.take f)) := Lib.hid (HBS5.out.take f)
  go_upto_region 6 with fail
  go_wp2_with (at_builtin; refine wpList_append_bs rfl (.const (.slice none 0 0)) (.tmp 55) 22 rfl v2.heap.size 5 Try.underlying22 info5 _ [] rfl (Ob.nil_ _ _ _) (some ⟨g2, 0, none⟩) (P.take f) f cp2 rfl HFL.out.symm HBF.out (by have := HFL.out; simp; omega) (Nat.le_refl _) ?_)
  intro v3 w3 ho3 hgr3
  have hb3 : Below v2.heap.size v2 w3 := (Below.refl _ _).grown hgr3 (Nat.le_refl _) (fun k hk => by simp [Value.ownBlock] at hk)
  obtain ⟨A6, c6, rfl, -, -⟩ := ho3.formA (n := f) (by simpa using HFL.out)
  have HO3 : Hid (Ob 5 w3 v2.heap.size (.slice A6 f c6) (P.take f)) := Lib.hid (by simpa using ho3)
  have B3 := Lib.hid hb3
  have HBT3 : Hid (Bs w3 A5 T) := Lib.hid (HB5.out.below hb3)
  clear ho3 hgr3 hb3
  go_wp2_with (at_builtin; refine wpList_append_bs rfl (.tmp 56) (.tmp 57) 22 rfl v2.heap.size 5 Try.underlying22 info5 _ (P.take f) rfl HO3.out A5 T 8 c5 rfl HTL.out.symm HBT3.out (by have := HFL.out; have := HTL.out; omega) B3.out.size ?_)
  intro v4 w4 ho4 hgr4
  have B4 : Hid (Below v2.heap.size v2 w4) := Lib.hid (B3.out.trans (below_grow HO3.out B3.out.size hgr4))
  obtain ⟨n4, hn4⟩ : ∃ x, f + 8 = x := ⟨_, rfl⟩
  have hl4 : (P.take f ++ T).length = n4 := by rw [List.length_append, HFL.out, HTL.out, hn4]
  obtain ⟨A8, c8, rfl, -, -⟩ := ho4.formA hl4
  have HL4 := Lib.hid hl4
  have HBL : Hid (Calls Try.prog 22 #[.int .i64 ((n : Int) - (f : Int) - 8 + 64)] w4 fun e w' => ∃ A c, e = .returned (.slice A r c) ∧ Bs w' A (List.replicate r 255) ∧ Below w4.heap.size w4 w') := Lib.hid
    ((blank_in (k := r) (Below.refl _ _) (by have := HR.out; omega) (by omega)).mono fun e w' ⟨A, c, n, he, hn, hb, hw⟩ => ⟨A, c, by rw [he, hn, List.length_replicate], hb, hw⟩)
  have HO4 := Lib.hid ho4
  clear ho4 hgr4 hl4
  go_wp2_with fail
  with_reducible refine HBL.out.mono ?_
  rintro e w5 ⟨A7, c7, rfl, hbs7, hb7⟩
  have B6 : Hid (Below v2.heap.size v2 w5) := Lib.hid (B4.out.trans (hb7.mono B4.out.size))
  have HO5 : Hid (Ob 5 w5 v2.heap.size (.slice A8 n4 c8) (P.take f ++ T)) := Lib.hid (HO4.out.below hb7)
  have HBS7 := Lib.hid hbs7
  clear hbs7 hb7
  go_wp2_with (at_builtin; refine wpList_append_bs rfl (.tmp 58) (.tmp 66) 22 rfl v2.heap.size 5 Try.underlying22 info5 _ (P.take f ++ T) rfl HO5.out A7 (List.replicate r 255) r c7 rfl (by simp) HBS7.out (by have h1 := HL4.out; have h2 : (List.replicate r (255 : UInt8)).length = r := List.length_replicate; omega) B6.out.size ?_)
  intro v6 w6 ho6 hgr6
  have B7 : Hid (Below v2.heap.size v2 w6) := Lib.hid (B6.out.trans (below_grow HO5.out B6.out.size hgr6))
  rw [← List.append_assoc, HX.out] at ho6
  obtain ⟨nx, hnx⟩ : ∃ x, n + 64 = x := ⟨_, rfl⟩
  rw [hnx] at HXL
  obtain ⟨g6, cx, rfl, hbs6, hc6, -⟩ := ho6.formN HXL.out (by omega)
  have HBS6 := Lib.hid hbs6
  have B8 : Hid (Below w.heap.size w w6) := Lib.hid (below_on B5.out B7.out)
  have HR8 : Hid (Below w0.heap.size w0 w6) := Lib.hid (below_on HR5.out B7.out)
  have HBP6 : Hid (Bs w6 (some ⟨g2, 0, none⟩) P) := Lib.hid (HBS5.out.below B7.out)
  have HGET := Lib.hid (get_any _ X nx cx w6 hbs6 HXL.out hc6 (by omega))
  have sl8 := fun u => slice_head (some ⟨g6, 0, none⟩) nx cx n (by omega) u
  obtain ⟨sP, HsP⟩ : ∃ s, Hid (strB P = s) := ⟨_, rfl⟩
  clear ho6 hgr6 hbs6 sl6 hf hff
  by_cases hx : X.take n = P
  · have hXe : X = P ++ X.drop n := by
      have := List.take_append_drop n X
      rw [hx] at this
      exact this.symm
    have HG6 : Hid (Calls Try.prog 10 #[.slice (some ⟨g6, 0, none⟩) nx cx] w6 fun e w' => Below w6.heap.size w6 w' ∧ ∃ A c, e = .returned (.tuple #[.agg #[.int .i64 k, .int .i64 q, .slice A ln c], .int .i64 (n : Int), .bool true]) ∧ Bs w' A l) := Lib.hid
      (HGET.out.mono fun e w' hp => HGP.out w6 w' e (X.drop n) (by rw [← hXe]; exact hp))
    have HXT := Lib.hid hx
    clear hXe hx HGET
    go_wp2_with fail
    with_reducible refine HG6.out.mono ?_
    rintro e w7 ⟨hb7, A9, c9, rfl, hbs9⟩
    have hb8 : Below w6.heap.size w6 (w7.alloc (.cells #[.int .i64 k, .int .i64 q, .slice A9 ln c9] 24)) := hb7.alloc hb7.size _
    have hc8 := box_cells w7 (.int .i64 k) (.int .i64 q) (.slice A9 ln c9) 24
    have hbs8 : Bs (w7.alloc (.cells #[.int .i64 k, .int .i64 q, .slice A9 ln c9] 24)) A9 l := hbs9.below ((Below.refl _ _).alloc (Nat.le_refl _) _)
    obtain ⟨w8, Hw8⟩ : ∃ w8, Hid (w7.alloc (.cells #[.int .i64 k, .int .i64 q, .slice A9 ln c9] 24) = w8) := ⟨_, rfl⟩
    rw [Hw8.out] at hb8 hc8 hbs8
    have B9 : Hid (Below w.heap.size w w8) := Lib.hid (below_on B8.out hb8)
    have HSM8 : Hid (∀ W, Below w8.heap.size w8 W → Calls Try.prog 14 #[.agg #[.int .i64 k, .int .i64 q, .slice A ln c], .agg #[.int .i64 k, .int .i64 q, .slice A9 ln c9]] W (BoolIn W true)) := Lib.hid fun W hW => HSM.out W A9 c9 (below_on B9.out hW) (hbs8.below hW)
    have cvx : ∀ W, Below w8.heap.size w8 W → (convert 22 9 (.slice (some ⟨g6, 0, none⟩) n cx)).run Try.prog W = .ok (.string sP) W := fun W hW => by
      rw [← HsP.out, ← HXT.out]
      have e : n = (X.take n).length := by rw [HXT.out, HN.out]
      refine run_conv_bs' (X.take n) ?_ e
      exact ((HBS6.out.take n).below hb8).below hW
    have cvP : ∀ W, Below w8.heap.size w8 W → (convert 22 9 (.slice (some ⟨g2, 0, none⟩) n cp2)).run Try.prog W = .ok (.string sP) W := fun W hW => by
      rw [← HsP.out]
      exact run_conv_bs' P ((HBP6.out.below hb8).below hW) HN.out.symm
    obtain ⟨e0, e1, e2⟩ := HC.out w8 (below_on HR8.out hb8)
    obtain ⟨f0, f1, f2⟩ := hc8 w8 (Below.refl _ _)
    clear hb7 hb8 hc8 hbs8 hbs9
    go_upto_region 8 with fail
    rw [Hw8.out]
    refine wp_region_noPanic ?_
    refine wp_region_held_drew (S := fun W => Below w8.heap.size w8 W) (by kernel_rfl) (by exact (Below.refl _ _).drew) (fun hS => ?_)
    refine' take_at 0 rfl (by kernel_rfl) (by kernel_rfl) (by kernel_rfl) (fun _ _ _ h => h) (by rfl) hS ?_ ?_ ?_
    rotate_left 2
    · intro W hSW; go_simp; try with_reducible rfl
    · simp only [List.set_cons_succ, List.set_cons_zero]; rfl
    refine' take_at 1 rfl (by kernel_rfl) (by kernel_rfl) (by kernel_rfl) (fun _ _ _ h => h) (by rfl) hS ?_ ?_ ?_
    rotate_left 2
    · intro W hSW; go_simp; try with_reducible rfl
    · simp only [List.set_cons_succ, List.set_cons_zero]; rfl
    refine' take_at 2 rfl (by kernel_rfl) (by kernel_rfl) (by kernel_rfl) (fun _ _ _ h => h) (by rfl) hS ?_ ?_ ?_
    rotate_left 2
    · intro W hSW; go_simp; try with_reducible rfl
    · simp only [List.set_cons_succ, List.set_cons_zero]; rfl
    refine' take_at 3 rfl (by kernel_rfl) (by kernel_rfl) (by kernel_rfl) (fun _ _ _ h => h) (by rfl) hS ?_ ?_ ?_
    rotate_left 2
    · intro W hSW; go_simp; try with_reducible rfl
    · simp only [List.set_cons_succ, List.set_cons_zero]; rfl
    refine' take_at 4 rfl (by kernel_rfl) (by kernel_rfl) (by kernel_rfl) (fun _ _ _ h => h) (by rfl) hS ?_ ?_ ?_
    rotate_left 2
    · intro W hSW; go_simp; try with_reducible rfl
    · simp only [List.set_cons_succ, List.set_cons_zero]; rfl
    refine' take_at 5 rfl (by kernel_rfl) (by kernel_rfl) (by kernel_rfl) (fun _ _ _ h => h) (by rfl) hS ?_ ?_ ?_
    rotate_left 2
    · intro W hSW; go_simp; try with_reducible rfl
    · simp only [List.set_cons_succ, List.set_cons_zero]; rfl
    refine' take_at 6 rfl (by kernel_rfl) (by kernel_rfl) (by kernel_rfl) (fun _ _ _ h => h) (by rfl) hS ?_ ?_ ?_
    rotate_left 2
    · intro W hSW; go_simp; try with_reducible rfl
    · simp only [List.set_cons_succ, List.set_cons_zero]; rfl
    refine' take_at 7 rfl (by kernel_rfl) (by kernel_rfl) (by kernel_rfl) (fun _ _ _ h => h) (by rfl) hS ?_ ?_ ?_
    rotate_left 2
    · intro W hSW; go_simp; try with_reducible rfl
    · simp only [List.set_cons_succ, List.set_cons_zero]; rfl
    refine wpAnyH_done (by kernel_rfl) ?_ _
    refine NoPanic.normal ?_
    go_wp2_with fail
    with_reducible refine (HSM8.out _ (by first | exact hS | exact Below.refl _ _)).mono ?_
    rintro e w9 ⟨rfl, hb9⟩
    go_wp2_with fail
    go_ret
    exact ⟨rfl, below_on B9.out (below_on hS hb9)⟩
  · have HG6 : Hid (Calls Try.prog 10 #[.slice (some ⟨g6, 0, none⟩) nx cx] w6 fun e w' => Below w6.heap.size w6 w' ∧ e = .returned (.tuple #[.agg #[.int .i64 0, .int .i64 0, .slice none 0 0], .int .i64 0, .bool false])) := Lib.hid
      (HGET.out.mono fun e w' hp => getPost_no (HNO'.out hx) hp)
    obtain ⟨sX, HsX⟩ : ∃ s, Hid (strB (X.take n) = s) := ⟨_, rfl⟩
    have hne : (sX.toList == sP.toList) = false := by
      rw [← Bool.not_eq_true, Go.Lib.bytes_beq_iff, ← HsX.out, ← HsP.out]
      exact fun h => hx (strB_inj.1 h)
    have HXN : Hid ((X.take n).length = n) := Lib.hid (by rw [List.length_take, HXL.out]; omega)
    clear hx HGET
    go_wp2_with fail
    with_reducible refine HG6.out.mono ?_
    rintro e w7 ⟨hb7, rfl⟩
    have hb8 : Below w6.heap.size w6 (w7.alloc (.cells #[.int .i64 0, .int .i64 0, .slice none 0 0] 24)) := hb7.alloc hb7.size _
    obtain ⟨w8, Hw8⟩ : ∃ w8, Hid (w7.alloc (.cells #[.int .i64 0, .int .i64 0, .slice none 0 0] 24) = w8) := ⟨_, rfl⟩
    rw [Hw8.out] at hb8
    have B9 : Hid (Below w.heap.size w w8) := Lib.hid (below_on B8.out hb8)
    have cvx : ∀ W, Below w8.heap.size w8 W → (convert 22 9 (.slice (some ⟨g6, 0, none⟩) n cx)).run Try.prog W = .ok (.string sX) W := fun W hW => by
      rw [← HsX.out]
      exact run_conv_bs' (X.take n) (((HBS6.out.take n).below hb8).below hW) HXN.out.symm
    have cvP : ∀ W, Below w8.heap.size w8 W → (convert 22 9 (.slice (some ⟨g2, 0, none⟩) n cp2)).run Try.prog W = .ok (.string sP) W := fun W hW => by
      rw [← HsP.out]
      exact run_conv_bs' P ((HBP6.out.below hb8).below hW) HN.out.symm
    clear hb7 hb8
    go_upto_region 8 with fail
    rw [Hw8.out]
    refine wp_region_noPanic ?_
    refine wp_region_held_drew (S := fun W => Below w8.heap.size w8 W) (by kernel_rfl) (by exact (Below.refl _ _).drew) (fun hS => ?_)
    refine' take_at 0 rfl (by kernel_rfl) (by kernel_rfl) (by kernel_rfl) (fun _ _ _ h => h) (by rfl) hS ?_ ?_ ?_
    rotate_left 2
    · intro W hSW; go_simp; try with_reducible rfl
    · simp only [List.set_cons_succ, List.set_cons_zero]; rfl
    refine' take_at 1 rfl (by kernel_rfl) (by kernel_rfl) (by kernel_rfl) (fun _ _ _ h => h) (by rfl) hS ?_ ?_ ?_
    rotate_left 2
    · intro W hSW; go_simp; try with_reducible rfl
    · simp only [List.set_cons_succ, List.set_cons_zero]; rfl
    refine' take_at 2 rfl (by kernel_rfl) (by kernel_rfl) (by kernel_rfl) (fun _ _ _ h => h) (by rfl) hS ?_ ?_ ?_
    rotate_left 2
    · intro W hSW; go_simp; try with_reducible rfl
    · simp only [List.set_cons_succ, List.set_cons_zero]; rfl
    refine' take_at 3 rfl (by kernel_rfl) (by kernel_rfl) (by kernel_rfl) (fun _ _ _ h => h) (by rfl) hS ?_ ?_ ?_
    rotate_left 2
    · intro W hSW; go_simp; try with_reducible rfl
    · simp only [List.set_cons_succ, List.set_cons_zero]; rfl
    refine' take_at 4 rfl (by kernel_rfl) (by kernel_rfl) (by kernel_rfl) (fun _ _ _ h => h) (by rfl) hS ?_ ?_ ?_
    rotate_left 2
    · intro W hSW; go_simp; try with_reducible rfl
    · simp only [List.set_cons_succ, List.set_cons_zero]; rfl
    refine' take_at 5 rfl (by kernel_rfl) (by kernel_rfl) (by kernel_rfl) (fun _ _ _ h => h) (by rfl) hS ?_ ?_ ?_
    rotate_left 2
    · intro W hSW; go_simp; try with_reducible rfl
    · simp only [List.set_cons_succ, List.set_cons_zero]; rfl
    refine' take_at 6 rfl (by kernel_rfl) (by kernel_rfl) (by kernel_rfl) (fun _ _ _ h => h) (by rfl) hS ?_ ?_ ?_
    rotate_left 2
    · intro W hSW; go_simp; try with_reducible rfl
    · simp only [List.set_cons_succ, List.set_cons_zero]; rfl
    refine' take_at 7 rfl (by kernel_rfl) (by kernel_rfl) (by kernel_rfl) (fun _ _ _ h => h) (by rfl) hS ?_ ?_ ?_
    rotate_left 2
    · intro W hSW; go_simp; try with_reducible rfl
    · simp only [List.set_cons_succ, List.set_cons_zero]; rfl
    refine wpAnyH_done (by kernel_rfl) ?_ _
    refine NoPanic.normal ?_
    go_wp2_with fail
    go_ret
    exact ⟨rfl, below_on B9.out hS⟩

set_option maxHeartbeats 1600000 in
theorem law5Torn (k q word : Int) (A A2 : Option Addr) (l p : List UInt8) (c cm : Nat) (w : World) (h : Bs w A l) (hm : Bs w A2 p) (hcm : p.length ≤ cm) (hk1 : -9223372036854775808 ≤ k) (hk2 : k ≤ 9223372036854775807) (hq1 : -9223372036854775808 ≤ q) (hq2 : q ≤ 9223372036854775807)
    (ht1 : -9223372036854775808 ≤ word) (ht2 : word ≤ 9223372036854775807) (hl : l.length ≤ 9223372036854775807) (hml : p.length ≤ 9223372036854775807) :
    Calls Try.prog 5 #[.agg #[.int .i64 k, .int .i64 q, .slice A l.length c], .int .i64 word, .slice A2 p.length cm] w fun e w' => e = .returned (.bool true) ∧ Below w.heap.size w w' := by
  by_cases hall : l.length ≤ 600 ∧ p.length ≤ 8 ∧ 0 ≤ word ∧ 8 * word + 8 ≤ ((putR k q l).length : Int)
  · obtain ⟨a1, a2, a3, a4⟩ := hall
    obtain ⟨t, rfl⟩ := Int.eq_ofNat_of_zero_le a3
    exact torn5_yes k q A A2 l p c cm t w h hm hcm hk1 hk2 hq1 hq2 a1 (by omega) a2
  have hlen := putR_le k q l
  have HPUT : Hid (∀ W, Below w.heap.size w W → Calls Try.prog 12 #[.agg #[.int .i64 k, .int .i64 q, .slice A l.length c]] W (RetOb 5 W (putR k q l))) := Lib.hid fun W hW =>
    put_any k q A l c W (h.below hW) hk1 hk2 hq1 hq2 hl
  obtain ⟨P, Hp⟩ : ∃ P, Hid (putR k q l = P) := ⟨_, rfl⟩
  rw [Hp.out] at HPUT hlen hall
  obtain ⟨n, hn⟩ : ∃ n, P.length = n := ⟨_, rfl⟩
  rw [hn] at hlen hall
  obtain ⟨ln, hln⟩ : ∃ n, l.length = n := ⟨_, rfl⟩
  rw [hln] at HPUT hall hl ⊢
  obtain ⟨nm, hnm⟩ : ∃ n, p.length = n := ⟨_, rfl⟩
  rw [hnm] at hall hml ⊢
  have HN := Lib.hid hn
  have hbox : Hid (Below w.heap.size w (w.alloc (.cells #[.int .i64 k, .int .i64 q, .slice A ln c] 24))) := Lib.hid ((Below.refl _ _).alloc (Nat.le_refl _) _)
  have hbc := box_cells w (.int .i64 k) (.int .i64 q) (.slice A ln c) 24
  obtain ⟨w0, Hw0⟩ : ∃ w0, Hid (w.alloc (.cells #[.int .i64 k, .int .i64 q, .slice A ln c] 24) = w0) := ⟨_, rfl⟩
  rw [Hw0.out] at hbox hbc
  have HC := Lib.hid hbc
  clear hn hln hbc h hm hnm hcm
  have HA := Lib.hid (alive5_any w0)
  have HALL := Lib.hid hall
  clear hall
  go_enter Try.func5, Try.ntmps5
  go_wp2_with fail
  rw [Hw0.out]
  with_reducible refine HA.out.mono ?_
  rintro e w1 ⟨rfl, hb1⟩
  obtain ⟨c0, c1, c2⟩ := HC.out w1 hb1
  have B1 := Lib.hid (below_on hbox.out hb1)
  have HP1 := Lib.hid (HPUT.out w1 B1.out)
  clear hb1
  go_wp2_with fail
  with_reducible refine HP1.out.mono ?_
  rintro e w2 ⟨v2, rfl, ho2, hb2⟩
  obtain ⟨A3, cp2, rfl, -, -⟩ := ho2.form
  have D2 : w2.cell? ⟨w.heap.size, 2, none⟩ = some (.slice A ln c) := by rw [hb2.cell (World.block_lt_of_cell? _ _ c2)]; exact c2
  have B2 := Lib.hid (below_on B1.out hb2)
  rw [HN.out]
  clear c0 c1 c2 hb2 ho2
  by_cases g1 : 600 < ln
  · have d1 : decide (600 < (ln : Int)) = true := decide_eq_true (by omega)
    go_wp2_with fail
    go_ret
    exact ⟨rfl, B2.out⟩
  have d1 : decide (600 < (ln : Int)) = false := decide_eq_false (by omega)
  by_cases g2 : word < 0
  · have d2 : decide (word < 0) = true := decide_eq_true (by omega)
    go_wp2_with fail
    go_ret
    exact ⟨rfl, B2.out⟩
  have d2 : decide (word < 0) = false := decide_eq_false (by omega)
  by_cases g3 : (n : Int) / 8 ≤ word
  · have d3 : decide ((n : Int) / 8 ≤ word) = true := decide_eq_true (by omega)
    go_wp2_with fail
    go_ret
    exact ⟨rfl, B2.out⟩
  have d3 : decide ((n : Int) / 8 ≤ word) = false := decide_eq_false (by omega)
  have g4 : 8 < nm := by have := HALL.out; omega
  have d4 : decide (8 < (nm : Int)) = true := decide_eq_true (by omega)
  go_wp2_with fail
  go_ret
  exact ⟨rfl, B2.out⟩
end Go.Proofs.Ytddalnmoahpljaa

