/- The contracts of the reference's Of, Mid, MayMid. The contracts of the reference's MayMid, Count, After, From. The contracts of the reference's After and From. -/
import Derived.Test.YtbkcglfdliicpaaGsha
import Derived.Test.YtbkcglfdliicpaaZeros
namespace Go.Proofs.Ytbkcglfdliicpaa
open Go.RowKit
set_option linter.unusedVariables false
set_option maxRecDepth 100000

theorem rbeg_any (W : World) : Calls Try.prog 30 #[] W fun e w' => e = .returned (.agg (tabW begS.l)) ∧ Below W.heap.size W w' := by
  rw [← tabW_beg]; exact rbegin_any W
/-- a slice of the call's own, its length by a name -/
theorem Ob.formL {E : TypeId} {w : World} {base n : Nat} {v : Value} {l : List UInt8} (h : Ob E w base v l) (hn : l.length = n) :
    ∃ A c, v = .slice A n c ∧ Bs w A l ∧ n ≤ c := by
  subst hn
  obtain ⟨A, c, rfl, hb, hf⟩ := h.form
  refine ⟨A, c, rfl, hb, ?_⟩
  rcases h.2 with ⟨e, h0⟩ | ⟨g', cap, cur, e, _, _, hnc, _⟩
  · injection e with e1 e2 e3; subst e3; omega
  · injection e with e1 e2 e3; subst e3; omega

theorem pad_small (l : List UInt8) (h : l.length < 2305843009213693952) : l ++ padB l.length = l ++ [128] ++ List.replicate ((239 - l.length % 128) % 128) 0 ++ List.replicate 8 0 ++ hiB (8 * l.length) := by
  unfold padB
  rw [Nat.div_eq_of_lt (show l.length < 2 ^ 61 by omega), hiB_zero, Nat.mod_eq_of_lt (show l.length * 8 < 2 ^ 64 by omega), Nat.mul_comm]
  simp only [List.append_assoc, List.cons_append, List.nil_append]

set_option maxHeartbeats 3200000 in
theorem rof_any (A : Option Addr) (l : List UInt8) (c : Nat) (w : World) (hbs : Bs w A l) (hl : l.length ≤ 100000) :
    Calls Try.prog 11 #[.slice A l.length c] w fun e w' => e = .returned (.agg (arrB (digest l))) ∧ Below w.heap.size w w' := by
  obtain ⟨n, hn⟩ : ∃ n, l.length = n := ⟨_, rfl⟩
  obtain ⟨Z, hZ⟩ : ∃ Z, (239 - n % 128) % 128 = Z := ⟨_, rfl⟩
  obtain ⟨X, hX⟩ : ∃ X, l ++ [128] ++ List.replicate Z 0 ++ List.replicate 8 0 ++ hiB (8 * n) = X := ⟨_, rfl⟩
  have hXp : l ++ padB l.length = X := by rw [pad_small l (by omega), hn, hZ, hX]
  obtain ⟨D, hD⟩ : ∃ D, arrB (digest l) = D := ⟨_, rfl⟩
  have hD2 : arrB (bytesS (over begS X)) = D := by rw [← hD]; unfold digest; rw [hXp]
  have hDn : D.size = 64 := by rw [← hD2, arrB_size, bytesS_len]
  have oD : D.all (·.oneCell') = true := by rw [← hD]; exact arrB_one _
  have iD : (Try.prog.info? 24).map (·.size) = some D.size := by rw [hDn]; kernel_rfl
  have hz := fun u => zero_arr 24 (arrB (List.replicate 64 0)) 64 (by kernel_rfl) u
  obtain ⟨t0, ht0⟩ : ∃ t0, arrB (List.replicate 64 0) = t0 := ⟨_, rfl⟩
  have ht0s : t0.size = 64 := by rw [← ht0, arrB_size]; simp
  have sD : t0.size = D.size := by rw [ht0s, hDn]
  rw [ht0] at hz
  have HBEG : Hid (∀ W : World, Calls Try.prog 30 #[] W fun e w' => e = .returned (.agg (tabW begS.l)) ∧ Below W.heap.size W w') := Lib.hid rbeg_any
  have HOV : Hid (∀ (A : Option Addr) (c N : Nat) (W : World), X.length = N → Bs W A X → N ≤ c → Calls Try.prog 29 #[.agg (tabW begS.l), .slice A N c] W fun e w' => e = .returned (.agg (tabW (over begS X).l)) ∧ Below W.heap.size W w') :=
    Lib.hid fun A c N W h1 h2 h3 => by subst h1; exact rover_any begS A X c W h2 h3
  have HFL : Hid (∀ W : World, Calls Try.prog 28 #[.agg (tabW (over begS X).l)] W fun e w' => e = .returned (.agg D) ∧ Below W.heap.size W w') := Lib.hid fun W => by rw [← hD2]; exact rflat_any _ W
  have HHI : Hid (∀ W : World, Calls Try.prog 27 #[.int .u64 (8 * (n : Int))] W (RetOb 5 W (hiB (8 * n)))) := Lib.hid fun W => by
    have h := rhigh_any (8 * n) W (by omega)
    rwa [show ((8 * n : Nat) : Int) = 8 * (n : Int) by omega] at h
  generalize tabW begS.l = GB at *
  generalize tabW (over begS X).l = GO at *
  rw [hD, hn]
  have HL := Lib.hid hn
  have HX := Lib.hid hX
  have HDE := Lib.hid hD
  have hZl : Z < 128 := by omega
  have HZ : Hid (∀ k, k ≤ Z → ((n + 1 + k) % 128 = 112 ↔ k = Z)) := Lib.hid (fun k hk => by omega)
  have hnl : n ≤ 100000 := by omega
  have w1 : IntKind.u64.wrap (n : Int) = (n : Int) := by rw [IntKind.wrap_u64]; omega
  have w2 : IntKind.u64.wrap (8 * (n : Int)) = 8 * (n : Int) := by rw [IntKind.wrap_u64]; omega
  obtain ⟨W1, hW1⟩ : ∃ W, w.alloc (.cells t0 24) = W := ⟨_, rfl⟩
  have HB0 : Hid (Below w.heap.size w W1) := Lib.hid (by rw [← hW1]; exact below_alloc (Below.refl _ w) _)
  have HR : Hid (W1.heap[w.heap.size]? = some (.cells t0 24 (0, 0))) := Lib.hid (by rw [← hW1]; exact heap_alloc_new _ _)
  have HZW : Hid (w.heap.size < W1.heap.size) := Lib.hid (by rw [← hW1, World.size_alloc]; omega)
  have hbs1 : Bs W1 A l := hbs.below HB0.out
  have O0 : Hid (Ob 5 W1 W1.heap.size (.slice none 0 0) []) := Lib.hid (Ob.nil_ _ _ _)
  clear hZ hX hXp hD hD2 hDn ht0 ht0s hn hbs hl
  go_enter Try.func11, Try.ntmps11
  go_wp2_with (first
    | (at_builtin; refine wpList_append_bs rfl (.const (.slice none 0 0)) (.tmp 4) 22 rfl W1.heap.size 5 Try.underlying22 info5 _ [] rfl O0.out A l n c rfl HL.out.symm hbs1 (by rw [HL.out]; simp; omega) (Nat.le_refl _) ?_; intro v5 w5 ho5 hgr5; rw [List.nil_append] at ho5; obtain ⟨A5, c5, rfl, -, -⟩ := ho5.formL HL.out; have HB5 := Lib.hid ((Below.refl W1.heap.size W1).grown hgr5 (Nat.le_refl _) (fun k hk => by cases hk)); have O5 := Lib.hid ho5; clear ho5 hgr5)
    | (at_builtin; refine wpList_append_bs rfl (.tmp 5) (.tmp 6) 22 rfl W1.heap.size 5 Try.underlying22 info5 _ l rfl (O5.out.below ((Below.refl _ _).alloc (Nat.le_refl _) _)) _ [128] 1 1 rfl rfl (bs_lit1 _ 5 128) (by rw [HL.out]; simp; omega) (by have := HB5.out.size; simp; omega) ?_; intro v7 w7 ho7 hgr7; have HB7 := Lib.hid ((HB5.out.alloc HB5.out.size _).grown hgr7 (by have := HB5.out.size; simp; omega) (fun k hk => O5.out.fresh k (own_at hk))); have O7 := Lib.hid ho7; clear ho7 hgr7))
  clear hW1 hbs1
  go_loopw [3] (fun v wr => ∃ k : Nat, k ≤ Z ∧ Hid (Ob 5 wr W1.heap.size v (l ++ [128] ++ List.replicate k 0)) ∧ Hid (Below W1.heap.size W1 wr)) (fun v _ => n + 1 + Z - sLen v)
  case atStart => exact ⟨0, by omega, by simpa using O7, HB7⟩
  case round =>
    clear O7 HB7 O5 HB5
    obtain ⟨k, hk, O, HB⟩ := hrel
    have hln : (l ++ [128] ++ List.replicate k 0).length = n + 1 + k := by simp [HL.out] <;> omega
    obtain ⟨A3, c3, rfl, hbs3, hcap⟩ := O.out.formL hln
    by_cases hlt : k < Z
    · have hap : Hid (l ++ [128] ++ List.replicate k 0 ++ [0] = l ++ [128] ++ List.replicate (k + 1) (0 : UInt8)) := Lib.hid (by rw [List.replicate_succ']; simp)
      have hne0 : ¬ (n + 1 + k) % 128 = 112 := by have := HZ.out k hk; omega
      obtain ⟨M1, hM1⟩ : ∃ N, n + 1 + k = N := ⟨_, rfl⟩
      have Hn := Lib.hid hln
      rw [hM1] at Hn hne0 O ⊢
      have hM1l : M1 ≤ 100129 := by omega
      have hne : ((M1 : Int) % 128 != 112) = true := by simp; omega
      have HM1 := Lib.hid hM1
      clear hln hbs3 hcap HOV HFL HHI HBEG hM1 hne0
      go_wp2_with (at_builtin; refine wpList_append_bs rfl (.tmp 12) (.tmp 13) 22 rfl W1.heap.size 5 Try.underlying22 info5 _ (l ++ [128] ++ List.replicate k 0) rfl (O.out.below ((Below.refl _ _).alloc (Nat.le_refl _) _)) _ [0] 1 1 rfl rfl (bs_lit1 _ 5 0) (by rw [Hn.out]; simp; omega) (by have := HB.out.size; simp; omega) ?_; intro v7 w7 ho7 hgr7; have HO7 := Lib.hid (show Ob 5 w7 W1.heap.size v7 (l ++ [128] ++ List.replicate (k + 1) 0) by rw [← hap.out]; exact ho7); have hb7 := Lib.hid ((HB.out.alloc HB.out.size _).grown hgr7 (by have := HB.out.size; simp; omega) (fun k hk => O.out.fresh k (own_at hk))); clear ho7 hgr7; obtain ⟨g7, c7, rfl, -, -⟩ := HO7.out.formL (n := M1 + 1) (by have := HM1.out; simp [HL.out]; omega))
      go_roundw
      case rel => exact ⟨k + 1, by omega, HO7, hb7⟩
      case measure => have := HM1.out; simp [sLen]; omega
    · obtain rfl : k = Z := by omega
      have hne0 : (n + 1 + k) % 128 = 112 := (HZ.out k hk).2 rfl
      have Hn := Lib.hid hln
      obtain ⟨N1, hN1⟩ : ∃ N, n + 1 + k = N := ⟨_, rfl⟩
      rw [hN1] at Hn hne0 O ⊢
      have hN1l : N1 ≤ 100129 := by omega
      have hne : ((N1 : Int) % 128 != 112) = false := by simp; omega
      clear hne0
      clear hln hbs3 hcap hN1
      go_wp2_with (at_builtin; refine wpList_append_zeros rfl (.tmp 15) (.const (.int .i64 8)) rfl W1.heap.size _ (l ++ [128] ++ List.replicate k 0) rfl O.out 8 rfl (by rw [Hn.out]; omega) HB.out.size ?_; intro v8 w8 ho8 hgr8; have HB8 := Lib.hid (HB.out.grown hgr8 HB.out.size (fun k hk => O.out.fresh k (own_at hk))); obtain ⟨A8, c8, rfl, -, -⟩ := ho8.formL (n := N1 + 8) (by rw [List.length_append, Hn.out, List.length_replicate]); have O8 := Lib.hid ho8; clear ho8 hgr8)
      with_reducible refine (HHI.out _).mono ?_
      rintro e w9 ⟨v9, rfl, ho9, hb9⟩
      obtain ⟨A9, c9, rfl, -, -⟩ := ho9.formL (hiB_len _)
      have O8' := Lib.hid (O8.out.below hb9)
      have HB9 := Lib.hid (below_on HB8.out hb9)
      have O9 := Lib.hid ho9
      clear O8 HB8 ho9 hb9 O HB
      go_wp2_with (at_builtin; refine wpList_append_bs rfl (.tmp 16) (.tmp 21) 22 rfl W1.heap.size 5 Try.underlying22 info5 _ _ rfl O8'.out _ (hiB (8 * n)) _ _ rfl (hiB_len _).symm O9.out.bs (by rw [List.length_append, Hn.out, List.length_replicate, hiB_len]; omega) HB9.out.size ?_; intro v10 w10 ho10 hgr10; have HB10 := Lib.hid (HB9.out.grown hgr10 HB9.out.size (fun k hk => O8'.out.fresh k (own_at hk))); rw [HX.out] at ho10; obtain ⟨A10, c10, rfl, hbs10, hc10⟩ := ho10.formL (n := X.length) rfl; clear ho10 hgr10)
      with_reducible refine (HBEG.out _).mono ?_
      rintro e w11 ⟨rfl, hb11⟩
      have hbs11 := hbs10.below hb11
      have HB11 := Lib.hid (below_on HB10.out hb11)
      clear hb11 hbs10 HB10 O8' O9 HB9
      go_wp2_with fail
      with_reducible refine (HOV.out _ _ _ _ rfl hbs11 hc10).mono ?_
      rintro e w12 ⟨rfl, hb12⟩
      have HB12 := Lib.hid (below_on HB11.out hb12)
      clear hb12 hbs11 HB11 HOV
      go_wp2_with fail
      with_reducible refine (HFL.out _).mono ?_
      rintro e w13 ⟨rfl, hb13⟩
      have HB13 := Lib.hid (below_on HB12.out hb13)
      have hr13 : w13.heap[w.heap.size]? = some (.cells t0 24 (0, 0)) := by rw [HB13.out.block _ HZW.out]; exact HR.out
      have HBF := Lib.hid (below_setRow (cs := D) (g := w.heap.size) (below_next HB0.out HB13.out) (Nat.le_refl _))
      clear hb13 HB12
      go_wp2_with (refine wpList_store_row rfl 24 (.tmp 2) (.tmp 26) rfl w.heap.size D rfl rfl 24 t0 hr13 iD sD oD ?_)
      (try simp only [Exit.inBlock, Exit.then])
      refine bodyPost_ret (results_cell_row rfl _ _ w.heap.size _ D _ _ rfl (setRow_heap _ _ _ _ _ _ hr13) Try.underlying24 rfl iD) rfl ?_
      exact ⟨rfl, HBF.out⟩

theorem mid_row (l : List UInt8) : (Sh.nil.add l).mid = bytesS (over begS l) ++ hiB l.length ++ restL l ++ List.replicate (128 - l.length % 128) 0 := by
  unfold Sh.mid Sh.add Sh.nil
  simp only [List.nil_append, Nat.zero_add, restL_len, List.append_assoc]

set_option maxHeartbeats 3200000 in
theorem rmid_any (A : Option Addr) (l : List UInt8) (c : Nat) (w : World) (hbs : Bs w A l) (hlc : l.length ≤ c) (hl : l.length ≤ 100000) :
    Calls Try.prog 18 #[.slice A l.length c] w (RetOb 5 w (Sh.nil.add l).mid) := by
  rw [mid_row]
  obtain ⟨n, hn⟩ : ∃ n, l.length = n := ⟨_, rfl⟩
  obtain ⟨q, hq⟩ : ∃ q, n / 128 = q := ⟨_, rfl⟩
  obtain ⟨y, hy⟩ : ∃ y, 128 * q = y := ⟨_, rfl⟩
  obtain ⟨r, hr⟩ : ∃ r, n % 128 = r := ⟨_, rfl⟩
  have hyn : y + r = n := by omega
  have HBEG : Hid (∀ W : World, Calls Try.prog 30 #[] W fun e w' => e = .returned (.agg (tabW begS.l)) ∧ Below W.heap.size W w') := Lib.hid rbeg_any
  have HOV : Hid (∀ (W : World), Bs W A l → Calls Try.prog 29 #[.agg (tabW begS.l), .slice A n c] W fun e w' => e = .returned (.agg (tabW (over begS l).l)) ∧ Below W.heap.size W w') :=
    Lib.hid fun W h2 => by rw [← hn]; exact rover_any begS A l c W h2 hlc
  have HBY : Hid (∀ (W : World), Calls Try.prog 37 #[.agg (tabW (over begS l).l)] W (RetOb 5 W (bytesS (over begS l)))) := Lib.hid fun W => rbytes_any _ W
  have HHI : Hid (∀ W : World, Calls Try.prog 27 #[.int .u64 (n : Int)] W (RetOb 5 W (hiB n))) := Lib.hid fun W => rhigh_any n W (by omega)
  obtain ⟨BB, hBB⟩ : ∃ B, bytesS (over begS l) = B := ⟨_, rfl⟩
  have HBL : Hid (BB.length = 64) := Lib.hid (by rw [← hBB, bytesS_len])
  rw [hBB] at HBY
  rw [hBB, hn, hr]
  generalize tabW begS.l = GB at *
  generalize tabW (over begS l).l = GO at *
  obtain ⟨AT, hAT, -, hst⟩ := sl_tail A w l hbs c (by omega) y (by omega) .i64
  rw [show l.drop y = restL l by unfold restL; rw [hn, hq, hy]] at hAT
  rw [hn] at hst
  have hrl : (restL l).length = r := by rw [restL_len, hn, hr]
  have hst2 : ∀ u : World, (Instr.slice 22 (.slice A n c) (some (.int .i64 (y : Int))) none none).run Try.prog u = .ok (.slice AT r (c - y)) u := fun u => by
    have := hst y rfl u
    rwa [show n - y = r by omega] at this
  have HRL := Lib.hid hrl
  have HL := Lib.hid hn
  have HBS := Lib.hid hbs
  have HAT := Lib.hid hAT
  have Hpost : Hid (∀ v w', Ob 5 w' w.heap.size v (BB ++ hiB n ++ restL l ++ List.replicate (128 - r) 0) → Below w.heap.size w w' → RetOb 5 w (BB ++ hiB n ++ restL l ++ List.replicate (128 - r) 0) (.returned v) w') := Lib.hid (fun v w' ho hb => ⟨v, rfl, ho, hb⟩)
  have hnl : n ≤ 100000 := by omega
  have hrl2 : r < 128 := by omega
  have hyl : y ≤ 100000 := by omega
  have w1 : IntKind.u64.wrap (n : Int) = (n : Int) := by rw [IntKind.wrap_u64]; omega
  have t1 : (n : Int).tdiv 128 = (q : Int) := by rw [Int.tdiv_eq_ediv_of_nonneg (by omega)]; omega
  have t2 : (n : Int) / 128 = (q : Int) := by omega
  have t3 : (q : Int) * 128 = (y : Int) := by omega
  have hql : q ≤ 1000 := by omega
  clear hbs hq hy hr hn hst hrl hAT hBB
  go_enter Try.func18, Try.ntmps18
  go_wp2_with fail
  with_reducible refine (HBEG.out _).mono ?_
  rintro e w1 ⟨rfl, hb1⟩
  have hbs1 := HBS.out.below hb1
  have HB1 := Lib.hid hb1
  clear hb1
  go_wp2_with fail
  with_reducible refine (HOV.out _ hbs1).mono ?_
  rintro e w2 ⟨rfl, hb2⟩
  have HB2 := Lib.hid (below_next HB1.out hb2)
  clear hb2 HB1 hbs1
  go_wp2_with fail
  with_reducible refine (HBY.out _).mono ?_
  rintro e w3 ⟨v3, rfl, ho3, hb3⟩
  obtain ⟨A3, c3, rfl, -, -⟩ := ho3.formL HBL.out
  have O3 := Lib.hid (ho3.low HB2.out.size)
  have HB3 := Lib.hid (below_next HB2.out hb3)
  clear ho3 hb3 HB2
  go_wp2_with fail
  with_reducible refine (HHI.out _).mono ?_
  rintro e w4 ⟨v4, rfl, ho4, hb4⟩
  obtain ⟨A4, c4, rfl, -, -⟩ := ho4.formL (hiB_len _)
  have O4 := Lib.hid (O3.out.below hb4)
  have O4b := Lib.hid ho4
  have HB4 := Lib.hid (below_next HB3.out hb4)
  clear ho4 hb4 HB3 O3
  have t4 : (200 : Int) - ((72 + r : Nat) : Int) = ((128 - r : Nat) : Int) := by omega
  obtain ⟨z, hz⟩ : ∃ z, 128 - r = z := ⟨_, rfl⟩
  rw [hz] at t4 Hpost
  have hzl : z ≤ 128 := by omega
  obtain ⟨m, hm⟩ : ∃ m, 72 + r = m := ⟨_, rfl⟩
  rw [hm] at t4
  have hml : m < 200 := by omega
  have HLM : Hid ((BB ++ hiB n ++ restL l).length = m) := Lib.hid (by rw [List.length_append, List.length_append, HBL.out, hiB_len, HRL.out]; omega)
  have HZZ := Lib.hid hz
  clear hm hz
  go_wp2_with (first
    | (at_builtin; refine wpList_append_bs rfl (.tmp 7) (.tmp 11) 22 rfl w.heap.size 5 Try.underlying22 info5 _ BB rfl O4.out _ (hiB n) _ _ rfl (hiB_len _).symm O4b.out.bs (by rw [HBL.out, hiB_len]; omega) HB4.out.size ?_; intro v5 w5 ho5 hgr5; have HB5 := Lib.hid (HB4.out.grown hgr5 HB4.out.size (fun k hk => O4.out.fresh k (own_at hk))); obtain ⟨A5, c5, rfl, -, -⟩ := ho5.formL (n := 72) (by rw [List.length_append, HBL.out, hiB_len]); have O5 := Lib.hid ho5; clear ho5 hgr5)
    | (at_builtin; refine wpList_append_bs rfl (.tmp 13) (.tmp 19) 22 rfl w.heap.size 5 Try.underlying22 info5 _ (BB ++ hiB n) rfl O5.out AT (restL l) r (c - y) rfl HRL.out.symm (HAT.out.below HB5.out) (by rw [List.length_append, HBL.out, hiB_len, HRL.out]; omega) HB5.out.size ?_; intro v6 w6 ho6 hgr6; have HB6 := Lib.hid (HB5.out.grown hgr6 HB5.out.size (fun k hk => O5.out.fresh k (own_at hk))); obtain ⟨A6, c6, rfl, -, -⟩ := ho6.formL HLM.out; have O6 := Lib.hid ho6; clear ho6 hgr6)
    | (at_builtin; refine wpList_append_zeros rfl (.tmp 21) (.tmp 24) rfl w.heap.size _ (BB ++ hiB n ++ restL l) rfl O6.out z rfl (by rw [HLM.out]; omega) HB6.out.size ?_; intro v8 w8 ho8 hgr8; have HB8 := Lib.hid (HB6.out.grown hgr8 HB6.out.size (fun k hk => O6.out.fresh k (own_at hk))); have O8 := Lib.hid ho8; clear ho8 hgr8))
  go_ret
  rw [HZZ.out]
  exact Hpost.out _ _ O8.out HB8.out
end Go.Proofs.Ytbkcglfdliicpaa

namespace Go.Proofs.Ytbkcglfdliicpaa
open Go.RowKit
set_option linter.unusedVariables false
set_option maxRecDepth 100000

theorem may_true {l : List UInt8} (h1 : l.length = 200) (h2 : cntB l ≤ 1152921504606846976) (h3 : ∀ j, 72 + cntB l % 128 ≤ j → j < 200 → l.getD j 0 = 0) : mayB l = true := by
  simp only [mayB, Bool.and_eq_true, decide_eq_true_eq]
  refine ⟨h1, h2, List.all_eq_true.2 fun x hx => ?_⟩
  obtain ⟨i, hi, rfl⟩ := List.mem_iff_getElem.1 hx
  rw [List.length_drop] at hi
  have h := h3 (72 + cntB l % 128 + i) (by omega) (by omega)
  rw [List.getD, List.getElem?_eq_getElem (by omega), Option.getD_some] at h
  rw [List.getElem_drop]
  simpa using h
theorem may_false {l : List UInt8} {j : Nat} (h1 : l.length = 200) (h2 : 72 + cntB l % 128 ≤ j) (h3 : j < 200) (h4 : l.getD j 0 ≠ 0) : mayB l = false := by
  cases h : mayB l
  · rfl
  · exfalso
    simp only [mayB, Bool.and_eq_true, decide_eq_true_eq] at h
    have hz := zeros_of h.2.2
    apply h4
    have e : (l.drop (72 + cntB l % 128)).getD (j - (72 + cntB l % 128)) 0 = l.getD j 0 := by
      simp only [List.getD, List.getElem?_drop]
      rw [show 72 + cntB l % 128 + (j - (72 + cntB l % 128)) = j by omega]
    rw [← e, hz]
    simp only [List.getD, List.getElem?_replicate]
    split <;> rfl
theorem may_len {l : List UInt8} (h : l.length ≠ 200) : mayB l = false := by simp [mayB, h]
theorem may_cnt {l : List UInt8} (h : 1152921504606846976 < cntB l) : mayB l = false := by
  have : ¬ cntB l ≤ 1152921504606846976 := by omega
  simp [mayB, this]

set_option maxHeartbeats 1600000 in
theorem rmay_any (A : Option Addr) (l : List UInt8) (c : Nat) (w : World) (hbs : Bs w A l) :
    Calls Try.prog 20 #[.slice A l.length c] w fun e w' => e = .returned (.bool (mayB l)) ∧ w' = w := by
  by_cases h200 : l.length = 200
  · have HCT := Lib.hid fun W (h : Bs W A l) => rcount_any A l c W h h200
    have HBS := Lib.hid hbs
    have HL := Lib.hid h200
    obtain ⟨N, hN⟩ : ∃ N, cntB l = N := ⟨_, rfl⟩
    have hNl : N < 18446744073709551616 := by rw [← hN]; exact (beW ((l.drop 64).take 8)).isLt
    rw [hN] at HCT
    rw [h200]
    have HN := Lib.hid hN
    by_cases hbig : 1152921504606846976 < N
    · have hf := may_cnt (l := l) (by rw [hN]; exact hbig)
      rw [hf]
      have hbig' : (1152921504606846976 : Int) < (N : Int) := by omega
      clear hf h200 hbs hN
      go_enter Try.func20, Try.ntmps20
      go_wp2_with fail
      with_reducible refine (HCT.out _ HBS.out).mono ?_
      rintro e w1 ⟨rfl, hw1⟩
      subst hw1
      go_wp2_with fail
      go_ret
      first | exact ⟨rfl, rfl⟩ | exact ⟨rfl, trivial⟩
    · have hbig' : ¬ (1152921504606846976 : Int) < (N : Int) := by omega
      obtain ⟨r, hr⟩ : ∃ r, N % 128 = r := ⟨_, rfl⟩
      have t1 : (N : Int).tmod 128 = (r : Int) := by rw [Int.tmod_eq_emod_of_nonneg (by omega)]; omega
      have t2 : (N : Int) % 128 = (r : Int) := by omega
      have hrl : r < 128 := by omega
      have t3 : IntKind.i64.wrap (r : Int) = (r : Int) := by rw [IntKind.wrap_i64]; omega
      have HYES : Hid ((∀ j, 72 + r ≤ j → j < 200 → l.getD j 0 = 0) → mayB l = true) := Lib.hid (fun h => may_true h200 (by rw [hN]; omega) (by rw [hN, hr]; exact h))
      have HNO : Hid (∀ j, 72 + r ≤ j → j < 200 → l.getD j 0 ≠ 0 → mayB l = false) := Lib.hid (fun j h1 h2 h3 => may_false h200 (by rw [hN, hr]; exact h1) h2 h3)
      obtain ⟨mb, hmb⟩ : ∃ b, mayB l = b := ⟨_, rfl⟩
      rw [hmb] at HYES HNO ⊢
      clear h200 hbs hN hr hmb
      go_enter Try.func20, Try.ntmps20
      go_wp2_with fail
      with_reducible refine (HCT.out _ HBS.out).mono ?_
      rintro e w1 ⟨rfl, hw1⟩
      subst hw1
      go_wp2_with fail
      with_reducible refine (HCT.out _ HBS.out).mono ?_
      rintro e w2 ⟨rfl, hw2⟩
      subst hw2
      go_wp2_with fail
      go_loopw [3] (fun i wr => ∃ p : Nat, 72 + r ≤ p ∧ p ≤ 200 ∧ i = .int .i64 (p : Int) ∧ Hid (∀ j, 72 + r ≤ j → j < p → l.getD j 0 = 0) ∧ wr = w2) (fun i _ => 200 - (intOf i).toNat)
      case atStart => exact ⟨72 + r, Nat.le_refl _, by omega, by go_num, Lib.hid (fun j h1 h2 => by omega), rfl⟩
      case round =>
        obtain ⟨p, hp1, hp2, rfl, HZ, rfl⟩ := hrel
        by_cases hlt : p < 200
        · obtain ⟨bb, oo, rfl, hc⟩ := HBS.out.at_ (k := p) (by rw [HL.out]; exact hlt)
          by_cases h0 : l.getD p 0 = 0
          · have HZ2 : Hid (∀ j, 72 + r ≤ j → j < p + 1 → l.getD j 0 = 0) := Lib.hid (fun j h1 h2 => by
              by_cases e : j = p
              · rw [e]; exact h0
              · exact HZ.out j h1 (by omega))
            rw [h0] at hc
            have hc2 : wr.cell? ⟨bb, oo + p, none⟩ = some (.int .u8 0) := hc
            have p1 : 0 ≤ (p : Int) := by omega
            clear hc h0 HZ
            go_wp2_with fail
            go_roundw
            case rel => exact ⟨p + 1, by omega, by omega, by go_num, HZ2, by first | rfl | trivial⟩
            case measure => simp [intOf]; omega
          · have hx : ¬ ((l.getD p 0).toNat : Int) = 0 := by
              intro h
              apply h0
              apply UInt8.toNat_inj.1
              simpa using h
            have HR := Lib.hid (HNO.out p hp1 hlt h0)
            generalize (l.getD p 0).toNat = x at *
            have p1 : 0 ≤ (p : Int) := by omega
            have hx2 : ((x : Int) != 0) = true := by simpa using hx
            clear HZ HNO HYES h0
            go_wp2_with fail
            go_ret
            rw [HR.out]
            first | exact ⟨rfl, rfl⟩ | exact ⟨rfl, trivial⟩ | exact rfl
        · obtain rfl : p = 200 := by omega
          have HR := Lib.hid (HYES.out HZ.out)
          clear HZ HNO HYES
          go_wp2_with fail
          go_ret
          rw [HR.out]
          first | exact ⟨rfl, rfl⟩ | exact ⟨rfl, trivial⟩ | exact rfl
  · rw [may_len h200]
    have hne : ¬ ((l.length : Nat) : Int) = 200 := by omega
    generalize l.length = n at *
    go_enter Try.func20, Try.ntmps20
    go_wp2_with fail
    go_ret
    first | exact ⟨rfl, rfl⟩ | exact ⟨rfl, trivial⟩

theorem rCount_any (A : Option Addr) (l : List UInt8) (c : Nat) (w : World) (hbs : Bs w A l) (h : mayB l = true) :
    Calls Try.prog 22 #[.slice A 200 c] w fun e w' => e = .returned (.int .i64 (cntB l : Int)) ∧ w' = w := by
  have h3 := (mid_load h).2.2
  have h1 : l.length = 200 := by simp only [mayB, Bool.and_eq_true, decide_eq_true_eq] at h; exact h.1
  have HCT := Lib.hid (rcount_any A l c w hbs h1)
  have hN : cntB l ≤ 1152921504606846976 := h3
  clear h h3 h1
  generalize cntB l = N at *
  have t3 : IntKind.i64.wrap (N : Int) = (N : Int) := by rw [IntKind.wrap_i64]; omega
  go_enter Try.func22, Try.ntmps22
  go_wp2_with fail
  with_reducible refine HCT.out.mono ?_
  rintro e w1 ⟨rfl, hw1⟩
  subst hw1
  go_wp2_with fail
  go_ret
  first | exact ⟨rfl, rfl⟩ | exact ⟨rfl, trivial⟩
end Go.Proofs.Ytbkcglfdliicpaa

namespace Go.Proofs.Ytbkcglfdliicpaa
open Go.RowKit
set_option linter.unusedVariables false
set_option maxRecDepth 100000

theorem mid_add (h : Sh) (m : List UInt8) : (h.add m).mid = bytesS (over h.s (h.t ++ m)) ++ hiB (h.n + m.length) ++ restL (h.t ++ m) ++ List.replicate (128 - (h.t ++ m).length % 128) 0 := by
  unfold Sh.mid Sh.add
  simp only [restL_len, List.append_assoc]
theorem load_words (l : List UInt8) : (loadB l).s.l = (List.range 8).map (wordAt l) := l_ofL (by simp)

set_option maxHeartbeats 3200000 in
theorem rafter_any (A B : Option Addr) (l d : List UInt8) (c c' : Nat) (w : World) (hbs : Bs w A l) (hbd : Bs w B d) (hm : mayB l = true) (hlc : 200 ≤ c) (hdc : d.length ≤ c') (hdl : d.length ≤ 100000) :
    Calls Try.prog 21 #[.slice A 200 c, .slice B d.length c'] w (RetOb 5 w ((loadB l).add d).mid) := by
  obtain ⟨-, hok, hnl⟩ := mid_load hm
  have h200 : l.length = 200 := by simp only [mayB, Bool.and_eq_true, decide_eq_true_eq] at hm; exact hm.1
  have hNe : (loadB l).n = cntB l := rfl
  have hTe : (loadB l).t = (l.drop 72).take (cntB l % 128) := rfl
  rw [mid_add]
  have HCT := Lib.hid (rcount_any A l c w hbs h200)
  have HWD : Hid (∀ W : World, Bs W A l → Calls Try.prog 40 #[.slice A 200 c] W fun e w' => e = .returned (.agg (tabW (loadB l).s.l)) ∧ Below W.heap.size W w') := Lib.hid fun W hW => by rw [load_words]; exact rmwords_any A l c W hW h200
  generalize hS : (loadB l).s = s at *
  rw [hNe, hTe]
  rw [hNe] at hnl
  obtain ⟨N, hN⟩ : ∃ N, cntB l = N := ⟨_, rfl⟩
  rw [hN] at hnl HCT ⊢
  obtain ⟨r, hr⟩ : ∃ r, N % 128 = r := ⟨_, rfl⟩
  rw [hr]
  obtain ⟨A2, hA2, -, hs2⟩ := sl_mid A w l hbs c (by omega) 72 r (by omega) .i64 .u64
  rw [h200] at hs2
  have hs3 : ∀ u : World, (Instr.slice 22 (.slice A 200 c) (some (.int .i64 72)) (some (.int .u64 ((72 : Int) + (r : Int)))) none).run Try.prog u = .ok (.slice A2 r (c - 72)) u := fun u => hs2 72 (72 + (r : Int)) rfl (by omega) u
  have hTl : ((l.drop 72).take r).length = r := by rw [List.length_take, List.length_drop]; omega
  generalize hTT : (l.drop 72).take r = T at *
  obtain ⟨D, hD⟩ : ∃ D, d.length = D := ⟨_, rfl⟩
  obtain ⟨X, hX⟩ : ∃ X, T ++ d = X := ⟨_, rfl⟩
  have hXl : X.length = r + D := by rw [← hX, List.length_append, hTl, hD]
  rw [hX, hD]
  obtain ⟨M, hM⟩ : ∃ M, r + D = M := ⟨_, rfl⟩
  rw [hM] at hXl
  rw [hXl]
  obtain ⟨q, hq⟩ : ∃ q, M / 128 = q := ⟨_, rfl⟩
  obtain ⟨y, hy⟩ : ∃ y, 128 * q = y := ⟨_, rfl⟩
  obtain ⟨r2, hr2⟩ : ∃ r, M % 128 = r := ⟨_, rfl⟩
  rw [hr2]
  have hyn : y + r2 = M := by omega
  have HOV : Hid (∀ (W : World) (A : Option Addr) (c : Nat), Bs W A X → M ≤ c → Calls Try.prog 29 #[.agg (tabW s.l), .slice A M c] W fun e w' => e = .returned (.agg (tabW (over s X).l)) ∧ Below W.heap.size W w') :=
    Lib.hid fun W A c h2 h3 => by rw [← hXl] at h3 ⊢; exact rover_any s A X c W h2 h3
  have HBY : Hid (∀ (W : World), Calls Try.prog 37 #[.agg (tabW (over s X).l)] W (RetOb 5 W (bytesS (over s X)))) := Lib.hid fun W => rbytes_any _ W
  obtain ⟨N2, hN2⟩ : ∃ N2, N + D = N2 := ⟨_, rfl⟩
  rw [hN2]
  have HHI : Hid (∀ W : World, Calls Try.prog 27 #[.int .u64 (N2 : Int)] W (RetOb 5 W (hiB N2))) := Lib.hid fun W => rhigh_any N2 W (by omega)
  obtain ⟨BB, hBB⟩ : ∃ B, bytesS (over s X) = B := ⟨_, rfl⟩
  have HBL : Hid (BB.length = 64) := Lib.hid (by rw [← hBB, bytesS_len])
  rw [hBB] at HBY
  rw [hBB]
  generalize tabW s.l = GB at *
  generalize tabW (over s X).l = GO at *
  have hrl : (restL X).length = r2 := by rw [restL_len, hXl, hr2]
  have HRD : Hid (∀ (A : Option Addr) (c : Nat) (W : World), Bs W A X → M ≤ c → ∃ AT, Bs W AT (restL X) ∧ ∀ u : World, (Instr.slice 22 (.slice A M c) (some (.int .i64 (y : Int))) none none).run Try.prog u = .ok (.slice AT r2 (c - y)) u) := Lib.hid fun A c W hb hc => by
    obtain ⟨AT, hAT, -, hst⟩ := sl_tail A W X hb c (by omega) y (by omega) .i64
    refine ⟨AT, ?_, fun u => ?_⟩
    · have e : X.drop y = restL X := by unfold restL; rw [hXl, hq, hy]
      rwa [e] at hAT
    · have := hst y rfl u
      rwa [hXl, show M - y = r2 by omega] at this
  have HRL := Lib.hid hrl
  have HXL := Lib.hid hXl
  have HTL := Lib.hid hTl
  have HDL := Lib.hid hD
  have HBS := Lib.hid hbs
  have HBD := Lib.hid hbd
  have HA2 := Lib.hid hA2
  have HX := Lib.hid hX
  have Hpost : Hid (∀ v w', Ob 5 w' w.heap.size v (BB ++ hiB N2 ++ restL X ++ List.replicate (128 - r2) 0) → Below w.heap.size w w' → RetOb 5 w (BB ++ hiB N2 ++ restL X ++ List.replicate (128 - r2) 0) (.returned v) w') := Lib.hid (fun v w' ho hb => ⟨v, rfl, ho, hb⟩)
  have hrl1 : r < 128 := by omega
  have hrl2 : r2 < 128 := by omega
  have hDl : D ≤ 100000 := by omega
  have hMl : M ≤ 100128 := by omega
  have hyl : y ≤ 100128 := by omega
  have hql : q ≤ 1000 := by omega
  have t0 : (N : Int).tmod 128 = (r : Int) := by rw [Int.tmod_eq_emod_of_nonneg (by omega)]; omega
  have t0' : (N : Int) % 128 = (r : Int) := by omega
  have w0 : IntKind.u64.wrap (72 + (r : Int)) = 72 + (r : Int) := by rw [IntKind.wrap_u64]; omega
  have w1 : IntKind.u64.wrap (D : Int) = (D : Int) := by rw [IntKind.wrap_u64]; omega
  have w2 : IntKind.u64.wrap ((N : Int) + (D : Int)) = (N2 : Int) := by rw [IntKind.wrap_u64]; omega
  have t1 : (M : Int).tdiv 128 = (q : Int) := by rw [Int.tdiv_eq_ediv_of_nonneg (by omega)]; omega
  have t2 : (M : Int) / 128 = (q : Int) := by omega
  have t3 : (q : Int) * 128 = (y : Int) := by omega
  have O0 : Hid (Ob 5 w w.heap.size (.slice none 0 0) []) := Lib.hid (Ob.nil_ _ _ _)
  have HDC : Hid (d.length ≤ c') := Lib.hid hdc
  clear hbs hbd hm hlc hdc hdl hok hnl h200 hNe hTe hS hN hr hs2 hTT hD hX hq hy hr2 hN2 hBB hrl hA2 hXl hTl hyn
  rw [HDL.out] at HDC
  go_enter Try.func21, Try.ntmps21
  go_wp2_with fail
  with_reducible refine HCT.out.mono ?_
  rintro e w1 ⟨rfl, hw1⟩
  subst hw1
  go_wp2_with (first
    | (at_builtin; refine wpList_append_bs rfl (.const (.slice none 0 0)) (.tmp 14) 22 rfl w1.heap.size 5 Try.underlying22 info5 _ [] rfl O0.out A2 T r (c - 72) rfl HTL.out.symm HA2.out (by rw [HTL.out]; simp; omega) (Nat.le_refl _) ?_; intro v5 w5 ho5 hgr5; rw [List.nil_append] at ho5; obtain ⟨A5, c5, rfl, -, -⟩ := ho5.formL HTL.out; have HB5 := Lib.hid ((Below.refl w1.heap.size w1).grown hgr5 (Nat.le_refl _) (fun k hk => by cases hk)); have O5 := Lib.hid ho5; clear ho5 hgr5)
    | (at_builtin; refine wpList_append_bs rfl (.tmp 15) (.tmp 16) 22 rfl w1.heap.size 5 Try.underlying22 info5 _ T rfl O5.out B d D c' rfl HDL.out.symm (HBD.out.below HB5.out) (by rw [HTL.out, HDL.out]; omega) HB5.out.size ?_; intro v6 w6 ho6 hgr6; rw [HX.out] at ho6; have HB6 := Lib.hid (HB5.out.grown hgr6 HB5.out.size (fun k hk => O5.out.fresh k (own_at hk))); obtain ⟨A6, c6, rfl, hbs6, hc6⟩ := ho6.formL HXL.out; have HB6s := Lib.hid hbs6; clear ho6 hgr6 hbs6))
  with_reducible refine (HWD.out _ (HBS.out.below HB6.out)).mono ?_
  rintro e w7 ⟨rfl, hb7⟩
  have hbs7 := HB6s.out.below hb7
  have HB7 := Lib.hid (below_on HB6.out hb7)
  have hbs7' := Lib.hid hbs7
  clear hb7 HB6s HB6 O5 HB5 HWD HCT
  go_wp2_with fail
  with_reducible refine (HOV.out _ _ _ hbs7 hc6).mono ?_
  rintro e w8 ⟨rfl, hb8⟩
  have HB8 := Lib.hid (below_on HB7.out hb8)
  have hbs8 := Lib.hid (hbs7.below hb8)
  obtain ⟨AT, hAT, hst⟩ := HRD.out A6 c6 w8 hbs8.out hc6
  have HAT := Lib.hid hAT
  clear hb8 HB7 hbs7 hbs7' hAT HRD HOV hbs8
  go_wp2_with fail
  with_reducible refine (HBY.out _).mono ?_
  rintro e w9 ⟨v9, rfl, ho9, hb9⟩
  obtain ⟨A9, c9, rfl, -, -⟩ := ho9.formL HBL.out
  have O9 := Lib.hid ho9
  have HB9 := Lib.hid hb9
  clear ho9 hb9 HBY
  go_wp2_with fail
  with_reducible refine (HHI.out _).mono ?_
  rintro e w10 ⟨v10, rfl, ho10, hb10⟩
  obtain ⟨A10, c10, rfl, -, -⟩ := ho10.formL (hiB_len _)
  have O10 := Lib.hid (O9.out.below hb10)
  have O10b := Lib.hid ho10
  have HB10 := Lib.hid (below_on HB9.out hb10)
  clear ho10 hb10 HB9 O9 HHI
  have t4 : (200 : Int) - ((72 + r2 : Nat) : Int) = ((128 - r2 : Nat) : Int) := by omega
  obtain ⟨z, hz⟩ : ∃ z, 128 - r2 = z := ⟨_, rfl⟩
  rw [hz] at t4 Hpost
  have hzl : z ≤ 128 := by omega
  obtain ⟨m, hm⟩ : ∃ m, 72 + r2 = m := ⟨_, rfl⟩
  rw [hm] at t4
  have hml : m < 200 := by omega
  have HLM : Hid ((BB ++ hiB N2 ++ restL X).length = m) := Lib.hid (by rw [List.length_append, List.length_append, HBL.out, hiB_len, HRL.out]; omega)
  have HZZ := Lib.hid hz
  clear hm hz
  go_wp2_with (first
    | (at_builtin; refine wpList_append_bs rfl (.tmp 27) (.tmp 29) 22 rfl w8.heap.size 5 Try.underlying22 info5 _ BB rfl O10.out _ (hiB N2) _ _ rfl (hiB_len _).symm O10b.out.bs (by rw [HBL.out, hiB_len]; omega) HB10.out.size ?_; intro v11 w11 ho11 hgr11; have HB11 := Lib.hid (HB10.out.grown hgr11 HB10.out.size (fun k hk => O10.out.fresh k (own_at hk))); obtain ⟨A11, c11, rfl, -, -⟩ := ho11.formL (n := 72) (by rw [List.length_append, HBL.out, hiB_len]); have O11 := Lib.hid ho11; clear ho11 hgr11)
    | (at_builtin; refine wpList_append_bs rfl (.tmp 31) (.tmp 37) 22 rfl w8.heap.size 5 Try.underlying22 info5 _ (BB ++ hiB N2) rfl O11.out AT (restL X) r2 _ rfl HRL.out.symm (HAT.out.below HB11.out) (by rw [List.length_append, HBL.out, hiB_len, HRL.out]; omega) HB11.out.size ?_; intro v12 w12 ho12 hgr12; have HB12 := Lib.hid (HB11.out.grown hgr12 HB11.out.size (fun k hk => O11.out.fresh k (own_at hk))); obtain ⟨A12, c12, rfl, -, -⟩ := ho12.formL HLM.out; have O12 := Lib.hid ho12; clear ho12 hgr12)
    | (at_builtin; refine wpList_append_zeros rfl (.tmp 39) (.tmp 42) rfl w8.heap.size _ (BB ++ hiB N2 ++ restL X) rfl O12.out z rfl (by rw [HLM.out]; omega) HB12.out.size ?_; intro v13 w13 ho13 hgr13; have HB13 := Lib.hid (HB12.out.grown hgr13 HB12.out.size (fun k hk => O12.out.fresh k (own_at hk))); have O13 := Lib.hid ho13; clear ho13 hgr13))
  go_ret
  rw [HZZ.out]
  exact Hpost.out _ _ (O13.out.low HB8.out.size) (below_next HB8.out HB13.out)

theorem sum_load (l : List UInt8) : (loadB l).sum = bytesS (over (loadB l).s ((l.drop 72).take (cntB l % 128) ++ [128] ++ List.replicate ((239 - cntB l % 128) % 128) 0 ++ hiB (cntB l / 2 ^ 61) ++ hiB (cntB l * 8 % 2 ^ 64))) := by
  unfold Sh.sum padB
  rw [show (loadB l).t = (l.drop 72).take (cntB l % 128) from rfl, show (loadB l).n = cntB l from rfl]
  simp only [List.append_assoc, List.cons_append, List.nil_append]

set_option maxHeartbeats 3200000 in
theorem rfrom_any (A : Option Addr) (l : List UInt8) (c : Nat) (w : World) (hbs : Bs w A l) (h200 : l.length = 200) (hlc : 200 ≤ c) :
    Calls Try.prog 23 #[.slice A 200 c] w fun e w' => e = .returned (.agg (arrB (loadB l).sum)) ∧ Below w.heap.size w w' := by
  have hnl : cntB l < 18446744073709551616 := (beW ((l.drop 64).take 8)).isLt
  rw [sum_load]
  have HCT := Lib.hid fun W (hW : Bs W A l) => rcount_any A l c W hW h200
  have HWD : Hid (∀ W : World, Bs W A l → Calls Try.prog 40 #[.slice A 200 c] W fun e w' => e = .returned (.agg (tabW (loadB l).s.l)) ∧ Below W.heap.size W w') := Lib.hid fun W hW => by rw [load_words]; exact rmwords_any A l c W hW h200
  generalize hS : (loadB l).s = s at *
  obtain ⟨N, hN⟩ : ∃ N, cntB l = N := ⟨_, rfl⟩
  rw [hN] at hnl HCT ⊢
  obtain ⟨r, hr⟩ : ∃ r, N % 128 = r := ⟨_, rfl⟩
  rw [hr]
  obtain ⟨A2, hA2, -, hs2⟩ := sl_mid A w l hbs c (by omega) 72 r (by omega) .i64 .u64
  rw [h200] at hs2
  have hs3 : ∀ u : World, (Instr.slice 22 (.slice A 200 c) (some (.int .i64 72)) (some (.int .u64 ((72 : Int) + (r : Int)))) none).run Try.prog u = .ok (.slice A2 r (c - 72)) u := fun u => hs2 72 (72 + (r : Int)) rfl (by omega) u
  have hTl : ((l.drop 72).take r).length = r := by rw [List.length_take, List.length_drop]; omega
  generalize hTT : (l.drop 72).take r = T at *
  obtain ⟨Z, hZ⟩ : ∃ Z, (239 - r) % 128 = Z := ⟨_, rfl⟩
  obtain ⟨N1, hN1⟩ : ∃ n, N / 2 ^ 61 = n := ⟨_, rfl⟩
  obtain ⟨N2, hN2⟩ : ∃ n, N * 8 % 2 ^ 64 = n := ⟨_, rfl⟩
  rw [hZ, hN1, hN2]
  obtain ⟨X, hX⟩ : ∃ X, T ++ [128] ++ List.replicate Z 0 ++ hiB N1 ++ hiB N2 = X := ⟨_, rfl⟩
  rw [hX]
  obtain ⟨D, hD⟩ : ∃ D, arrB (bytesS (over s X)) = D := ⟨_, rfl⟩
  have hDn : D.size = 64 := by rw [← hD, arrB_size, bytesS_len]
  have oD : D.all (·.oneCell') = true := by rw [← hD]; exact arrB_one _
  have iD : (Try.prog.info? 24).map (·.size) = some D.size := by rw [hDn]; kernel_rfl
  have hz := fun u => zero_arr 24 (arrB (List.replicate 64 0)) 64 (by kernel_rfl) u
  obtain ⟨t0, ht0⟩ : ∃ t0, arrB (List.replicate 64 0) = t0 := ⟨_, rfl⟩
  have ht0s : t0.size = 64 := by rw [← ht0, arrB_size]; simp
  have sD : t0.size = D.size := by rw [ht0s, hDn]
  rw [ht0] at hz
  have HOV : Hid (∀ (A : Option Addr) (c M : Nat) (W : World), X.length = M → Bs W A X → M ≤ c → Calls Try.prog 29 #[.agg (tabW s.l), .slice A M c] W fun e w' => e = .returned (.agg (tabW (over s X).l)) ∧ Below W.heap.size W w') :=
    Lib.hid fun A c M W h1 h2 h3 => by subst h1; exact rover_any s A X c W h2 h3
  have HFL : Hid (∀ W : World, Calls Try.prog 28 #[.agg (tabW (over s X).l)] W fun e w' => e = .returned (.agg D) ∧ Below W.heap.size W w') := Lib.hid fun W => by rw [← hD]; exact rflat_any _ W
  have HH1 : Hid (∀ W : World, Calls Try.prog 27 #[.int .u64 (N1 : Int)] W (RetOb 5 W (hiB N1))) := Lib.hid fun W => rhigh_any N1 W (by omega)
  have HH2 : Hid (∀ W : World, Calls Try.prog 27 #[.int .u64 (N2 : Int)] W (RetOb 5 W (hiB N2))) := Lib.hid fun W => rhigh_any N2 W (by omega)
  rw [hD]
  generalize tabW s.l = GB at *
  generalize tabW (over s X).l = GO at *
  have HTL := Lib.hid hTl
  have HBS := Lib.hid hbs
  have HA2 := Lib.hid hA2
  have HX := Lib.hid hX
  have hrl1 : r < 128 := by omega
  have hZl : Z < 128 := by omega
  have HZ : Hid (∀ k, k ≤ Z → ((r + 1 + k) % 128 = 112 ↔ k = Z)) := Lib.hid (fun k hk => by omega)
  have m0 : (N : Int).tmod 128 = (r : Int) := by rw [Int.tmod_eq_emod_of_nonneg (by omega)]; omega
  have m0' : (N : Int) % 128 = (r : Int) := by omega
  have w0 : IntKind.u64.wrap (72 + (r : Int)) = 72 + (r : Int) := by rw [IntKind.wrap_u64]; omega
  have t1 : (N : Int) / 2305843009213693952 = (N1 : Int) := by omega
  have t2 : IntKind.u64.wrap ((N : Int) * 8) = (N2 : Int) := by rw [IntKind.wrap_u64]; omega
  obtain ⟨W1, hW1⟩ : ∃ W, w.alloc (.cells t0 24) = W := ⟨_, rfl⟩
  have HB0 : Hid (Below w.heap.size w W1) := Lib.hid (by rw [← hW1]; exact below_alloc (Below.refl _ w) _)
  have HR : Hid (W1.heap[w.heap.size]? = some (.cells t0 24 (0, 0))) := Lib.hid (by rw [← hW1]; exact heap_alloc_new _ _)
  have HZW : Hid (w.heap.size < W1.heap.size) := Lib.hid (by rw [← hW1, World.size_alloc]; omega)
  have O0 : Hid (Ob 5 W1 W1.heap.size (.slice none 0 0) []) := Lib.hid (Ob.nil_ _ _ _)
  have HW1 := Lib.hid hW1
  clear hbs hlc hnl h200 hS hN hr hs2 hTT hX hZ hN1 hN2 hA2 hTl hD hDn ht0 ht0s hW1
  go_enter Try.func23, Try.ntmps23
  go_wp2_with fail
  rw [HW1.out]
  with_reducible refine (HCT.out _ (HBS.out.below HB0.out)).mono ?_
  rintro e w1 ⟨rfl, hw1⟩
  subst hw1
  go_wp2_with (first
    | (at_builtin; refine wpList_append_bs rfl (.const (.slice none 0 0)) (.tmp 11) 22 rfl w1.heap.size 5 Try.underlying22 info5 _ [] rfl O0.out A2 T r (c - 72) rfl HTL.out.symm (HA2.out.below HB0.out) (by rw [HTL.out]; simp; omega) (Nat.le_refl _) ?_; intro v5 w5 ho5 hgr5; rw [List.nil_append] at ho5; obtain ⟨A5, c5, rfl, -, -⟩ := ho5.formL HTL.out; have HB5 := Lib.hid ((Below.refl w1.heap.size w1).grown hgr5 (Nat.le_refl _) (fun k hk => by cases hk)); have O5 := Lib.hid ho5; clear ho5 hgr5)
    | (at_builtin; refine wpList_append_bs rfl (.tmp 12) (.tmp 13) 22 rfl w1.heap.size 5 Try.underlying22 info5 _ T rfl (O5.out.below ((Below.refl _ _).alloc (Nat.le_refl _) _)) _ [128] 1 1 rfl rfl (bs_lit1 _ 5 128) (by rw [HTL.out]; simp; omega) (by have := HB5.out.size; simp; omega) ?_; intro v7 w7 ho7 hgr7; have HB7 := Lib.hid ((HB5.out.alloc HB5.out.size _).grown hgr7 (by have := HB5.out.size; simp; omega) (fun k hk => O5.out.fresh k (own_at hk))); have O7 := Lib.hid ho7; clear ho7 hgr7))
  go_loopw [4] (fun v wr => ∃ k : Nat, k ≤ Z ∧ Hid (Ob 5 wr w1.heap.size v (T ++ [128] ++ List.replicate k 0)) ∧ Hid (Below w1.heap.size w1 wr)) (fun v _ => r + 1 + Z - sLen v)
  case atStart => exact ⟨0, by omega, by simpa using O7, HB7⟩
  case round =>
    clear O7 HB7 O5 HB5
    obtain ⟨k, hk, O, HB⟩ := hrel
    have hln : (T ++ [128] ++ List.replicate k 0).length = r + 1 + k := by simp [HTL.out] <;> omega
    obtain ⟨A3, c3, rfl, hbs3, hcap⟩ := O.out.formL hln
    by_cases hlt : k < Z
    · have hap : Hid (T ++ [128] ++ List.replicate k 0 ++ [0] = T ++ [128] ++ List.replicate (k + 1) (0 : UInt8)) := Lib.hid (by rw [List.replicate_succ']; simp)
      have hne0 : ¬ (r + 1 + k) % 128 = 112 := by have := HZ.out k hk; omega
      obtain ⟨M1, hM1⟩ : ∃ N, r + 1 + k = N := ⟨_, rfl⟩
      have Hn := Lib.hid hln
      rw [hM1] at Hn hne0 O ⊢
      have hM1l : M1 ≤ 256 := by omega
      have hne : ((M1 : Int) % 128 != 112) = true := by simp; omega
      have HM1 := Lib.hid hM1
      clear hln hbs3 hcap HOV HFL HH1 HH2 HWD HCT hM1 hne0
      go_wp2_with (at_builtin; refine wpList_append_bs rfl (.tmp 19) (.tmp 20) 22 rfl w1.heap.size 5 Try.underlying22 info5 _ (T ++ [128] ++ List.replicate k 0) rfl (O.out.below ((Below.refl _ _).alloc (Nat.le_refl _) _)) _ [0] 1 1 rfl rfl (bs_lit1 _ 5 0) (by rw [Hn.out]; simp; omega) (by have := HB.out.size; simp; omega) ?_; intro v7 w7 ho7 hgr7; have HO7 := Lib.hid (show Ob 5 w7 w1.heap.size v7 (T ++ [128] ++ List.replicate (k + 1) 0) by rw [← hap.out]; exact ho7); have hb7 := Lib.hid ((HB.out.alloc HB.out.size _).grown hgr7 (by have := HB.out.size; simp; omega) (fun k hk => O.out.fresh k (own_at hk))); clear ho7 hgr7; obtain ⟨g7, c7, rfl, -, -⟩ := HO7.out.formL (n := M1 + 1) (by have := HM1.out; simp [HTL.out]; omega))
      go_roundw
      case rel => exact ⟨k + 1, by omega, HO7, hb7⟩
      case measure => have := HM1.out; simp [sLen]; omega
    · obtain rfl : k = Z := by omega
      have hne0 : (r + 1 + k) % 128 = 112 := (HZ.out k hk).2 rfl
      have Hn := Lib.hid hln
      obtain ⟨M1, hM1⟩ : ∃ N, r + 1 + k = N := ⟨_, rfl⟩
      rw [hM1] at Hn hne0 O ⊢
      have hM1l : M1 ≤ 256 := by omega
      have hne : ((M1 : Int) % 128 != 112) = false := by simp; omega
      clear hne0
      clear hln hbs3 hcap hM1
      go_wp2_with fail
      with_reducible refine (HH1.out _).mono ?_
      rintro e w8 ⟨v8, rfl, ho8, hb8⟩
      obtain ⟨A8, c8, rfl, -, -⟩ := ho8.formL (hiB_len _)
      have O8 := Lib.hid (O.out.below hb8)
      have HB8 := Lib.hid (below_on HB.out hb8)
      have O8b := Lib.hid ho8
      clear ho8 hb8 O HB
      go_wp2_with (at_builtin; refine wpList_append_bs rfl (.tmp 22) (.tmp 25) 22 rfl w1.heap.size 5 Try.underlying22 info5 _ _ rfl O8.out _ (hiB N1) _ _ rfl (hiB_len _).symm O8b.out.bs (by rw [Hn.out, hiB_len]; omega) HB8.out.size ?_; intro v9 w9 ho9 hgr9; have HB9 := Lib.hid (HB8.out.grown hgr9 HB8.out.size (fun k hk => O8.out.fresh k (own_at hk))); obtain ⟨A9, c9, rfl, -, -⟩ := ho9.formL (n := M1 + 8) (by rw [List.length_append, Hn.out, hiB_len]); have O9 := Lib.hid ho9; clear ho9 hgr9)
      with_reducible refine (HH2.out _).mono ?_
      rintro e w10 ⟨v10, rfl, ho10, hb10⟩
      obtain ⟨A10, c10, rfl, -, -⟩ := ho10.formL (hiB_len _)
      have O10 := Lib.hid (O9.out.below hb10)
      have HB10 := Lib.hid (below_on HB9.out hb10)
      have O10b := Lib.hid ho10
      clear ho10 hb10 O9 HB9 O8 HB8 O8b
      go_wp2_with (at_builtin; refine wpList_append_bs rfl (.tmp 26) (.tmp 29) 22 rfl w1.heap.size 5 Try.underlying22 info5 _ _ rfl O10.out _ (hiB N2) _ _ rfl (hiB_len _).symm O10b.out.bs (by rw [List.length_append, Hn.out, hiB_len, hiB_len]; omega) HB10.out.size ?_; intro v11 w11 ho11 hgr11; have HB11 := Lib.hid (HB10.out.grown hgr11 HB10.out.size (fun k hk => O10.out.fresh k (own_at hk))); rw [HX.out] at ho11; obtain ⟨A11, c11, rfl, hbs11, hc11⟩ := ho11.formL (n := X.length) rfl; clear ho11 hgr11)
      with_reducible refine (HWD.out _ ((HBS.out.below HB0.out).below HB11.out)).mono ?_
      rintro e w12 ⟨rfl, hb12⟩
      have hbs12 := hbs11.below hb12
      have HB12 := Lib.hid (below_on HB11.out hb12)
      clear hb12 hbs11 HB11 O10 O10b HB10
      go_wp2_with fail
      with_reducible refine (HOV.out _ _ _ _ rfl hbs12 hc11).mono ?_
      rintro e w13 ⟨rfl, hb13⟩
      have HB13 := Lib.hid (below_on HB12.out hb13)
      clear hb13 hbs12 HB12 HOV
      go_wp2_with fail
      with_reducible refine (HFL.out _).mono ?_
      rintro e w14 ⟨rfl, hb14⟩
      have HB14 := Lib.hid (below_on HB13.out hb14)
      have hr14 : w14.heap[w.heap.size]? = some (.cells t0 24 (0, 0)) := by rw [HB14.out.block _ HZW.out]; exact HR.out
      have HBF := Lib.hid (below_setRow (cs := D) (g := w.heap.size) (below_next HB0.out HB14.out) (Nat.le_refl _))
      clear hb14 HB13
      go_wp2_with (refine wpList_store_row rfl 24 (.tmp 2) (.tmp 35) rfl w.heap.size D rfl rfl 24 t0 hr14 iD sD oD ?_)
      (try simp only [Exit.inBlock, Exit.then])
      refine bodyPost_ret (results_cell_row rfl _ _ w.heap.size _ D _ _ rfl (setRow_heap _ _ _ _ _ _ hr14) Try.underlying24 rfl iD) rfl ?_
      exact ⟨rfl, HBF.out⟩
end Go.Proofs.Ytbkcglfdliicpaa

