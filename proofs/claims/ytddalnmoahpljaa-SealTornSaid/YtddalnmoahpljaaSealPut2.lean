/- The contract of seal.Put. -/
import Derived.Test.YtddalnmoahpljaaSealPut
namespace Go.Proofs.Ytddalnmoahpljaa
open Go.RowKit
set_option linter.unusedVariables false
set_option maxRecDepth 100000

set_option maxHeartbeats 800000 in
theorem put_no (k q : Int) (A : Option Addr) (n c : Nat) (w : World) (hk1 : -9223372036854775808 ≤ k) (hk2 : k ≤ 9223372036854775807) (hq1 : -9223372036854775808 ≤ q) (hq2 : q ≤ 9223372036854775807)
    (hl : n ≤ 9223372036854775807) (h : ¬ recOk k q n) :
    Calls Try.prog 12 #[.agg #[.int .i64 k, .int .i64 q, .slice A n c]] w (RetOb 5 w []) := by
  have hcell := box_cells w (.int .i64 k) (.int .i64 q) (.slice A n c) 24
  obtain ⟨w1, Hw1⟩ : ∃ w1, Hid (w.alloc (.cells #[.int .i64 k, .int .i64 q, .slice A n c] 24) = w1) := ⟨_, rfl⟩
  have Hb1 : Hid (Below w.heap.size w w1) := Lib.hid (by rw [← Hw1.out]; exact (Below.refl _ _).alloc (Nat.le_refl _) _)
  rw [Hw1.out] at hcell
  obtain ⟨c0, c1, c2⟩ := hcell w1 (Below.refl _ _)
  clear hcell
  have HV : Hid (Calls Try.prog 27 #[.agg #[.int .i64 k, .int .i64 q, .slice A n c]] w1 (BoolIn w1 false)) := Lib.hid (by
    have := valid_any k q A n c w1 hk1 hk2 hq1 hq2 hl
    rw [decide_eq_false h] at this
    exact this)
  clear h
  go_enter Try.func12, Try.ntmps12
  go_upto_region 1 with fail
  rw [Hw1.out]
  go_wp2_with fail
  with_reducible refine HV.out.mono ?_
  rintro e w2 ⟨rfl, hb2⟩
  go_wp2_with fail
  go_ret
  exact ⟨_, rfl, Ob.nil_ _ _ _, below_on Hb1.out hb2⟩

theorem lit4_ob (w : World) (x : UInt8) (n base : Nat) (hn : n ≤ 512) (hb : base ≤ w.heap.size) :
    Bs (w.alloc (.cells #[.int .u8 (x.toNat : Int), .int .u8 0, .int .u8 ((n : Int) % 256), .int .u8 ((n : Int) / 256)] 5)) (some ⟨w.heap.size, 0, none⟩) [x, 0, UInt8.ofNat n, UInt8.ofNat (n / 256)] := by
  have h := (ob_lit4 w x 0 (UInt8.ofNat n) (UInt8.ofNat (n / 256))).bs
  rw [show (n : Int) / 256 = ((n / 256 : Nat) : Int) % 256 by omega]
  have e : ∀ y : Nat, bval (UInt8.ofNat y) = .int .u8 ((y : Int) % 256) := fun y => by simp [bval]
  have e0 : bval 0 = .int .u8 0 := rfl
  simp only [e, e0] at h
  simpa [bval] using h

set_option maxHeartbeats 1600000 in
theorem put_yes (K Q : Nat) (A : Option Addr) (l : List UInt8) (c : Nat) (w : World) (hbs : Bs w A l) (hK1 : 1 ≤ K) (hK2 : K ≤ 250) (hQ : Q ≤ 4294967295) (hl : l.length ≤ 512) :
    Calls Try.prog 12 #[.agg #[.int .i64 (K : Int), .int .i64 (Q : Int), .slice A l.length c]] w (RetOb 5 w (encR K Q l)) := by
  obtain ⟨x, rfl⟩ : ∃ x : UInt8, x.toNat = K := ⟨UInt8.ofNat K, by simp; omega⟩
  obtain ⟨n, hn⟩ : ∃ n, l.length = n := ⟨_, rfl⟩
  rw [hn] at hl ⊢
  have hxk : UInt8.ofNat x.toNat = x := by simp
  have hcell := box_cells w (.int .i64 (x.toNat : Int)) (.int .i64 (Q : Int)) (.slice A n c) 24
  obtain ⟨w1, Hw1⟩ : ∃ w1, Hid (w.alloc (.cells #[.int .i64 (x.toNat : Int), .int .i64 (Q : Int), .slice A n c] 24) = w1) := ⟨_, rfl⟩
  have hb1 : Below w.heap.size w w1 := by rw [← Hw1.out]; exact (Below.refl _ _).alloc (Nat.le_refl _) _
  rw [Hw1.out] at hcell
  have HL0 : Hid (∀ W, Below w1.heap.size w1 W → W.cell? ⟨w.heap.size, 0, none⟩ = some (.int .i64 (x.toNat : Int))) := Lib.hid fun W hW => (hcell W hW).1
  have HL1 : Hid (∀ W, Below w1.heap.size w1 W → W.cell? ⟨w.heap.size, 1, none⟩ = some (.int .i64 (Q : Int))) := Lib.hid fun W hW => (hcell W hW).2.1
  have HL2 : Hid (∀ W, Below w1.heap.size w1 W → W.cell? ⟨w.heap.size, 2, none⟩ = some (.slice A n c)) := Lib.hid fun W hW => (hcell W hW).2.2
  obtain ⟨c0, c1, c2⟩ := hcell w1 (Below.refl _ _)
  have HBS : Hid (∀ W, Below w1.heap.size w1 W → Bs W A l) := Lib.hid fun W hW => (hbs.below hb1).below hW
  have HB1 := Lib.hid hb1
  have HV : Hid (Calls Try.prog 27 #[.agg #[.int .i64 (x.toNat : Int), .int .i64 (Q : Int), .slice A n c]] w1 (BoolIn w1 true)) := Lib.hid (by
    have := valid_any (x.toNat : Int) (Q : Int) A n c w1 (by omega) (by omega) (by omega) (by omega) (by omega)
    rw [decide_eq_true (show recOk (x.toNat : Int) (Q : Int) n from ⟨by omega, by omega, by omega, by omega, by omega⟩)] at this
    exact this)
  have hsz : sizeI (n : Int) = ((sizeR n : Nat) : Int) := by unfold sizeI; rw [if_neg (by omega)]; simp
  have HS : Hid (∀ W, Calls Try.prog 15 #[.int .i64 (n : Int)] W fun e w' => e = .returned (.int .i64 ((sizeR n : Nat) : Int)) ∧ w' = W) := Lib.hid fun W => by
    have := size_any (n : Int) W (by omega) (by omega)
    rw [hsz] at this
    exact this
  have hs1 : sizeR n ≤ 536 := by unfold sizeR; omega
  obtain ⟨s, hs⟩ : ∃ s, sizeR n = s := ⟨_, rfl⟩
  rw [hs] at HS hs1
  have mk : ∀ u : World, (Instr.makeSlice 22 (.int .i64 0) (.int .i64 (s : Int))).run Try.prog u = _ := fun u => make_room s (by omega) u
  obtain ⟨T, hT⟩ : ∃ T, frontR.n8 n = T := ⟨_, rfl⟩
  have hT7 : T ≤ 7 := by rw [← hT]; unfold frontR.n8; omega
  have HP : Hid (∀ W : World, Calls Try.prog 29 #[.int .i64 (n : Int)] W fun e w' => e = .returned (.int .i64 (T : Nat)) ∧ w' = W) := Lib.hid fun W => by rw [← hT]; exact pad_any n W (by omega)
  have HF : Hid ([x, 0, UInt8.ofNat n, UInt8.ofNat (n / 256)] ++ lowB 4 Q ++ l ++ List.replicate T 0 = frontR x.toNat Q l) := Lib.hid (by
    unfold frontR
    rw [hn, hT]
    simp [lowB])
  have HE : Hid (frontR x.toNat Q l ++ lowB 4 (crc (frontR x.toNat Q l)) ++ lowB 4 (4294967295 - crc (frontR x.toNat Q l)) = encR x.toNat Q l) := Lib.hid (by unfold encR tailR; simp)
  have HN := Lib.hid hn
  have kb0 : Below w1.heap.size w1 w1 := Below.refl _ _
  clear hcell hb1 hbs hs hT hn hsz
  go_enter Try.func12, Try.ntmps12
  go_upto_region 1 with fail
  rw [Hw1.out]
  go_wp2_with fail
  with_reducible refine HV.out.mono ?_
  rintro e w2 ⟨rfl, hb2⟩
  have d0 := HL0.out w2 hb2
  have d1 := HL1.out w2 hb2
  have d2 := HL2.out w2 hb2
  clear c0 c1 c2
  go_wp2_with fail
  with_reducible refine (HS.out _).mono ?_
  rintro e w' ⟨rfl, rfl⟩
  have hom := own_room w' s 5 (by omega)
  have hbm : Below w1.heap.size w1 (w'.alloc (.cells (madeCells #[.int .u8 0] s) 5)) := hb2.alloc hb2.size _
  go_upto_region 5 with fail
  obtain ⟨w3, Hw3⟩ : ∃ w3, w'.alloc (.cells (madeCells #[.int .u8 0] s) 5) = w3 := ⟨_, rfl⟩
  rw [Hw3] at hom hbm ⊢
  have hg3 : w1.heap.size ≤ w'.heap.size := hb2.size
  generalize w'.heap.size = G at *
  have O3 := Lib.hid (hom.low hg3)
  have e0 := HL0.out w3 hbm
  have e1 := HL1.out w3 hbm
  have e2 := HL2.out w3 hbm
  clear hom Hw3 d0 d1 d2 mk
  go_upto_region 6 with (at_builtin; refine wpList_append_bs rfl (.tmp 15) (.tmp 24) 22 rfl w1.heap.size 5 Try.underlying22 info5 _ [] rfl (O3.out.below ((Below.refl _ _).alloc (Nat.le_refl _) _)) _ [x, 0, UInt8.ofNat n, UInt8.ofNat (n / 256)] 4 4 rfl rfl (lit4_ob w3 x n w1.heap.size (by omega) hbm.size) (by simp) (by have := hbm.size; simp; omega) ?_; intro v4 w4 ho4 hgr4; have kb4 : Below w1.heap.size w1 w4 := (hbm.alloc hbm.size _).grown hgr4 (by have := hbm.size; simp; omega) (fun k hk => O3.out.fresh k (own_at hk)); rw [List.nil_append] at ho4; obtain ⟨g4, k4, rfl, -, -, hg4⟩ := ho4.formN (n := 4) (by simp) (by omega))
  have f1 := HL1.out w4 kb4
  have f2 := HL2.out w4 kb4
  have HA4 : Hid (Calls Try.prog 28 #[.slice (some ⟨g4, 0, none⟩) 4 k4, .int .u32 (Q : Int)] w4 fun e w' => ∃ v, e = .returned v ∧ Ob 5 w' w1.heap.size v ([x, 0, UInt8.ofNat n, UInt8.ofNat (n / 256)] ++ lowB 4 Q) ∧ w4.grownBy w' (some g4)) := Lib.hid (appnum_any g4 4 k4 Q _ w1.heap.size w4 ho4 (by omega) kb4.size (by omega))
  clear e0 e1 e2 ho4
  go_wp2_with fail
  with_reducible refine HA4.out.mono ?_
  rintro e w5 ⟨v5, rfl, ho5, hgr5⟩
  have kb5 : Below w1.heap.size w1 w5 := kb4.grown hgr5 kb4.size (fun k hk => by injection hk with hk; omega)
  obtain ⟨F1, hF1⟩ : ∃ F1, [x, 0, UInt8.ofNat n, UInt8.ofNat (n / 256)] ++ lowB 4 Q = F1 := ⟨_, rfl⟩
  have hl1 : F1.length = 8 := by rw [← hF1]; simp [lowB_len]
  rw [hF1] at ho5 HF
  obtain ⟨g5, k5, rfl, -, -, hg5⟩ := ho5.formN hl1 (by omega)
  have O5 := Lib.hid ho5
  have i2 := HL2.out w5 kb5
  have HBS5 := Lib.hid (HBS.out w5 kb5)
  clear f1 f2 hF1 ho5 HA4
  obtain ⟨F2, hF2⟩ : ∃ F2, F1 ++ l = F2 := ⟨_, rfl⟩
  have hl2 : F2.length = 8 + n := by rw [← hF2]; simp [hl1, HN.out]
  go_upto_region 8 with (at_builtin; refine wpList_append_bs rfl (.tmp 31) (.tmp 33) 22 rfl w1.heap.size 5 Try.underlying22 info5 _ F1 rfl O5.out A l n c rfl HN.out.symm HBS5.out (by rw [hl1, HN.out]; omega) kb5.size ?_; intro v6 w6 ho6 hgr6; rw [hF2] at ho6; have kb6 : Below w1.heap.size w1 w6 := kb5.grown hgr6 kb5.size (fun k hk => O5.out.fresh k (own_at hk)); obtain ⟨g6, k6, rfl, -, -, hg6⟩ := ho6.formN hl2 (by omega); have O6 := Lib.hid ho6; clear ho6)
  rw [hF2] at HF
  clear i2 O5 HBS5 hF2
  obtain ⟨F, hF⟩ : ∃ F, F2 ++ List.replicate T 0 = F := ⟨_, rfl⟩
  have hl3 : F.length = 8 + n + T := by rw [← hF]; simp [hl2]
  go_wp2_with fail
  with_reducible refine (HP.out _).mono ?_
  rintro e w' ⟨rfl, rfl⟩
  go_upto_region 9 with (at_builtin; refine wpList_append_zeros rfl (.tmp 35) (.tmp 37) rfl w1.heap.size _ F2 rfl O6.out T rfl (by omega) kb6.size ?_; intro v7 w7 ho7 hgr7; rw [hF] at ho7; have kb7 : Below w1.heap.size w1 w7 := kb6.grown hgr7 kb6.size (fun k hk => O6.out.fresh k (own_at hk)); obtain ⟨g7, k7, rfl, -, -, hg7⟩ := ho7.formN hl3 (by omega); have O7 := Lib.hid ho7; clear ho7)
  rw [hF] at HF
  rw [← HF.out] at HE
  clear O6 hF HF
  have HSUM : Hid (Calls Try.prog 17 #[.slice (some ⟨g7, 0, none⟩) (8 + n + T) k7] w7 fun e w' => e = .returned (.int .u32 (crc F : Nat)) ∧ Below w7.heap.size w7 w') := Lib.hid (by
    have := sum_any (some ⟨g7, 0, none⟩) F k7 w7 O7.out.bs (by omega)
    rw [hl3] at this
    exact this)
  have hsl := crc_lt F
  generalize crc F = sm at *
  obtain ⟨s2, hs2⟩ : ∃ s2, 4294967295 - sm = s2 := ⟨_, rfl⟩
  rw [hs2] at HE
  have hs2l : s2 < 4294967296 := by omega
  have hx : bits .xor .u32 IntKind.u32.max (sm : Int) = (s2 : Int) := by
    rw [← hs2, comp_xor hsl, show IntKind.u32.max = 4294967295 by decide]
    exact u32_xor_nat 4294967295 sm (by omega) hsl
  clear hs2
  go_wp2_with fail
  with_reducible refine HSUM.out.mono ?_
  rintro e w8 ⟨rfl, hb8⟩
  have O8 := O7.out.below hb8
  have kb8 : Below w1.heap.size w1 w8 := below_on kb7 hb8
  have HA8 : Hid (Calls Try.prog 28 #[.slice (some ⟨g7, 0, none⟩) (8 + n + T) k7, .int .u32 (sm : Int)] w8 fun e w' => ∃ v, e = .returned v ∧ Ob 5 w' w1.heap.size v (F ++ lowB 4 sm) ∧ w8.grownBy w' (some g7)) := Lib.hid (appnum_any g7 _ k7 sm F w1.heap.size w8 O8 (by omega) kb8.size hsl)
  clear HSUM O7 O8
  go_wp2_with fail
  with_reducible refine HA8.out.mono ?_
  rintro e w9 ⟨v9, rfl, ho9, hgr9⟩
  have kb9 : Below w1.heap.size w1 w9 := kb8.grown hgr9 kb8.size (fun k hk => by injection hk with hk; omega)
  obtain ⟨g9, k9, rfl, -, -, hg9⟩ := ho9.formN (n := 8 + n + T + 4) (by simp [hl3, lowB_len]) (by omega)
  have HA9 : Hid (Calls Try.prog 28 #[.slice (some ⟨g9, 0, none⟩) (8 + n + T + 4) k9, .int .u32 (s2 : Int)] w9 fun e w' => ∃ v, e = .returned v ∧ Ob 5 w' w1.heap.size v (F ++ lowB 4 sm ++ lowB 4 s2) ∧ w9.grownBy w' (some g9)) := Lib.hid (appnum_any g9 _ k9 s2 _ w1.heap.size w9 ho9 (by omega) kb9.size hs2l)
  clear ho9 HA8
  go_wp2_with fail
  with_reducible refine HA9.out.mono ?_
  rintro e w10 ⟨v10, rfl, ho10, hgr10⟩
  rw [HE.out] at ho10
  have kb10 : Below w1.heap.size w1 w10 := kb9.grown hgr10 kb9.size (fun k hk => by injection hk with hk; omega)
  clear HA9
  go_wp2_with fail
  go_ret
  exact ⟨_, rfl, ho10.low HB1.out.size, below_on HB1.out kb10⟩

theorem put_any (k q : Int) (A : Option Addr) (l : List UInt8) (c : Nat) (w : World) (h : Bs w A l) (hk1 : -9223372036854775808 ≤ k) (hk2 : k ≤ 9223372036854775807) (hq1 : -9223372036854775808 ≤ q) (hq2 : q ≤ 9223372036854775807)
    (hl : l.length ≤ 9223372036854775807) :
    Calls Try.prog 12 #[.agg #[.int .i64 k, .int .i64 q, .slice A l.length c]] w (RetOb 5 w (putR k q l)) := by
  unfold putR
  by_cases ho : recOk k q l.length
  · rw [if_pos ho]
    obtain ⟨o1, o2, o3, o4, o5⟩ := ho
    have := put_yes k.toNat q.toNat A l c w h (by omega) (by omega) (by omega) o5
    rw [Int.toNat_of_nonneg (by omega), Int.toNat_of_nonneg (by omega)] at this
    exact this
  · rw [if_neg ho]
    exact put_no k q A l.length c w hk1 hk2 hq1 hq2 hl ho

/-- the reference's, over whatever record -/
theorem rput_any (k q : Int) (A : Option Addr) (l : List UInt8) (c : Nat) (w : World) (h : Bs w A l) (hk1 : -9223372036854775808 ≤ k) (hk2 : k ≤ 9223372036854775807) (hq1 : -9223372036854775808 ≤ q) (hq2 : q ≤ 9223372036854775807)
    (hl : l.length ≤ 2147483648) :
    Calls Try.prog 13 #[.agg #[.int .i64 k, .int .i64 q, .slice A l.length c]] w (RetOb 5 w (putR k q l)) := by
  unfold putR
  by_cases ho : recOk k q l.length
  · rw [if_pos ho]
    obtain ⟨o1, o2, o3, o4, o5⟩ := ho
    have := rput_yes k.toNat q.toNat A l c w h (by omega) (by omega) (by omega) o5
    rw [Int.toNat_of_nonneg (by omega), Int.toNat_of_nonneg (by omega)] at this
    exact this
  · rw [if_neg ho]
    exact rput_no k q A l c w hk1 hk2 hq1 hq2 hl ho
end Go.Proofs.Ytddalnmoahpljaa

