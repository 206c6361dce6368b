/- The contract of bootjackref1.PutRecord where the record is one. -/
import Derived.Test.YtddalnmoahpljaaRefPut
namespace Go.Proofs.Ytddalnmoahpljaa
open Go.RowKit
set_option linter.unusedVariables false
set_option maxRecDepth 100000

theorem wrap_kind (x : UInt8) : IntKind.u8.wrap (x.toNat : Int) = (x.toNat : Int) := by
  have := x.toNat_lt
  rw [IntKind.wrap_u8]
  omega
theorem ob_kind (w : World) (x : UInt8) : Ob 5 (w.alloc (.cells #[.int .u8 (IntKind.u8.wrap (x.toNat : Int)), .int .u8 0] 5)) w.heap.size (.slice (some ⟨w.heap.size, 0, none⟩) 2 2) [x, 0] := by
  rw [wrap_kind]
  exact ob_lit2 w x 0
theorem ob_kindD (w : World) (x : UInt8) : Ob 5 (w.alloc (.cells #[.int .u8 (IntKind.u8.wrap (x.toNat : Int)), .int .u8 0] 5)).drew w.heap.size (.slice (some ⟨w.heap.size, 0, none⟩) 2 2) [x, 0] := ob_kind w x

theorem front_eq (x : UInt8) (Q : Nat) (l : List UInt8) {G : List UInt8} {T : Nat} (hG : (x :: 0 :: lowB 2 l.length) ++ lowB 4 Q ++ l = G) (hT : frontR.n8 l.length = T) : frontR x.toNat Q l = G ++ List.replicate T 0 := by
  subst hG hT
  unfold frontR
  simp

set_option maxRecDepth 100000 in
set_option maxHeartbeats 1000000 in
theorem rput_yes (K Q : Nat) (A : Option Addr) (l : List UInt8) (c : Nat) (w : World) (hbs : Bs w A l) (hK1 : 1 ≤ K) (hK2 : K ≤ 250) (hQ : Q ≤ 4294967295) (hl : l.length ≤ 512) :
    Calls Try.prog 13 #[.agg #[.int .i64 (K : Int), .int .i64 (Q : Int), .slice A l.length c]] w (RetOb 5 w (encR K Q l)) := by
  obtain ⟨x, rfl⟩ : ∃ x : UInt8, x.toNat = K := ⟨UInt8.ofNat K, by simp; omega⟩
  have hxk : UInt8.ofNat x.toNat = x := by simp
  have hcell := box_cells w (.int .i64 (x.toNat : Int)) (.int .i64 (Q : Int)) (.slice A l.length c) 24
  obtain ⟨w1, Hw1⟩ : ∃ w1, Hid (w.alloc (.cells #[.int .i64 (x.toNat : Int), .int .i64 (Q : Int), .slice A l.length c] 24) = w1) := ⟨_, rfl⟩
  have hb1 : Below w.heap.size w w1 := by rw [← Hw1.out]; exact (Below.refl _ _).alloc (Nat.le_refl _) _
  rw [Hw1.out] at hcell
  have L0 : ∀ W, Below w1.heap.size w1 W → W.cell? ⟨w.heap.size, 0, none⟩ = some (.int .i64 (x.toNat : Int)) := fun W hW => (hcell W hW).1
  have L1 : ∀ W, Below w1.heap.size w1 W → W.cell? ⟨w.heap.size, 1, none⟩ = some (.int .i64 (Q : Int)) := fun W hW => (hcell W hW).2.1
  have L2 : ∀ W, Below w1.heap.size w1 W → W.cell? ⟨w.heap.size, 2, none⟩ = some (.slice A l.length c) := fun W hW => (hcell W hW).2.2
  obtain ⟨c0, c1, c2⟩ := hcell w1 (Below.refl _ _)
  have HBS : Hid (∀ W, Below w1.heap.size w1 W → Bs W A l) := Lib.hid fun W hW => (hbs.below hb1).below hW
  have HLOW : Hid (∀ (n k : Nat) W, n < 18446744073709551616 → k ≤ 8 → Calls Try.prog 30 #[.int .u64 (n : Int), .int .i64 (k : Int)] W (RetOb 5 W (lowB k n))) := Lib.hid fun n k W hn hk => rlow_any n k W hn hk
  have HLOW2 : Hid (∀ W, Calls Try.prog 30 #[.int .u64 (IntKind.u64.wrap (l.length : Int)), .int .i64 2] W (RetOb 5 W (lowB 2 l.length))) := Lib.hid fun W => by
    rw [IntKind.wrap_u64, Int.emod_eq_of_lt (by omega) (by omega)]
    exact rlow_any l.length 2 W (by omega) (by omega)
  have HLOW4 : Hid (∀ W, Calls Try.prog 30 #[.int .u64 (IntKind.u64.wrap (Q : Int)), .int .i64 4] W (RetOb 5 W (lowB 4 Q))) := Lib.hid fun W => by
    rw [IntKind.wrap_u64, Int.emod_eq_of_lt (by omega) (by omega)]
    exact rlow_any Q 4 W (by omega) (by omega)
  have hS0 : Below w1.heap.size w1 w1 := Below.refl _ _
  have Hb1 := Lib.hid hb1
  have d1 : decide ((x.toNat : Int) < 1) = false := decide_eq_false (by omega)
  have d2 : decide ((250 : Int) < (x.toNat : Int)) = false := decide_eq_false (by omega)
  have d3 : decide ((Q : Int) < 0) = false := decide_eq_false (by omega)
  have d4 : decide ((4294967295 : Int) < (Q : Int)) = false := decide_eq_false (by omega)
  have d5 : decide ((512 : Int) < (l.length : Int)) = false := decide_eq_false (by omega)
  clear hcell hb1 hbs
  go_enter Try.func13, Try.ntmps13
  go_upto_region 3 with fail
  rw [Hw1.out]
  clear c0 c1 c2 d1 d2 d3 d4 d5
  go_cut [3] (PutCut w1 (x :: 0 :: lowB 2 l.length))
  case first =>
    have kS := hS0
    clear hS0 Hb1 HBS HLOW HLOW4
    go_region_held3 (fun W => Below w1.heap.size w1 W) (first | assumption | exact Below.drew (by assumption) | exact Below.alloc (by assumption) (Below.size (by assumption)) _) (first
      | (go_at_call 30; (with_reducible refine (HLOW2.out _).mono ?_); rintro e w4 ⟨v4, rfl, ho4, hb4⟩; obtain ⟨A4, c4, rfl, -, -⟩ := ho4.form; (try (have O2 := Lib.hid ((ob_kindD w1 x).below hb4))); have kS : Below w1.heap.size w1 w4 := below_on (by assumption) hb4; have O4 := Lib.hid ho4; clear ho4 hb4)
      | (refine step_append_bs rfl (.tmp 32) (.tmp 37) 22 rfl w1.heap.size 5 Try.underlying22 info5 _ [x, 0] rfl O2.out _ (lowB 2 l.length) _ _ rfl rfl O4.out.bs (by simp [lowB_len]) kS.size ?_; intro v6 w6 ho6 hgr6; have kS : Below w1.heap.size w1 w6 := kS.grown hgr6 kS.size (fun k hk => O2.out.fresh k (own_at hk)); have O6 := Lib.hid ho6; clear ho6 hgr6)
      | (refine step_append_bs rfl (.tmp 32) (.tmp 37) 22 rfl w1.heap.size 5 Try.underlying22 info5 _ [x, 0] rfl ((ob_kind w4 x).low kS.size) _ (lowB 2 l.length) _ _ rfl rfl (O4.out.bs.below ((Below.refl _ _).alloc (Nat.le_refl _) _)) (by simp [lowB_len]) (by have := kS.size; simp; omega) ?_; intro v6 w6 ho6 hgr6; have kS : Below w1.heap.size w1 w6 := (kS.alloc kS.size _).grown hgr6 (by have := kS.size; simp; omega) (fun k hk => ((ob_kind w4 x).low kS.size).fresh k (own_at hk)); have O6 := Lib.hid ho6; clear ho6 hgr6))
    all_goals
      go_wp2_with fail
      go_meet
      exact ⟨O6.out, kS⟩
  case rest =>
    obtain ⟨ho3, hb3⟩ := hcut
    obtain ⟨A3, c3, rfl, -, -⟩ := ho3.form
    have O3 := Lib.hid ho3
    clear hS0 HLOW HLOW2 ho3
    go_upto_region 4 with fail
    go_cut [3] (PutCut w1 ((x :: 0 :: lowB 2 l.length) ++ lowB 4 Q ++ l))
    case first =>
      have kS := hb3
      clear Hb1
      go_region_held3 (fun W => Below w1.heap.size w1 W) (first | assumption | exact Below.drew (by assumption) | exact Below.alloc (by assumption) (Below.size (by assumption)) _) (first
        | (go_at_call 30; (with_reducible refine (HLOW4.out _).mono ?_); rintro e w4 ⟨v4, rfl, ho4, hb4⟩; obtain ⟨A4, c4, rfl, -, -⟩ := ho4.form; have O3 := Lib.hid (Ob.below (w := wc.drew) O3.out hb4); have kS : Below w1.heap.size w1 w4 := below_on (by assumption) hb4; have O4 := Lib.hid ho4; clear ho4 hb4)
        | (refine step_append_bs rfl (.tmp 39) (.tmp 43) 22 rfl w1.heap.size 5 Try.underlying22 info5 _ (x :: 0 :: lowB 2 l.length) rfl O3.out _ (lowB 4 Q) _ _ rfl rfl O4.out.bs (by simp [lowB_len]) kS.size ?_; intro v5 w5 ho5 hgr5; have kS : Below w1.heap.size w1 w5 := kS.grown hgr5 kS.size (fun k hk => O3.out.fresh k (own_at hk)); obtain ⟨A5, c5, rfl, -, -⟩ := ho5.form; have O5 := Lib.hid ho5; clear ho5 hgr5)
        | (refine step_append_bs rfl (.tmp 44) (.tmp 46) 22 rfl w1.heap.size 5 Try.underlying22 info5 _ ((x :: 0 :: lowB 2 l.length) ++ lowB 4 Q) rfl O5.out A l l.length c rfl rfl (HBS.out _ kS) (by simp [lowB_len]; omega) kS.size ?_; intro v6 w6 ho6 hgr6; have kS : Below w1.heap.size w1 w6 := kS.grown hgr6 kS.size (fun k hk => O5.out.fresh k (own_at hk)); have O6 := Lib.hid ho6; clear ho6 hgr6))
      all_goals
        go_wp2_with fail
        go_meet
        exact ⟨O6.out, kS⟩
    case rest =>
      obtain ⟨ho6, hb6⟩ := hcut
      obtain ⟨G, hG⟩ : ∃ G, (x :: 0 :: lowB 2 l.length) ++ lowB 4 Q ++ l = G := ⟨_, rfl⟩
      obtain ⟨T, hT⟩ : ∃ T, frontR.n8 l.length = T := ⟨_, rfl⟩
      obtain ⟨m, hm⟩ : ∃ m, 8 + l.length = m := ⟨_, rfl⟩
      have hGm : G.length = m := by rw [← hG, ← hm]; simp [lowB_len]; omega
      have HF := Lib.hid (front_eq x Q l hG hT)
      rw [hG] at ho6
      have hT1 : T ≤ 7 ∧ (m + T) % 8 = 0 := by rw [← hT]; unfold frontR.n8; omega
      have HG := Lib.hid hGm
      have hm2 : m ≤ 520 := by omega
      have hm3 : 0 < m := by omega
      clear hG hT hGm hm O3 HLOW4
      go_wp2_with fail
      go_loopw [3] (fun v wr => ∃ k : Nat, k ≤ T ∧ Ob 5 wr w1.heap.size v (G ++ List.replicate k 0) ∧ Below w1.heap.size w1 wr) (fun v _ => m + T - (match v with | .slice _ n _ => n | _ => 0))
      case atStart => exact ⟨0, by omega, by simpa using ho6, hb6⟩
      case round =>
        obtain ⟨k, hk, ho, hb⟩ := hrel
        have hn : (G ++ List.replicate k 0).length = m + k := by simp [HG.out]
        obtain ⟨g, c6, rfl, hbs6, -, hg⟩ := ho.formN hn (by omega)
        have O := Lib.hid ho
        by_cases hlt : k < T
        · have hne : (((m + k : Nat) : Int) % 8 != 0) = true := by simp; omega
          have hap : Hid (G ++ List.replicate k 0 ++ [0] = G ++ List.replicate (k + 1) (0 : UInt8)) := Lib.hid (by rw [List.replicate_succ']; simp)
          have Hn := Lib.hid hn
          clear ho hn
          go_wp2_with (at_builtin; refine wpList_append_bs rfl (.tmp 52) (.tmp 53) 22 rfl w1.heap.size 5 Try.underlying22 info5 _ (G ++ List.replicate k 0) rfl (O.out.below ((Below.refl _ _).alloc (Nat.le_refl _) _)) _ [0] 1 1 rfl rfl (bs_lit1 _ 5 0) (by rw [Hn.out]; simp; omega) (by have := hb.size; simp; omega) ?_; intro v7 w7 ho7 hgr7; rw [hap.out] at ho7; have hb7 : Below w1.heap.size w1 w7 := (hb.alloc hb.size _).grown hgr7 (by have := hb.size; simp; omega) (fun k hk => O.out.fresh k (own_at hk)); obtain ⟨g7, c7, rfl, -, -, -⟩ := ho7.formN (n := m + (k + 1)) (by simp [HG.out]) (by omega))
          go_roundw
          case rel => exact ⟨k + 1, by omega, ho7, hb7⟩
          case measure => simp; omega
        · obtain rfl : k = T := by omega
          have hz : (((m + k : Nat) : Int) % 8 != 0) = false := by simp; omega
          rw [← HF.out] at hbs6 hn
          have O' := O
          rw [← HF.out] at O'
          clear O ho
          have HE : Hid (frontR x.toNat Q l ++ lowB 4 (crc (frontR x.toNat Q l)) ++ lowB 4 (4294967295 - crc (frontR x.toNat Q l)) = encR x.toNat Q l) := Lib.hid (by unfold encR tailR; simp)
          generalize frontR x.toNat Q l = F at *
          have HSUM : Hid (Calls Try.prog 18 #[.slice (some ⟨g, 0, none⟩) (m + k) c6] wr fun e w' => e = .returned (.int .u32 (crc F : Nat)) ∧ ∃ n, w' = wr.drewN n) := Lib.hid (by
            have := rsum_any (some ⟨g, 0, none⟩) F c6 wr hbs6 (by omega)
            rw [hn] at this
            exact this)
          have hsl := crc_lt F
          generalize crc F = s at *
          obtain ⟨s2, hs2⟩ : ∃ s2, 4294967295 - s = s2 := ⟨_, rfl⟩
          rw [hs2] at HE
          have hs2l : s2 < 4294967296 := by omega
          have hx : bits .xor .u32 IntKind.u32.max (s : Int) = (s2 : Int) := by
            rw [← hs2, comp_xor hsl, show IntKind.u32.max = 4294967295 by decide]
            exact u32_xor_nat 4294967295 s (by omega) hsl
          have HL1 : Hid (∀ W, Calls Try.prog 30 #[.int .u64 (s : Int), .int .i64 4] W (RetOb 5 W (lowB 4 s))) := Lib.hid fun W => rlow_any s 4 W (by omega) (by omega)
          have HL2 : Hid (∀ W, Calls Try.prog 30 #[.int .u64 (IntKind.u64.wrap (s2 : Int)), .int .i64 4] W (RetOb 5 W (lowB 4 s2))) := Lib.hid fun W => by
            rw [IntKind.wrap_u64, Int.emod_eq_of_lt (by omega) (by omega)]
            exact rlow_any s2 4 W (by omega) (by omega)
          have Hn := Lib.hid hn
          clear hn hs2 hbs6 HF HG
          go_wp2_with fail
          with_reducible refine HSUM.out.mono ?_
          rintro e w8 ⟨rfl, nd, rfl⟩
          go_wp2_with fail
          with_reducible refine (HL1.out _).mono ?_
          rintro e w9 ⟨v9, rfl, ho9, hb9⟩
          obtain ⟨A9, c9, rfl, -, -⟩ := ho9.form
          have O9 := Lib.hid ho9
          have OF := Lib.hid ((O'.out.drewN nd).below hb9)
          have kb9 : Below w1.heap.size w1 w9 := below_on (below_drewN' hb nd) hb9
          clear ho9 hb9 hb O'
          go_wp2_with (at_builtin; refine wpList_append_bs rfl (.tmp 57) (.tmp 60) 22 rfl w1.heap.size 5 Try.underlying22 info5 _ F rfl OF.out _ (lowB 4 s) _ _ rfl rfl O9.out.bs (by rw [Hn.out]; simp [lowB_len]; omega) kb9.size ?_; intro v10 w10 ho10 hgr10; have kb10 : Below w1.heap.size w1 w10 := kb9.grown hgr10 kb9.size (fun k hk => OF.out.fresh k (own_at hk)); have O10 := Lib.hid ho10; clear ho10 hgr10)
          obtain ⟨g10, c10, rfl, -, -, -⟩ := O10.out.formN (n := m + k + 4) (by have := Hn.out; simp [lowB_len, this]) (by omega)
          with_reducible refine (HL2.out _).mono ?_
          rintro e w11 ⟨v11, rfl, ho11, hb11⟩
          obtain ⟨A11, c11, rfl, -, -⟩ := ho11.form
          have O11 := Lib.hid ho11
          have OG := Lib.hid (O10.out.below hb11)
          have kb11 : Below w1.heap.size w1 w11 := below_on kb10 hb11
          clear ho11 hb11
          go_wp2_with (at_builtin; (refine wpList_append_bs rfl (.tmp 61) (.tmp 65) 22 rfl w1.heap.size 5 Try.underlying22 info5 _ (F ++ lowB 4 s) rfl OG.out _ (lowB 4 s2) _ _ rfl rfl O11.out.bs (by have := Hn.out; simp [lowB_len, this]; omega) kb11.size ?_; intro v12 w12 ho12 hgr12; have kb12 : Below w1.heap.size w1 w12 := kb11.grown hgr12 kb11.size (fun k hk => OG.out.fresh k (own_at hk)); rw [HE.out] at ho12; have O12 := Lib.hid ho12; clear ho12 hgr12))
          go_ret
          exact ⟨_, rfl, O12.out.low Hb1.out.size, below_on Hb1.out kb12⟩
end Go.Proofs.Ytddalnmoahpljaa

