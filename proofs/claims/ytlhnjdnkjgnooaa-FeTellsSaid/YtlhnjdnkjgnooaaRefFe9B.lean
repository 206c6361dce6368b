/- The contract of the reference's norm. Written by wip/tools/mk_norm9.py. -/
import Derived.Test.YtlhnjdnkjgnooaaRefFe9A
namespace Go.Proofs.Ytlhnjdnkjgnooaa
open Go.RowKit
set_option linter.unusedVariables false
set_option maxRecDepth 100000

set_option maxHeartbeats 6400000 in
theorem rnormL_any (l : List Int) (hl : l.length = 16) (hb : Bd 70368744177664 l) (hp : ∀ i, i < 16 → 0 ≤ gI (fin4 l) i ∧ gI (fin4 l) i < 65536) (w : World) :
    Calls Try.prog 31 #[.agg (tabI l)] w fun e w' => e = .returned (.agg (tabI (normL l))) ∧ Below w.heap.size w w' := by
  have hz := fun u => zero_fe u
  obtain ⟨z0, hz0e⟩ : ∃ t, tabI (List.replicate 16 0) = t := ⟨_, rfl⟩
  rw [hz0e] at hz
  have HZL : Hid (z0.size = 16) := Lib.hid (by rw [← hz0e, tabI_size]; simp)
  have HPR : Hid (∀ W : World, Calls Try.prog 34 #[] W fun e w' => e = .returned (.agg (tabI primeL)) ∧ Below W.heap.size W w') := Lib.hid rprime9_any
  have HOK : Hid (∀ k, (passN l k).length = 16 ∧ Bd 70368744177664 (passN l k)) := Lib.hid (passN_ok rfl hb hl)
  have HPF := Lib.hid hp
  obtain ⟨RL, hRL⟩ : ∃ R, tabI l = R := ⟨_, rfl⟩
  have HI : Hid (NormI w ((w.alloc (.cells RL 29)).alloc (.cells z0 29)) w.heap.size z0 (tabI (passN l 0))) := Lib.hid (by
    rw [show passN l 0 = l from rfl, hRL]
    exact ⟨heap_alloc2_old _ _ _, heap_alloc2_new _ _ _, ((Below.refl w.heap.size w).alloc (Nat.le_refl _) _).alloc (by simp) _⟩)
  rw [hRL]
  clear hz0e hb hl hp hRL
  go_enter Try.func31, Try.ntmps31
  go_wp2_with fail
  obtain ⟨W1, hW1⟩ : ∃ W, (w.alloc (.cells RL 29)).alloc (.cells z0 29) = W := ⟨_, rfl⟩
  obtain ⟨g, hg⟩ : ∃ g, w.heap.size = g := ⟨_, rfl⟩
  rw [hW1, hg] at HI
  rw [hW1, hg]
  have HG := Lib.hid hg
  clear hW1 hg
  go_loopw [3] (fun i wr => ∃ kk : Nat, kk ≤ 4 ∧ i = .int .i64 (kk : Int) ∧ Hid (NormI w wr g z0 (tabI (passN l kk)))) (fun i _ => 4 - (intOf i).toNat)
  case atStart => exact ⟨0, by omega, rfl, HI⟩
  case round =>
    clear HI
    obtain ⟨kk, hkk, rfl, HI⟩ := hrel
    by_cases hltk : kk < 4
    · obtain ⟨L, hL⟩ : ∃ L, passN l kk = L := ⟨_, rfl⟩
      have hok := HOK.out kk
      rw [hL] at hok HI
      have HLL := Lib.hid hok.1
      have HLB := Lib.hid hok.2
      have HLE := Lib.hid hL
      have dk : decide ((kk : Int) < 4) = true := decide_eq_true (by omega)
      clear hok hL
      go_wp2_with fail
      go_loopw [4] (fun i wr => ∃ k : Nat, k ≤ 15 ∧ i = .int .i64 (k : Int) ∧ Hid (NormI w wr g z0 (tabI (carryTo L k)))) (fun i _ => 15 - (intOf i).toNat)
      case atStart => exact ⟨0, by omega, rfl, HI⟩
      case round =>
        clear HI
        obtain ⟨k, hk, rfl, HI⟩ := hrel
        by_cases hlt : k < 15
        · have hml : (carryTo L k).length = 16 := by rw [carryTo_len, HLL.out]
          have hst := carry_st (l := L) (B := 70368744177664) (by omega) HLB.out k (by rw [HLL.out]; omega)
          obtain ⟨m, hm⟩ : ∃ m, carryTo L k = m := ⟨_, rfl⟩
          obtain ⟨m2, hm2⟩ : ∃ m2, m.set (k + 1) (gI m (k + 1) + gI m k / 65536) = m2 := ⟨_, rfl⟩
          have hnx : carryTo L (k + 1) = m2.set k (gI m k % 65536) := by rw [carryTo, hm, ← hm2]; rfl
          have hg2 : gI m2 k = gI m k := by rw [← hm2, gI_set _ _ _ _ (by rw [← hm, hml]; omega), if_neg (by omega)]
          have hxb := hst.at_
          have hyb : -70368744177664 ≤ gI m (k + 1) ∧ gI m (k + 1) ≤ 70368744177664 := by
            have h1 := hst.high (k + 1) (by omega)
            rw [hm] at h1
            rw [h1]
            exact HLB.out (k + 1)
          rw [hm] at hml hxb HI
          have HNX := Lib.hid hnx
          have hl2 : m2.length = 16 := by rw [← hm2, List.length_set]; exact hml
          have cx : wr.cell? ⟨g, k, none⟩ = some (.int .i64 (gI m k)) := by rw [cell_of_row _ _ _ _ _ _ HI.out.t, tabI_get _ _ (by omega)]
          have cy : wr.cell? ⟨g, k + 1, none⟩ = some (.int .i64 (gI m (k + 1))) := by rw [cell_of_row _ _ _ _ _ _ HI.out.t, tabI_get _ _ (by omega)]
          have fx : wr.frozen? ⟨g, k + 1, none⟩ = false := by have := HI.out.t; simp [World.frozen?, this]
          obtain ⟨x, hx⟩ : ∃ x, gI m k = x := ⟨_, rfl⟩
          obtain ⟨y, hy⟩ : ∃ y, gI m (k + 1) = y := ⟨_, rfl⟩
          obtain ⟨q, hq⟩ : ∃ q, x / 65536 = q := ⟨_, rfl⟩
          obtain ⟨r, hr⟩ : ∃ r, x % 65536 = r := ⟨_, rfl⟩
          obtain ⟨s, hs⟩ : ∃ s, y + q = s := ⟨_, rfl⟩
          rw [hx] at hxb cx hg2
          rw [hy] at hyb cy
          rw [hx, hr] at hnx
          rw [hx, hy, hq, hs] at hm2
          rw [hx, hr] at HNX
          have f1 : IntKind.i64.wrap s = s := by rw [IntKind.wrap_i64]; omega
          have f2 : bits .and .i64 x 65535 = r := by rw [i64_and65535, hr]
          have f3 : IntKind.i64.wrap ((k : Int) + 1) = (k : Int) + 1 := by rw [IntKind.wrap_i64]; omega
          have f4 : ((k + 1 : Nat) : Int) = (k : Int) + 1 := by omega
          have p1 : 0 ≤ (k : Int) := by omega
          have p2 : (k : Int) < 15 := by omega
          have p3 : 0 ≤ (k : Int) + 1 := by omega
          have p4 : (k : Int) + 1 < 16 := by omega
          have p5 : (k : Int) < 16 := by omega
          have HI2 : Hid (NormI w (wr.drew.setCell ⟨g, k + 1, none⟩ (.int .i64 s)) g z0 (tabI m2)) := Lib.hid (by rw [← hm2, ← tabI_set]; exact (HI.out.drew).cell (k + 1) _)
          have c2 : (wr.setCell ⟨g, k + 1, none⟩ (.int .i64 s)).drew.cell? ⟨g, k, none⟩ = some (.int .i64 x) := by rw [show (wr.setCell ⟨g, k + 1, none⟩ (.int .i64 s)).drew = wr.drew.setCell ⟨g, k + 1, none⟩ (.int .i64 s) from rfl, cell_of_row _ _ _ _ _ _ HI2.out.t, tabI_get _ _ (by omega), hg2]
          have z2 : (wr.setCell ⟨g, k + 1, none⟩ (.int .i64 s)).drew.frozen? ⟨g, k, none⟩ = false := by
            have := HI2.out.t
            show (wr.drew.setCell ⟨g, k + 1, none⟩ (.int .i64 s)).frozen? ⟨g, k, none⟩ = false
            simp [World.frozen?, this]
          have HI3 : Hid (NormI w ((wr.drew.setCell ⟨g, k + 1, none⟩ (.int .i64 s)).setCell ⟨g, k, none⟩ (.int .i64 r)) g z0 (tabI (m2.set k r))) := Lib.hid (by rw [← tabI_set]; exact HI2.out.cell k _)
          clear hst hm hm2 hnx hg2 hml hl2 hx hy hr HI HI2 f4
          go_wp2_with fail
          refine wp_region_still_tail 12 (by kernel_rfl) (by kernel_rfl) ?_
          simp only [List.take_succ_cons, List.take_zero, List.drop_succ_cons, List.drop_zero]
          iterate 12 still_step
          refine wpStill_nil ?_
          go_wp2_with fail
          go_roundw
          case rel => exact ⟨k + 1, by omega, by go_num, by rw [HNX.out]; exact HI3⟩
          case measure => simp [intOf]; omega
        · have hk15 : k = 15 := by omega
          have dk15 : decide ((k : Int) < 15) = false := decide_eq_false (by omega)
          rw [hk15] at HI
          clear hk15
          have hml : (carryTo L 15).length = 16 := by rw [carryTo_len, HLL.out]
          have hst := carry_st (l := L) (B := 70368744177664) (by omega) HLB.out 15 (by rw [HLL.out]; omega)
          obtain ⟨m, hm⟩ : ∃ m, carryTo L 15 = m := ⟨_, rfl⟩
          have hnx : passL L = (m.set 0 (gI m 0 + 19 * (gI m 15 / 32768))).set 15 (gI m 15 % 32768) := by rw [passL, hm]; rfl
          have hz0 := hst.low 0 (by omega)
          have hx0 := hst.at_
          rw [hm] at hml hz0 hx0 HI
          have c0 : wr.cell? ⟨g, 0, none⟩ = some (.int .i64 (gI m 0)) := by rw [cell_of_row _ _ _ _ _ _ HI.out.t, tabI_get _ _ (by omega)]
          have c15 : wr.cell? ⟨g, 15, none⟩ = some (.int .i64 (gI m 15)) := by rw [cell_of_row _ _ _ _ _ _ HI.out.t, tabI_get _ _ (by omega)]
          have f0 : wr.frozen? ⟨g, 0, none⟩ = false := by have := HI.out.t; simp [World.frozen?, this]
          obtain ⟨m2, hm2⟩ : ∃ m2, m.set 0 (gI m 0 + 19 * (gI m 15 / 32768)) = m2 := ⟨_, rfl⟩
          have hg2 : gI m2 15 = gI m 15 := by rw [← hm2, gI_set _ _ _ _ (by omega), if_neg (by omega)]
          have hl2 : m2.length = 16 := by rw [← hm2, List.length_set]; exact hml
          rw [hm2] at hnx
          obtain ⟨x, hx⟩ : ∃ x, gI m 15 = x := ⟨_, rfl⟩
          obtain ⟨y, hy⟩ : ∃ y, gI m 0 = y := ⟨_, rfl⟩
          rw [hx] at hx0 c15 hg2 hnx hm2
          rw [hy] at hz0 c0 hm2
          obtain ⟨q, hq⟩ : ∃ q, x / 32768 = q := ⟨_, rfl⟩
          obtain ⟨r, hr⟩ : ∃ r, x % 32768 = r := ⟨_, rfl⟩
          obtain ⟨v, hv⟩ : ∃ v, 19 * q = v := ⟨_, rfl⟩
          obtain ⟨s, hs⟩ : ∃ s, y + v = s := ⟨_, rfl⟩
          rw [hq, hv, hs] at hm2
          rw [hr] at hnx
          have f1 : IntKind.i64.wrap v = v := by rw [IntKind.wrap_i64]; omega
          have f2 : IntKind.i64.wrap s = s := by rw [IntKind.wrap_i64]; omega
          have f3 : bits .and .i64 x 32767 = r := by rw [i64_and32767, hr]
          have HI2 : Hid (NormI w (wr.setCell ⟨g, 0, none⟩ (.int .i64 s)) g z0 (tabI m2)) := Lib.hid (by rw [← hm2, ← tabI_set]; exact HI.out.cell 0 _)
          have d15 : (wr.setCell ⟨g, 0, none⟩ (.int .i64 s)).cell? ⟨g, 15, none⟩ = some (.int .i64 x) := by rw [cell_of_row _ _ _ _ _ _ HI2.out.t, tabI_get _ _ (by omega), hg2]
          have e15 : (wr.setCell ⟨g, 0, none⟩ (.int .i64 s)).frozen? ⟨g, 15, none⟩ = false := by have := HI2.out.t; simp [World.frozen?, this]
          have HI3 : Hid (NormI w ((wr.setCell ⟨g, 0, none⟩ (.int .i64 s)).setCell ⟨g, 15, none⟩ (.int .i64 r)) g z0 (tabI (m2.set 15 r))) := Lib.hid (by rw [← tabI_set]; exact HI2.out.cell 15 _)
          have HNX : Hid (passN l (kk + 1) = m2.set 15 r) := Lib.hid (by rw [passN, HLE.out, hnx])
          clear hst hm hm2 hnx hg2 hml hl2 hx hy hr HI HI2 HLL HLB HLE
          go_wp2_with fail
          go_roundw
          case rel => exact ⟨kk + 1, by omega, by go_num, by rw [HNX.out]; exact HI3⟩
          case measure => simp [intOf]; omega
    · have hkk4 : kk = 4 := by omega
      have dk : decide ((kk : Int) < 4) = false := decide_eq_false (by omega)
      rw [hkk4] at HI
      clear hkk4
      obtain ⟨L4, hL4⟩ : ∃ L, passN l 4 = L := ⟨_, rfl⟩
      have hok := HOK.out 4
      rw [hL4] at hok HI
      have HL4L := Lib.hid hok.1
      have HL4B := Lib.hid hok.2
      have HL4E := Lib.hid hL4
      clear hok hL4
      go_wp2_with fail
      go_loopw [5] (fun i wr => ∃ k : Nat, k ≤ 15 ∧ i = .int .i64 (k : Int) ∧ Hid (NormI w wr g z0 (tabI (carryTo L4 k)))) (fun i _ => 15 - (intOf i).toNat)
      case atStart => exact ⟨0, by omega, rfl, HI⟩
      case round =>
        clear HI
        obtain ⟨k, hk, rfl, HI⟩ := hrel
        by_cases hlt : k < 15
        · have hml : (carryTo L4 k).length = 16 := by rw [carryTo_len, HL4L.out]
          have hst := carry_st (l := L4) (B := 70368744177664) (by omega) HL4B.out k (by rw [HL4L.out]; omega)
          obtain ⟨m, hm⟩ : ∃ m, carryTo L4 k = m := ⟨_, rfl⟩
          obtain ⟨m2, hm2⟩ : ∃ m2, m.set (k + 1) (gI m (k + 1) + gI m k / 65536) = m2 := ⟨_, rfl⟩
          have hnx : carryTo L4 (k + 1) = m2.set k (gI m k % 65536) := by rw [carryTo, hm, ← hm2]; rfl
          have hg2 : gI m2 k = gI m k := by rw [← hm2, gI_set _ _ _ _ (by rw [← hm, hml]; omega), if_neg (by omega)]
          have hxb := hst.at_
          have hyb : -70368744177664 ≤ gI m (k + 1) ∧ gI m (k + 1) ≤ 70368744177664 := by
            have h1 := hst.high (k + 1) (by omega)
            rw [hm] at h1
            rw [h1]
            exact HL4B.out (k + 1)
          rw [hm] at hml hxb HI
          have HNX := Lib.hid hnx
          have hl2 : m2.length = 16 := by rw [← hm2, List.length_set]; exact hml
          have cx : wr.cell? ⟨g, k, none⟩ = some (.int .i64 (gI m k)) := by rw [cell_of_row _ _ _ _ _ _ HI.out.t, tabI_get _ _ (by omega)]
          have cy : wr.cell? ⟨g, k + 1, none⟩ = some (.int .i64 (gI m (k + 1))) := by rw [cell_of_row _ _ _ _ _ _ HI.out.t, tabI_get _ _ (by omega)]
          have fx : wr.frozen? ⟨g, k + 1, none⟩ = false := by have := HI.out.t; simp [World.frozen?, this]
          obtain ⟨x, hx⟩ : ∃ x, gI m k = x := ⟨_, rfl⟩
          obtain ⟨y, hy⟩ : ∃ y, gI m (k + 1) = y := ⟨_, rfl⟩
          obtain ⟨q, hq⟩ : ∃ q, x / 65536 = q := ⟨_, rfl⟩
          obtain ⟨r, hr⟩ : ∃ r, x % 65536 = r := ⟨_, rfl⟩
          obtain ⟨s, hs⟩ : ∃ s, y + q = s := ⟨_, rfl⟩
          rw [hx] at hxb cx hg2
          rw [hy] at hyb cy
          rw [hx, hr] at hnx
          rw [hx, hy, hq, hs] at hm2
          rw [hx, hr] at HNX
          have f1 : IntKind.i64.wrap s = s := by rw [IntKind.wrap_i64]; omega
          have f2 : bits .and .i64 x 65535 = r := by rw [i64_and65535, hr]
          have f3 : IntKind.i64.wrap ((k : Int) + 1) = (k : Int) + 1 := by rw [IntKind.wrap_i64]; omega
          have f4 : ((k + 1 : Nat) : Int) = (k : Int) + 1 := by omega
          have p1 : 0 ≤ (k : Int) := by omega
          have p2 : (k : Int) < 15 := by omega
          have p3 : 0 ≤ (k : Int) + 1 := by omega
          have p4 : (k : Int) + 1 < 16 := by omega
          have p5 : (k : Int) < 16 := by omega
          have HI2 : Hid (NormI w (wr.drew.setCell ⟨g, k + 1, none⟩ (.int .i64 s)) g z0 (tabI m2)) := Lib.hid (by rw [← hm2, ← tabI_set]; exact (HI.out.drew).cell (k + 1) _)
          have c2 : (wr.setCell ⟨g, k + 1, none⟩ (.int .i64 s)).drew.cell? ⟨g, k, none⟩ = some (.int .i64 x) := by rw [show (wr.setCell ⟨g, k + 1, none⟩ (.int .i64 s)).drew = wr.drew.setCell ⟨g, k + 1, none⟩ (.int .i64 s) from rfl, cell_of_row _ _ _ _ _ _ HI2.out.t, tabI_get _ _ (by omega), hg2]
          have z2 : (wr.setCell ⟨g, k + 1, none⟩ (.int .i64 s)).drew.frozen? ⟨g, k, none⟩ = false := by
            have := HI2.out.t
            show (wr.drew.setCell ⟨g, k + 1, none⟩ (.int .i64 s)).frozen? ⟨g, k, none⟩ = false
            simp [World.frozen?, this]
          have HI3 : Hid (NormI w ((wr.drew.setCell ⟨g, k + 1, none⟩ (.int .i64 s)).setCell ⟨g, k, none⟩ (.int .i64 r)) g z0 (tabI (m2.set k r))) := Lib.hid (by rw [← tabI_set]; exact HI2.out.cell k _)
          clear hst hm hm2 hnx hg2 hml hl2 hx hy hr HI HI2 f4
          go_wp2_with fail
          refine wp_region_still_tail 12 (by kernel_rfl) (by kernel_rfl) ?_
          simp only [List.take_succ_cons, List.take_zero, List.drop_succ_cons, List.drop_zero]
          iterate 12 still_step
          refine wpStill_nil ?_
          go_wp2_with fail
          go_roundw
          case rel => exact ⟨k + 1, by omega, by go_num, by rw [HNX.out]; exact HI3⟩
          case measure => simp [intOf]; omega
        · have hk15 : k = 15 := by omega
          have dk15 : decide ((k : Int) < 15) = false := decide_eq_false (by omega)
          rw [hk15] at HI
          clear hk15
          obtain ⟨F, hF⟩ : ∃ F, carryTo L4 15 = F := ⟨_, rfl⟩
          rw [hF] at HI
          have hFe : fin4 l = F := by unfold fin4; rw [HL4E.out, hF]
          have hFl : F.length = 16 := by rw [← hF, carryTo_len, HL4L.out]
          have hFp := HPF.out
          rw [hFe] at hFp
          have HBW : Hid (∀ W : World, Calls Try.prog 38 #[.agg (tabI F), .agg (tabI primeL)] W fun e w' => e = .returned (.bool (decide (vL F < pP))) ∧ Below W.heap.size W w') := Lib.hid fun W => by
            have h := rbelow9_any F primeL hFl rfl hFp primeL_pr W
            rwa [primeL_val] at h
          obtain ⟨RF, hRF⟩ : ∃ R, tabI F = R := ⟨_, rfl⟩
          have iF : (Try.prog.info? 29).map (·.size) = some RF.size := by rw [← hRF]; exact info_fe hFl
          have HRF := Lib.hid hRF
          have HFL := Lib.hid hFl
          have HFB : Hid (∀ i, i < 16 → 0 ≤ gI F i ∧ gI F i < 65536) := Lib.hid hFp
          have HLQ : Hid (normL l = if vL F < pP then F else carryTo (subL F primeL) 15) := Lib.hid (by unfold normL; rw [hFe])
          rw [hRF] at HI HBW
          obtain ⟨dd, hdd⟩ : ∃ b, decide (vL F < pP) = b := ⟨_, rfl⟩
          rw [hdd] at HBW
          clear hF hFe hFl hFp hRF HOK HPF HL4E HL4L HL4B
          cases dd with
          | true =>
            go_upto_region 16 with fail
            refine wp_region_noPanic ?_
            refine wp_region_held_drew (S := fun W => NormI w W g z0 RF) (by kernel_rfl) (by exact HI.out.drew) (fun hS => ?_)
            refine' take_at 0 rfl (by kernel_rfl) (by kernel_rfl) (by kernel_rfl) (fun _ _ _ h => h) (by rfl) hS ?_ ?_ ?_
            rotate_left 2
            · intro W hSW; exact run_loadR rfl rfl hSW.t Try.underlying29 rfl iF
            · simp only [List.set_cons_succ, List.set_cons_zero]; rfl
            refine call_at 1 rfl (by kernel_rfl) (by rfl) (fun K hK => ?_)
            go_simp
            with_reducible refine (HPR.out _).mono ?_
            rintro e v1 ⟨rfl, hb1⟩
            have kb1 := hS.call hb1
            clear hS hb1
            refine hK.out _ _ (by exact kb1) (fun hS => ?_)
            clear hK K
            refine call_at 2 rfl (by kernel_rfl) (by rfl) (fun K hK => ?_)
            go_simp
            with_reducible refine (HBW.out _).mono ?_
            rintro e v2 ⟨rfl, hb2⟩
            have kb2 := hS.call hb2
            clear hS hb2
            refine hK.out _ _ (by exact kb2) (fun hS => ?_)
            clear hK K
            refine' take_at 3 rfl (by kernel_rfl) (by kernel_rfl) (by kernel_rfl) (fun _ _ _ h => h) (by rfl) hS ?_ ?_ ?_
            rotate_left 2
            · intro W hSW; go_simp; try with_reducible rfl
            · simp only [List.set_cons_succ, List.set_cons_zero]; rfl
            refine wpAnyH_done (by kernel_rfl) ?_ _
            refine NoPanic.normal ?_
            have HLT : Hid (vL F < pP) := Lib.hid (of_decide_eq_true hdd)
            have HI := Lib.hid kb2
            rw [← HRF.out] at HI
            clear hdd kb2 hS
            have h1 := HI.out.t
            have h0 := HI.out.z
            have hfl : (F).length = 16 := HFL.out
            have s1 : (Try.prog.info? 29).map (·.size) = some (tabI (F)).size := info_fe hfl
            have sz : z0.size = (tabI (F)).size := by rw [HZL.out, tabI_size, hfl]
            have o1 := tabI_one (F)
            have HBF := Lib.hid (show Below w.heap.size w (v2.setRow (g + 1) (tabI (F))) by rw [HG.out]; exact below_row HI.out.below (by omega))
            obtain ⟨t1, ht1⟩ : ∃ t, tabI (F) = t := ⟨_, rfl⟩
            rw [ht1] at h1 s1 sz o1 HBF
            have HT1 : Hid (tabI (normL l) = t1) := Lib.hid (by rw [← ht1]; rw [HLQ.out, if_pos HLT.out])
            clear ht1 HI hfl
            go_upto_region 27 with fail
            go_wp2_with (first
              | (refine wpList_load_row rfl 29 (.tmp 1) rfl g rfl 29 t1 (0, 0) _ h1 Try.underlying29 rfl s1 ?_)
              | (refine wpList_store_row rfl 29 (.tmp 2) (.tmp 109) rfl (g + 1) t1 rfl rfl 29 z0 h0 s1 sz o1 ?_))
            (try simp only [Exit.inBlock, Exit.then])
            refine bodyPost_ret (results_cell_row rfl _ _ (g + 1) _ t1 _ _ rfl (setRow_heap _ _ _ _ _ _ h0) Try.underlying29 rfl s1) rfl ?_
            exact ⟨by rw [HT1.out], HBF.out⟩
          | false =>
            go_upto_region 16 with fail
            refine wp_region_noPanic ?_
            refine wp_region_held_drew (S := fun W => NormI w W g z0 RF) (by kernel_rfl) (by exact HI.out.drew) (fun hS => ?_)
            refine' take_at 0 rfl (by kernel_rfl) (by kernel_rfl) (by kernel_rfl) (fun _ _ _ h => h) (by rfl) hS ?_ ?_ ?_
            rotate_left 2
            · intro W hSW; exact run_loadR rfl rfl hSW.t Try.underlying29 rfl iF
            · simp only [List.set_cons_succ, List.set_cons_zero]; rfl
            refine call_at 1 rfl (by kernel_rfl) (by rfl) (fun K hK => ?_)
            go_simp
            with_reducible refine (HPR.out _).mono ?_
            rintro e v1 ⟨rfl, hb1⟩
            have kb1 := hS.call hb1
            clear hS hb1
            refine hK.out _ _ (by exact kb1) (fun hS => ?_)
            clear hK K
            refine call_at 2 rfl (by kernel_rfl) (by rfl) (fun K hK => ?_)
            go_simp
            with_reducible refine (HBW.out _).mono ?_
            rintro e v2 ⟨rfl, hb2⟩
            have kb2 := hS.call hb2
            clear hS hb2
            refine hK.out _ _ (by exact kb2) (fun hS => ?_)
            clear hK K
            refine' take_at 3 rfl (by kernel_rfl) (by kernel_rfl) (by kernel_rfl) (fun _ _ _ h => h) (by rfl) hS ?_ ?_ ?_
            rotate_left 2
            · intro W hSW; go_simp; try with_reducible rfl
            · simp only [List.set_cons_succ, List.set_cons_zero]; rfl
            refine wpAnyH_done (by kernel_rfl) ?_ _
            refine NoPanic.normal ?_
            have HLT : Hid (¬ vL F < pP) := Lib.hid (of_decide_eq_false hdd)
            have HI := Lib.hid kb2
            rw [← HRF.out] at HI
            clear hdd kb2 hS
            go_wp2_with fail
            with_reducible refine (HPR.out _).mono ?_
            rintro e v3 ⟨rfl, hb3⟩
            have HI3 := Lib.hid (HI.out.call hb3)
            obtain ⟨RP, hRP⟩ : ∃ R, tabI primeL = R := ⟨_, rfl⟩
            have iP : (Try.prog.info? 29).map (·.size) = some RP.size := by rw [← hRP]; exact info_fe rfl
            have nP : z0.size = RP.size := by rw [HZL.out, ← hRP, tabI_size]; rfl
            have oP : RP.all (·.oneCell') = true := by rw [← hRP]; exact tabI_one _
            rw [hRP]
            have hp0 : (v3.alloc (.cells z0 29)).heap[v3.heap.size]? = some (.cells z0 29 (0, 0)) := heap_alloc_new _ _
            have HI4 : Hid (NormI w ((v3.alloc (.cells z0 29)).setRow v3.heap.size RP) g z0 (tabI (opTo (fun i => gI F i - gI primeL i) F 0))) := Lib.hid (by rw [opTo_zero _ HFL.out]; exact HI3.out.row _ _)
            have HP4 : Hid (((v3.alloc (.cells z0 29)).setRow v3.heap.size RP).heap[v3.heap.size]? = some (.cells RP 29 (0, 0))) := Lib.hid (setRow_heap _ _ _ _ _ _ hp0)
            have HGP : Hid (g + 1 < v3.heap.size) := Lib.hid HI3.out.lt
            have HRP := Lib.hid hRP
            clear hb3 HI HI3 hRP
            go_wp2_with (refine wpList_store_row rfl 29 (.tmp 6) (.tmp 73) rfl v3.heap.size RP rfl rfl 29 z0 hp0 iP nP oP ?_)
            obtain ⟨W5, hW5⟩ : ∃ W, (v3.alloc (.cells z0 29)).setRow v3.heap.size RP = W := ⟨_, rfl⟩
            obtain ⟨gp, hgp⟩ : ∃ q, v3.heap.size = q := ⟨_, rfl⟩
            rw [hW5] at HI4
            rw [hW5, hgp] at HP4
            rw [hgp] at HGP
            rw [hW5, hgp]
            clear hp0 hW5 hgp
            go_loopw [7] (fun i wr => ∃ k : Nat, k ≤ 16 ∧ i = .int .i64 (k : Int) ∧ Hid (NormI w wr g z0 (tabI (opTo (fun i => gI F i - gI primeL i) F k))) ∧ Hid (wr.heap[gp]? = some (.cells RP 29 (0, 0)))) (fun i _ => 16 - (intOf i).toNat)
            case atStart => exact ⟨0, by omega, rfl, HI4, HP4⟩
            case round =>
              clear HI4 HP4
              obtain ⟨k, hk, rfl, HI, HP⟩ := hrel
              by_cases hlt : k < 16
              · have cx : wr.cell? ⟨g, k, none⟩ = some (.int .i64 (gI F k)) := by rw [cell_of_row _ _ _ _ _ _ HI.out.t, tabI_get _ _ (by rw [opTo_len]; exact hlt), opTo_get _ _ _ _ hlt, if_neg (by omega)]
                have cp : wr.cell? ⟨gp, k, none⟩ = some (.int .i64 (gI primeL k)) := by rw [cell_of_row _ _ _ _ _ _ HP.out, ← HRP.out, tabI_get _ _ hlt]
                have fx : wr.frozen? ⟨g, k, none⟩ = false := by have := HI.out.t; simp [World.frozen?, this]
                have hFk := HFB.out k hlt
                have hPk := primeL_pr k hlt
                obtain ⟨s, hs⟩ : ∃ s, gI F k - gI primeL k = s := ⟨_, rfl⟩
                have HI2 : Hid (NormI w (wr.drew.setCell ⟨g, k, none⟩ (.int .i64 s)) g z0 (tabI (opTo (fun i => gI F i - gI primeL i) F (k + 1)))) := Lib.hid (by
                  rw [← opTo_set (fun i => gI F i - gI primeL i) F hlt, ← hs, ← tabI_set]
                  exact (HI.out.drew).cell k _)
                have HP2 : Hid ((wr.drew.setCell ⟨g, k, none⟩ (.int .i64 s)).heap[gp]? = some (.cells RP 29 (0, 0))) := Lib.hid (by
                  rw [setCell_eq_setRow wr.drew g k _ _ _ (.int .i64 s) HI.out.drew.t, setRow_other _ _ _ _ (by have := HGP.out; omega)]
                  exact HP.out)
                generalize gI F k = x at *
                generalize gI primeL k = y at *
                have f1 : IntKind.i64.wrap s = s := by rw [IntKind.wrap_i64]; omega
                have p1 : 0 ≤ (k : Int) := by omega
                have p2 : (k : Int) < 16 := by omega
                clear HI HP hFk hPk
                go_wp2_with fail
                refine wp_region_still_tail 9 (by kernel_rfl) (by kernel_rfl) ?_
                simp only [List.take_succ_cons, List.take_zero, List.drop_succ_cons, List.drop_zero]
                iterate 9 still_step
                refine wpStill_nil ?_
                go_wp2_with fail
                go_roundw
                case rel => exact ⟨k + 1, by omega, by go_num, HI2, HP2⟩
                case measure => simp [intOf]; omega
              · have hk16 : k = 16 := by omega
                have dk16 : decide ((k : Int) < 16) = false := decide_eq_false (by omega)
                rw [hk16] at HI
                obtain ⟨D8, hD8⟩ : ∃ D, subL F primeL = D := ⟨_, rfl⟩
                rw [opTo_end, show (List.range 16).map (fun i => gI F i - gI primeL i) = D8 from hD8] at HI
                have HD8L : Hid (D8.length = 16) := Lib.hid (by rw [← hD8]; simp [subL])
                have HD8B : Hid (Bd 70368744177664 D8) := Lib.hid (fun i => by
                  by_cases hi : i < 16
                  · rw [← hD8, subL, gI_range _ _ hi]
                    have h1 := HFB.out i hi
                    have h2 := primeL_pr i hi
                    omega
                  · rw [gI_out (by rw [HD8L.out]; omega)]; omega)
                have HD8E := Lib.hid hD8
                clear hk16 hD8 HP HRP
                go_wp2_with fail
                go_loopw [8] (fun i wr => ∃ k : Nat, k ≤ 15 ∧ i = .int .i64 (k : Int) ∧ Hid (NormI w wr g z0 (tabI (carryTo D8 k)))) (fun i _ => 15 - (intOf i).toNat)
                case atStart => exact ⟨0, by omega, rfl, HI⟩
                case round =>
                  clear HI
                  obtain ⟨k, hk, rfl, HI⟩ := hrel
                  by_cases hlt : k < 15
                  · have hml : (carryTo D8 k).length = 16 := by rw [carryTo_len, HD8L.out]
                    have hst := carry_st (l := D8) (B := 70368744177664) (by omega) HD8B.out k (by rw [HD8L.out]; omega)
                    obtain ⟨m, hm⟩ : ∃ m, carryTo D8 k = m := ⟨_, rfl⟩
                    obtain ⟨m2, hm2⟩ : ∃ m2, m.set (k + 1) (gI m (k + 1) + gI m k / 65536) = m2 := ⟨_, rfl⟩
                    have hnx : carryTo D8 (k + 1) = m2.set k (gI m k % 65536) := by rw [carryTo, hm, ← hm2]; rfl
                    have hg2 : gI m2 k = gI m k := by rw [← hm2, gI_set _ _ _ _ (by rw [← hm, hml]; omega), if_neg (by omega)]
                    have hxb := hst.at_
                    have hyb : -70368744177664 ≤ gI m (k + 1) ∧ gI m (k + 1) ≤ 70368744177664 := by
                      have h1 := hst.high (k + 1) (by omega)
                      rw [hm] at h1
                      rw [h1]
                      exact HD8B.out (k + 1)
                    rw [hm] at hml hxb HI
                    have HNX := Lib.hid hnx
                    have hl2 : m2.length = 16 := by rw [← hm2, List.length_set]; exact hml
                    have cx : wr.cell? ⟨g, k, none⟩ = some (.int .i64 (gI m k)) := by rw [cell_of_row _ _ _ _ _ _ HI.out.t, tabI_get _ _ (by omega)]
                    have cy : wr.cell? ⟨g, k + 1, none⟩ = some (.int .i64 (gI m (k + 1))) := by rw [cell_of_row _ _ _ _ _ _ HI.out.t, tabI_get _ _ (by omega)]
                    have fx : wr.frozen? ⟨g, k + 1, none⟩ = false := by have := HI.out.t; simp [World.frozen?, this]
                    obtain ⟨x, hx⟩ : ∃ x, gI m k = x := ⟨_, rfl⟩
                    obtain ⟨y, hy⟩ : ∃ y, gI m (k + 1) = y := ⟨_, rfl⟩
                    obtain ⟨q, hq⟩ : ∃ q, x / 65536 = q := ⟨_, rfl⟩
                    obtain ⟨r, hr⟩ : ∃ r, x % 65536 = r := ⟨_, rfl⟩
                    obtain ⟨s, hs⟩ : ∃ s, y + q = s := ⟨_, rfl⟩
                    rw [hx] at hxb cx hg2
                    rw [hy] at hyb cy
                    rw [hx, hr] at hnx
                    rw [hx, hy, hq, hs] at hm2
                    rw [hx, hr] at HNX
                    have f1 : IntKind.i64.wrap s = s := by rw [IntKind.wrap_i64]; omega
                    have f2 : bits .and .i64 x 65535 = r := by rw [i64_and65535, hr]
                    have f3 : IntKind.i64.wrap ((k : Int) + 1) = (k : Int) + 1 := by rw [IntKind.wrap_i64]; omega
                    have f4 : ((k + 1 : Nat) : Int) = (k : Int) + 1 := by omega
                    have p1 : 0 ≤ (k : Int) := by omega
                    have p2 : (k : Int) < 15 := by omega
                    have p3 : 0 ≤ (k : Int) + 1 := by omega
                    have p4 : (k : Int) + 1 < 16 := by omega
                    have p5 : (k : Int) < 16 := by omega
                    have HI2 : Hid (NormI w (wr.drew.setCell ⟨g, k + 1, none⟩ (.int .i64 s)) g z0 (tabI m2)) := Lib.hid (by rw [← hm2, ← tabI_set]; exact (HI.out.drew).cell (k + 1) _)
                    have c2 : (wr.setCell ⟨g, k + 1, none⟩ (.int .i64 s)).drew.cell? ⟨g, k, none⟩ = some (.int .i64 x) := by rw [show (wr.setCell ⟨g, k + 1, none⟩ (.int .i64 s)).drew = wr.drew.setCell ⟨g, k + 1, none⟩ (.int .i64 s) from rfl, cell_of_row _ _ _ _ _ _ HI2.out.t, tabI_get _ _ (by omega), hg2]
                    have z2 : (wr.setCell ⟨g, k + 1, none⟩ (.int .i64 s)).drew.frozen? ⟨g, k, none⟩ = false := by
                      have := HI2.out.t
                      show (wr.drew.setCell ⟨g, k + 1, none⟩ (.int .i64 s)).frozen? ⟨g, k, none⟩ = false
                      simp [World.frozen?, this]
                    have HI3 : Hid (NormI w ((wr.drew.setCell ⟨g, k + 1, none⟩ (.int .i64 s)).setCell ⟨g, k, none⟩ (.int .i64 r)) g z0 (tabI (m2.set k r))) := Lib.hid (by rw [← tabI_set]; exact HI2.out.cell k _)
                    clear hst hm hm2 hnx hg2 hml hl2 hx hy hr HI HI2 f4
                    go_wp2_with fail
                    refine wp_region_still_tail 12 (by kernel_rfl) (by kernel_rfl) ?_
                    simp only [List.take_succ_cons, List.take_zero, List.drop_succ_cons, List.drop_zero]
                    iterate 12 still_step
                    refine wpStill_nil ?_
                    go_wp2_with fail
                    go_roundw
                    case rel => exact ⟨k + 1, by omega, by go_num, by rw [HNX.out]; exact HI3⟩
                    case measure => simp [intOf]; omega
                  · have hk15 : k = 15 := by omega
                    have dk15 : decide ((k : Int) < 15) = false := decide_eq_false (by omega)
                    rw [hk15] at HI
                    clear hk15
                    have h1 := HI.out.t
                    have h0 := HI.out.z
                    have hfl : (carryTo D8 15).length = 16 := by rw [carryTo_len, HD8L.out]
                    have s1 : (Try.prog.info? 29).map (·.size) = some (tabI (carryTo D8 15)).size := info_fe hfl
                    have sz : z0.size = (tabI (carryTo D8 15)).size := by rw [HZL.out, tabI_size, hfl]
                    have o1 := tabI_one (carryTo D8 15)
                    have HBF := Lib.hid (show Below w.heap.size w (wr.setRow (g + 1) (tabI (carryTo D8 15))) by rw [HG.out]; exact below_row HI.out.below (by omega))
                    obtain ⟨t1, ht1⟩ : ∃ t, tabI (carryTo D8 15) = t := ⟨_, rfl⟩
                    rw [ht1] at h1 s1 sz o1 HBF
                    have HT1 : Hid (tabI (normL l) = t1) := Lib.hid (by rw [← ht1]; rw [HLQ.out, if_neg (by have := HLT.out; omega), HD8E.out])
                    clear ht1 HI hfl
                    go_upto_region 27 with fail
                    go_wp2_with (first
                      | (refine wpList_load_row rfl 29 (.tmp 1) rfl g rfl 29 t1 (0, 0) _ h1 Try.underlying29 rfl s1 ?_)
                      | (refine wpList_store_row rfl 29 (.tmp 2) (.tmp 109) rfl (g + 1) t1 rfl rfl 29 z0 h0 s1 sz o1 ?_))
                    (try simp only [Exit.inBlock, Exit.then])
                    refine bodyPost_ret (results_cell_row rfl _ _ (g + 1) _ t1 _ _ rfl (setRow_heap _ _ _ _ _ _ h0) Try.underlying29 rfl s1) rfl ?_
                    exact ⟨by rw [HT1.out], HBF.out⟩
end Go.Proofs.Ytlhnjdnkjgnooaa

