/- The contract of the reference's MulAdd. -/
import Derived.Test.YtmmfbbbljhifjaaRefSc11D
import Derived.Test.YtmmfbbbljhifjaaMul11
namespace Go.Proofs.Ytmmfbbbljhifjaa
open Go.RowKit
set_option linter.unusedVariables false
set_option maxRecDepth 100000

/-- the result's row, the digits of three numbers; the third ones are turned -/
structure MuI (w wr : World) (g gx gy gz : Nat) (X Y Z : List Int) (z : Array Value) : Prop where
  res : wr.heap[g]? = some (.cells z 22 (0, 0))
  xx : wr.heap[gx]? = some (.cells (tabI X) 2 (0, 0))
  yy : wr.heap[gy]? = some (.cells (tabI Y) 2 (0, 0))
  zz : wr.heap[gz]? = some (.cells (tabI Z) 2 (0, 0))
  n0 : g ≠ gz
  n1 : gx ≠ gz
  n2 : gy ≠ gz
  low : w.heap.size ≤ gz
  below : Below w.heap.size w wr
section
variable {w wr : World} {g gx gy gz : Nat} {X Y Z : List Int} {z : Array Value}
theorem MuI.drew (h : MuI w wr g gx gy gz X Y Z z) : MuI w wr.drew g gx gy gz X Y Z z := ⟨h.res, h.xx, h.yy, h.zz, h.n0, h.n1, h.n2, h.low, h.below.drew⟩
theorem MuI.cell (h : MuI w wr g gx gy gz X Y Z z) (k : Nat) (v : Int) : MuI w (wr.setCell ⟨gz, k, none⟩ (.int .i64 v)) g gx gy gz X Y (Z.set k v) z := by
  rw [setCell_eq_setRow wr gz k _ _ _ (.int .i64 v) h.zz, tabI_set]
  exact ⟨by rw [setRow_other _ _ _ _ h.n0]; exact h.res, by rw [setRow_other _ _ _ _ h.n1]; exact h.xx, by rw [setRow_other _ _ _ _ h.n2]; exact h.yy, setRow_heap _ _ _ _ _ _ h.zz, h.n0, h.n1, h.n2, h.low, below_row h.below h.low⟩
theorem MuI.turned (h : MuI w wr g gx gy gz X Y Z z) {w' : World} (ho : Only (fun j => j = gz) wr w') : w'.heap[g]? = some (.cells z 22 (0, 0)) ∧ Below w.heap.size w w' := by
  have hlt : g < wr.heap.size := (Array.getElem?_eq_some_iff.1 h.res).1
  refine ⟨by rw [ho.block _ hlt (fun e => h.n0 e)]; exact h.res, ?_⟩
  exact h.below.trans (ho.below h.below.size (fun k hk e => by have := h.low; omega))
end
theorem n16_lt {l : List UInt8} (hl : l.length = 32) : leN l < 65536 ^ 16 := by
  have := leN_lt l; rw [hl] at this; rwa [show (256 : Nat) ^ 32 = 65536 ^ 16 by decide] at this

set_option maxHeartbeats 6400000 in
theorem rmuladd11_any (l m n : List UInt8) (hl : l.length = 32) (hm : m.length = 32) (hn : n.length = 32) (W : World) : Calls Try.prog 21 #[.agg (arrB l), .agg (arrB m), .agg (arrB n)] W fun e w' => e = .returned (.agg (arrB (leB 32 ((leN l * leN m + leN n) % LL)))) ∧ Below W.heap.size W w' := by
  have hz := fun u => zer32_zero u
  have HDL := dig32 l hl
  have HDM := dig32 m hm
  have HDN := dig32 n hn
  have hval := muladd_val (leN l) (leN m) (leN n) (n16_lt hl) (n16_lt hm) (n34_lt hn)
  have hlt : leN l * leN m + leN n < 65536 ^ 34 := by
    have a := n16_lt hl; have b := n16_lt hm; have c := n16_lt hn
    have : leN l * leN m ≤ 65536 ^ 16 * 65536 ^ 16 := Nat.mul_le_mul (Nat.le_of_lt a) (Nat.le_of_lt b)
    exact Nat.lt_of_lt_of_le (Nat.add_lt_add_of_le_of_lt this c) (by decide)
  have hbd : Bd 35184372088832 (mulZ (dgN 34 (leN l : Int)) (dgN 34 (leN m : Int)) (dgN 34 (leN n : Int)) 16) := fun j => by
    have := mulZ_bd _ _ _ (dg_pr 34 (leN l : Int)) (dg_pr 34 (leN m : Int)) (dgN_len _ _) (dg_pr 34 (leN n : Int)) 16 (by omega) j
    omega
  have hlen : (mulZ (dgN 34 (leN l : Int)) (dgN 34 (leN m : Int)) (dgN 34 (leN n : Int)) 16).length = 34 := by rw [mulZ_len, dgN_len]
  have HMO : Hid (∀ (gd : Nat) (W : World), W.heap[gd]? = some (.cells (tabI (carryTo (mulZ (dgN 34 (leN l : Int)) (dgN 34 (leN m : Int)) (dgN 34 (leN n : Int)) 16) 33)) 2 (0, 0)) → Calls Try.prog 28 #[.slice (some ⟨gd, 0, none⟩) 34 34] W fun e w' => e = .returned (.agg (arrB (leB 32 ((leN l * leN m + leN n) % LL)))) ∧ Below W.heap.size W w') := Lib.hid fun gd W h =>
    modC hlen (by decide) hbd hval hlt gd W h
  have HCA : Hid (∀ (gd : Nat) (W : World), W.heap[gd]? = some (.cells (tabI (mulZ (dgN 34 (leN l : Int)) (dgN 34 (leN m : Int)) (dgN 34 (leN n : Int)) 16)) 2 (0, 0)) → Calls Try.prog 31 #[.slice (some ⟨gd, 0, none⟩) 34 34] W fun e w' => e = .returned (.slice (some ⟨gd, 0, none⟩) 34 34) ∧ CaI W w' gd (carryTo (mulZ (dgN 34 (leN l : Int)) (dgN 34 (leN m : Int)) (dgN 34 (leN n : Int)) 16) 33)) := Lib.hid fun gd W h =>
    rcarried_any gd 35184372088832 _ hlen (by decide) (by decide) hbd W h
  have HXP := Lib.hid (dg_pr 34 (leN l : Int))
  have HYP := Lib.hid (dg_pr 34 (leN m : Int))
  have HZB := Lib.hid (mulZ_bd (dgN 34 (leN l : Int)) (dgN 34 (leN m : Int)) (dgN 34 (leN n : Int)) (dg_pr _ _) (dg_pr _ _) (dgN_len _ _) (dg_pr _ _))
  have HXL := Lib.hid (dgN_len 34 (leN l : Int))
  have HYL := Lib.hid (dgN_len 34 (leN m : Int))
  have HZL := Lib.hid (dgN_len 34 (leN n : Int))
  have iO : (Try.prog.info? 22).map (·.size) = some (arrB (leB 32 ((leN l * leN m + leN n) % LL))).size := info32 (leB_len _ _)
  have oO := arrB_one (leB 32 ((leN l * leN m + leN n) % LL))
  have sO : zer32.size = (arrB (leB 32 ((leN l * leN m + leN n) % LL))).size := by rw [zer32_size, arrB_size, leB_len]
  obtain ⟨OUT, hOUT⟩ : ∃ x, arrB (leB 32 ((leN l * leN m + leN n) % LL)) = x := ⟨_, rfl⟩
  rw [hOUT] at HMO iO oO sO ⊢
  have HDL2 : Hid (∀ (A : Option Addr) (W : World), Bs W A l → Calls Try.prog 29 #[.slice A 32 32] W fun e w' => ∃ g, e = .returned (.slice (some ⟨g, 0, none⟩) 34 34) ∧ w'.heap[g]? = some (.cells (tabI (dgN 34 (leN l : Int))) 2 (0, 0)) ∧ W.heap.size ≤ g ∧ Below W.heap.size W w') := HDL
  have HDM2 : Hid (∀ (A : Option Addr) (W : World), Bs W A m → Calls Try.prog 29 #[.slice A 32 32] W fun e w' => ∃ g, e = .returned (.slice (some ⟨g, 0, none⟩) 34 34) ∧ w'.heap[g]? = some (.cells (tabI (dgN 34 (leN m : Int))) 2 (0, 0)) ∧ W.heap.size ≤ g ∧ Below W.heap.size W w') := HDM
  have HDN2 : Hid (∀ (A : Option Addr) (W : World), Bs W A n → Calls Try.prog 29 #[.slice A 32 32] W fun e w' => ∃ g, e = .returned (.slice (some ⟨g, 0, none⟩) 34 34) ∧ w'.heap[g]? = some (.cells (tabI (dgN 34 (leN n : Int))) 2 (0, 0)) ∧ W.heap.size ≤ g ∧ Below W.heap.size W w') := HDN
  clear HDL HDM HDN hOUT hval hlt hbd hlen hl hm hn
  generalize dgN 34 (leN l : Int) = X at *
  generalize dgN 34 (leN m : Int) = Y at *
  generalize dgN 34 (leN n : Int) = Z at *
  generalize zer32 = z32 at *
  have hr0 : RowsW ((((W.alloc (.cells (arrB l) 22)).alloc (.cells (arrB m) 22)).alloc (.cells (arrB n) 22)).alloc (.cells z32 22)) [(W.heap.size + 1 + 1 + 1, z32, 22), (W.heap.size + 1 + 1, arrB n, 22), (W.heap.size + 1, arrB m, 22), (W.heap.size, arrB l, 22)] := by
    have h := ((((RowsW.nil W).box (arrB l) 22).box (arrB m) 22).box (arrB n) 22).box z32 22
    simp only [World.size_alloc] at h
    exact h
  obtain ⟨LA, hLA⟩ : ∃ a, arrB l = a := ⟨_, rfl⟩
  obtain ⟨MA, hMA⟩ : ∃ a, arrB m = a := ⟨_, rfl⟩
  obtain ⟨NA, hNA⟩ : ∃ a, arrB n = a := ⟨_, rfl⟩
  have HLA := Lib.hid hLA
  have HMA := Lib.hid hMA
  have HNA := Lib.hid hNA
  rw [hLA, hMA, hNA] at hr0 ⊢
  obtain ⟨W1, hW1⟩ : ∃ Q, (((W.alloc (.cells LA 22)).alloc (.cells MA 22)).alloc (.cells NA 22)).alloc (.cells z32 22) = Q := ⟨_, rfl⟩
  rw [hW1] at hr0
  have HB1 : Hid (Below W.heap.size W W1) := Lib.hid (by rw [← hW1]; exact below_al (below_al (below_al (below_al (Below.refl _ _) _) _) _) _)
  have HR1 := Lib.hid hr0
  have HW1 := Lib.hid hW1
  clear hr0 hLA hMA hNA hW1
  go_enter Try.func21, Try.ntmps21
  go_wp2_with fail
  rw [HW1.out]
  with_reducible refine (HDL2.out _ _ (bs_arr (by have h := HR1.out.tail.tail.tail.head; rw [← HLA.out] at h; exact h))).mono ?_
  rintro e v1 ⟨gx, rfl, hx1, hgx, hb1⟩
  have HX1 := Lib.hid hx1
  have HR2 := Lib.hid (HR1.out.below hb1)
  have HB2 := Lib.hid (below_nx HB1.out hb1)
  clear hx1 hgx hb1
  go_wp2_with fail
  with_reducible refine (HDM2.out _ _ (bs_arr (by have h := HR2.out.tail.tail.head; rw [← HMA.out] at h; exact h))).mono ?_
  rintro e v2 ⟨gy, rfl, hy2, hgy, hb2⟩
  have HY2 := Lib.hid hy2
  have HX2 : Hid (v2.heap[gx]? = some (.cells (tabI X) 2 (0, 0))) := Lib.hid (by rw [hb2.block _ (Array.getElem?_eq_some_iff.1 HX1.out).1]; exact HX1.out)
  have HR3 := Lib.hid (HR2.out.below hb2)
  have HB3 := Lib.hid (below_nx HB2.out hb2)
  clear hy2 hgy hb2 HX1 HR2 HB2
  go_wp2_with fail
  with_reducible refine (HDN2.out _ _ (bs_arr (by have h := HR3.out.tail.head; rw [← HNA.out] at h; exact h))).mono ?_
  rintro e v3 ⟨gz, rfl, hz3, hgz, hb3⟩
  have HI : Hid (MuI W v3 (W.heap.size + 1 + 1 + 1) gx gy gz X Y (mulZ X Y Z 0) z32) := Lib.hid (by
    have a := (Array.getElem?_eq_some_iff.1 HX2.out).1
    have b := (Array.getElem?_eq_some_iff.1 HY2.out).1
    have c := (Array.getElem?_eq_some_iff.1 HR3.out.head).1
    have d := HB3.out.size
    exact ⟨(HR3.out.below hb3).head, by rw [hb3.block _ a]; exact HX2.out, by rw [hb3.block _ b]; exact HY2.out, hz3, by omega, by omega, by omega, by omega, below_nx HB3.out hb3⟩)
  have HGG : Hid (W.heap.size ≤ W.heap.size + 1 + 1 + 1) := Lib.hid (by omega)
  clear hz3 hgz hb3 HX2 HY2 HR3 HB3 HDL2 HDM2 HDN2
  go_wp2_with fail
  obtain ⟨g, hg⟩ : ∃ g, W.heap.size + 1 + 1 + 1 = g := ⟨_, rfl⟩
  rw [hg] at HI HGG
  rw [hg]
  clear hg
  go_loopw [10] (fun i wr => ∃ a : Nat, a ≤ 16 ∧ i = .int .i64 (a : Int) ∧ Hid (MuI W wr g gx gy gz X Y (mulZ X Y Z a) z32)) (fun i _ => 16 - (intOf i).toNat)
  case atStart => exact ⟨0, by omega, rfl, HI⟩
  case round =>
    clear HI
    obtain ⟨a, ha, rfl, HI⟩ := hrel
    by_cases hlt : a < 16
    · have e7 : decide ((a : Int) < 16) = true := decide_eq_true (by omega)
      obtain ⟨xv, hxv⟩ : ∃ x, gI X a = x := ⟨_, rfl⟩
      have HI0 : Hid (MuI W wr g gx gy gz X Y (mulRow X Y (mulZ X Y Z a) a 0) z32) := HI
      have HA16 := Lib.hid hlt
      clear HI
      go_wp2_with fail
      go_loopw [11] (fun i wr => ∃ k : Nat, k ≤ 16 ∧ i = .int .i64 (k : Int) ∧ Hid (MuI W wr g gx gy gz X Y (mulRow X Y (mulZ X Y Z a) a k) z32)) (fun i _ => 16 - (intOf i).toNat)
      case atStart => exact ⟨0, by omega, rfl, HI0⟩
      case round =>
        clear HI0
        obtain ⟨k, hk, rfl, HI0⟩ := hrel
        by_cases hlt2 : k < 16
        · have hml : (mulRow X Y (mulZ X Y Z a) a k).length = 34 := by rw [mulRow_len, mulZ_len, HZL.out]
          have hbz := mulRow34_bd X Y (mulZ X Y Z a) a _ HXP.out HYP.out (by rw [mulZ_len, HZL.out]) HA16.out (HZB.out a (by omega)) k (by omega) (a + k)
          have hxp := HXP.out a
          have hyp := HYP.out k
          obtain ⟨yv, hyv⟩ : ∃ y, gI Y k = y := ⟨_, rfl⟩
          obtain ⟨zv, hzv⟩ : ∃ z, gI (mulRow X Y (mulZ X Y Z a) a k) (a + k) = z := ⟨_, rfl⟩
          rw [hxv] at hxp
          rw [hyv] at hyp
          rw [hzv] at hbz
          have hps := mul_small hxp hyp
          have hnx : mulRow X Y (mulZ X Y Z a) a (k + 1) = (mulRow X Y (mulZ X Y Z a) a k).set (a + k) (zv + xv * yv) := by rw [mulRow, mulAt, hzv, hxv, hyv]
          obtain ⟨pv, hpv⟩ : ∃ p, xv * yv = p := ⟨_, rfl⟩
          rw [hpv] at hps hnx
          have cx : wr.cell? ⟨gx, a, none⟩ = some (.int .i64 xv) := by rw [cell_of_row _ _ _ _ _ _ HI0.out.xx, tabI_get _ _ (by rw [HXL.out]; omega), hxv]
          have cy : wr.cell? ⟨gy, k, none⟩ = some (.int .i64 yv) := by rw [cell_of_row _ _ _ _ _ _ HI0.out.yy, tabI_get _ _ (by rw [HYL.out]; omega), hyv]
          have cz : wr.cell? ⟨gz, a + k, none⟩ = some (.int .i64 zv) := by rw [cell_of_row _ _ _ _ _ _ HI0.out.zz, tabI_get _ _ (by rw [hml]; omega), hzv]
          have fx : wr.frozen? ⟨gz, a + k, none⟩ = false := by have := HI0.out.zz; simp [World.frozen?, this]
          have HI2 : Hid (MuI W (wr.drew.setCell ⟨gz, a + k, none⟩ (.int .i64 (zv + pv))) g gx gy gz X Y (mulRow X Y (mulZ X Y Z a) a (k + 1)) z32) := Lib.hid (by rw [hnx]; exact HI0.out.drew.cell _ _)
          have e1 : (a : Int) + (k : Int) = ((a + k : Nat) : Int) := by omega
          have e2 : IntKind.i64.wrap ((a + k : Nat) : Int) = ((a + k : Nat) : Int) := by rw [IntKind.wrap_i64]; omega
          have e3 : IntKind.i64.wrap pv = pv := by rw [IntKind.wrap_i64]; omega
          have e4 : IntKind.i64.wrap (zv + pv) = zv + pv := by rw [IntKind.wrap_i64]; omega
          obtain ⟨ak, hak⟩ : ∃ x, a + k = x := ⟨_, rfl⟩
          rw [hak] at e1 e2 cz fx HI2
          have b1 : 0 ≤ (a : Int) := by omega
          have b2 : (a : Int) < 16 := by have := HA16.out; omega
          have b3 : 0 ≤ (k : Int) := by omega
          have b4 : (k : Int) < 16 := by omega
          have b5 : 0 ≤ (ak : Int) := by omega
          have b6 : (ak : Int) < 34 := by omega
          have b7 : (a : Int) < 34 := by omega
          have b9 : (k : Int) < 34 := by omega
          have e8 : decide ((k : Int) < 16) = true := decide_eq_true (by omega)
          clear HI0 hnx hak hzv hyv hk hml hlt ha
          go_wp2_with fail
          refine wp_region_still_tail 20 (by kernel_rfl) (by kernel_rfl) ?_
          simp only [List.take_succ_cons, List.take_zero, List.drop_succ_cons, List.drop_zero]
          iterate 20 still_step
          refine wpStill_nil ?_
          go_wp2_with fail
          go_roundw
          case rel => exact ⟨k + 1, by omega, by go_num, HI2⟩
          case measure => simp [intOf]; omega
        · have e8 : decide ((k : Int) < 16) = false := decide_eq_false (by omega)
          have hk16 : k = 16 := by omega
          rw [hk16] at HI0
          have HI2 : Hid (MuI W wr g gx gy gz X Y (mulZ X Y Z (a + 1)) z32) := HI0
          have b1 : 0 ≤ (a : Int) := by omega
          have b2 : (a : Int) < 16 := by have := HA16.out; omega
          clear HI0 hk16 hlt2 hk
          go_wp2_with fail
          go_roundw
          case rel => exact ⟨a + 1, by omega, by go_num, HI2⟩
          case measure => simp [intOf]; omega
    · have e7 : decide ((a : Int) < 16) = false := decide_eq_false (by omega)
      have ha16 : a = 16 := by omega
      rw [ha16] at HI
      clear ha16 hlt ha
      have hzrow := HI.out.zz
      go_wp2_with fail
      with_reducible refine (HCA.out _ _ hzrow).mono ?_
      rintro e v3 ⟨rfl, hc3⟩
      have HRW := Lib.hid hc3.row
      have HI3 := Lib.hid (HI.out.turned hc3.only)
      clear hc3 hzrow HI
      go_wp2_with fail
      with_reducible refine (HMO.out _ _ HRW.out).mono ?_
      rintro e v4 ⟨rfl, hb4⟩
      have hr4 : v4.heap[g]? = some (.cells z32 22 (0, 0)) := by rw [hb4.block _ (Array.getElem?_eq_some_iff.1 HI3.out.1).1]; exact HI3.out.1
      have HE : Hid (Below W.heap.size W (v4.setRow g OUT)) := Lib.hid (below_row (below_nx HI3.out.2 hb4) HGG.out)
      clear hb4
      go_wp2_with (refine wpList_store_row rfl 22 (.tmp 6) (.tmp 49) rfl g OUT rfl rfl 22 z32 hr4 iO sO oO ?_)
      (try simp only [Exit.inBlock, Exit.then])
      refine bodyPost_ret (results_cell_row rfl _ _ g _ OUT _ _ rfl (setRow_heap _ _ _ _ _ _ hr4) Try.underlying22 rfl iO) rfl ?_
      exact ⟨rfl, HE.out⟩
end Go.Proofs.Ytmmfbbbljhifjaa

