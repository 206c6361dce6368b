/- The contract of the reference's Mul. -/
import Derived.Test.YtlhnjdnkjgnooaaRefFe9C
import Derived.Test.YtlhnjdnkjgnooaaFe9M
namespace Go.Proofs.Ytlhnjdnkjgnooaa
open Go.RowKit
set_option linter.unusedVariables false
set_option maxRecDepth 100000

theorem AddI.far {w wr : World} {g gt : Nat} {X Y z0 T : Array Value} {ty : TypeId} (h : AddI w wr g X Y z0) (ht : wr.heap[gt]? = some (.cells T ty (0, 0))) (hg : g + 1 + 1 < gt) (k : Nat) (v : Value) : AddI w (wr.setCell ⟨gt, k, none⟩ v) g X Y z0 := by
  have e := setCell_eq_setRow wr gt k _ _ _ v ht
  exact ⟨by rw [e, setRow_other _ _ _ _ (by omega)]; exact h.x, by rw [e, setRow_other _ _ _ _ (by omega)]; exact h.y, by rw [e, setRow_other _ _ _ _ (by omega)]; exact h.z, h.below.setCell (p := ⟨gt, k, none⟩) (by show g ≤ gt; omega) _⟩

set_option maxHeartbeats 1600000 in
theorem rmul9_any (x y : Int) (hx0 : 0 ≤ x) (hx : x < pP) (hy0 : 0 ≤ y) (hy : y < pP) (w : World) :
    Calls Try.prog 26 #[.agg (tabI (dgN 16 x)), .agg (tabI (dgN 16 y))] w fun e w' => e = .returned (.agg (tabI (dgN 16 ((x * y) % pP)))) ∧ Below w.heap.size w w' := by
  have hz := fun u => zero_fe u
  have hz32 := fun u => zero_row 57 (tabI (List.replicate 32 0)) 32 (by kernel_rfl) u
  obtain ⟨z0, hz0e⟩ : ∃ t, tabI (List.replicate 16 0) = t := ⟨_, rfl⟩
  rw [hz0e] at hz
  have HZ0E := Lib.hid hz0e
  have n0 : z0.size = 16 := by rw [← hz0e, tabI_size]; simp
  have o0 : z0.all (·.oneCell') = true := by rw [← hz0e]; exact tabI_one _
  have i0 : (Try.prog.info? 29).map (·.size) = some z0.size := by rw [← hz0e]; exact info_fe (by simp)
  obtain ⟨t0, ht0⟩ : ∃ t, tabI (List.replicate 32 0) = t := ⟨_, rfl⟩
  rw [ht0] at hz32
  have nt : t0.size = 32 := by rw [← ht0, tabI_size]; simp
  have ot : t0.all (·.oneCell') = true := by rw [← ht0]; exact tabI_one _
  have it : (Try.prog.info? 57).map (·.size) = some t0.size := by rw [nt]; kernel_rfl
  obtain ⟨a, ha⟩ : ∃ a, dgN 16 x = a := ⟨_, rfl⟩
  obtain ⟨b, hb⟩ : ∃ b, dgN 16 y = b := ⟨_, rfl⟩
  have hal : a.length = 16 := by rw [← ha, dgN_len]
  have hbl : b.length = 16 := by rw [← hb, dgN_len]
  have hab : ∀ i, 0 ≤ gI a i ∧ gI a i < 65536 := by rw [← ha]; exact fun i => dg_bd i
  have hbb : ∀ i, 0 ≤ gI b i ∧ gI b i < 65536 := by rw [← hb]; exact fun i => dg_bd i
  obtain ⟨q1, q2, q3, q4⟩ := foldM_ok hal hbl hab hbb
  have hva : vL a = x := by rw [← ha, dg_val hx0 hx]
  have hvb : vL b = y := by rw [← hb, dg_val hy0 hy]
  rw [hva, hvb] at q4
  have HNO : Hid (∀ W : World, Calls Try.prog 31 #[.agg (tabI (foldM (mulAll a b 16)))] W fun e w' => e = .returned (.agg (tabI (dgN 16 ((x * y) % pP)))) ∧ Below W.heap.size W w') := Lib.hid fun W => by
    have h := rnorm9_any _ (by simp [foldM]) q1 q2 q3 W
    rwa [q4] at h
  obtain ⟨R, hR⟩ : ∃ R, tabI (dgN 16 ((x * y) % pP)) = R := ⟨_, rfl⟩
  have nR : R.size = 16 := by rw [← hR, tabI_size, dgN_len]
  have oR : R.all (·.oneCell') = true := by rw [← hR]; exact tabI_one _
  have iR : (Try.prog.info? 29).map (·.size) = some R.size := by rw [← hR]; exact info_fe (dgN_len _ _)
  have zR : z0.size = R.size := by rw [n0, nR]
  rw [hR] at HNO ⊢
  rw [ha, hb]
  have HAL := Lib.hid hal
  have HBL := Lib.hid hbl
  have HAB := Lib.hid hab
  have HBB := Lib.hid hbb
  have HMB : Hid (∀ i k j, i < 16 → k ≤ 16 → 0 ≤ gI (mulRow a b (mulAll a b i) i k) j ∧ gI (mulRow a b (mulAll a b i) i k) j ≤ 1099511627776) := Lib.hid fun i k j hi hk => by
    have h1 := mulRow_bd a b _ i _ hab hbb (mulAll_len a b i) hi (mulAll_bd a b hab hbb i (by omega)) k hk j
    omega
  have HMA : Hid (∀ j, 0 ≤ gI (mulAll a b 16) j ∧ gI (mulAll a b 16) j ≤ 1099511627776) := Lib.hid fun j => by
    have := mulAll_bd a b hab hbb 16 (by omega) j
    omega
  obtain ⟨XA, hXA⟩ : ∃ X, tabI a = X := ⟨_, rfl⟩
  obtain ⟨YB, hYB⟩ : ∃ X, tabI b = X := ⟨_, rfl⟩
  have HI0 : Hid (AddI w (((w.alloc (.cells XA 29)).alloc (.cells YB 29)).alloc (.cells z0 29)) w.heap.size XA YB z0) := Lib.hid (addI_start _ _ _ _)
  obtain ⟨W0, hW0⟩ : ∃ W, ((w.alloc (.cells XA 29)).alloc (.cells YB 29)).alloc (.cells z0 29) = W := ⟨_, rfl⟩
  rw [hW0] at HI0
  have hs0 : W0.heap.size = w.heap.size + 1 + 1 + 1 := by rw [← hW0]; simp
  have hT0 : (W0.alloc (.cells t0 57)).heap[W0.heap.size]? = some (.cells t0 57 (0, 0)) := heap_alloc_new _ _
  have HT1 : Hid (((W0.alloc (.cells t0 57)).setRow W0.heap.size t0).heap[W0.heap.size]? = some (.cells t0 57 (0, 0))) := Lib.hid (setRow_heap _ _ _ _ _ _ hT0)
  have HI1 := Lib.hid (HI0.out.row (.cells t0 57) t0)
  have HXA := Lib.hid hXA
  have HYB := Lib.hid hYB
  have HT0 := Lib.hid ht0
  rw [hXA, hYB]
  rw [hs0] at HT1 HI1 hT0
  have HW0 := Lib.hid hW0
  have HGT : Hid (w.heap.size + 1 + 1 < w.heap.size + 1 + 1 + 1) := Lib.hid (by omega)
  rw [← hW0] at hT0
  clear hz0e ht0 ha hb hal hbl hab hbb q1 q2 q3 q4 hva hvb hR nR hXA hYB hx0 hx hy0 hy hs0 HI0 hW0
  go_enter Try.func26, Try.ntmps26
  go_wp2_with (refine wpList_store_row rfl 57 (.tmp 5) (.tmp 10) rfl (w.heap.size + 1 + 1 + 1) t0 rfl rfl 57 t0 hT0 it rfl ot ?_)
  rw [HW0.out]
  obtain ⟨g, hg⟩ : ∃ g, w.heap.size = g := ⟨_, rfl⟩
  obtain ⟨gt, hgt⟩ : ∃ q, g + 1 + 1 + 1 = q := ⟨_, rfl⟩
  obtain ⟨W1, hW1⟩ : ∃ W, (W0.alloc (.cells t0 57)).setRow (w.heap.size + 1 + 1 + 1) t0 = W := ⟨_, rfl⟩
  rw [hW1] at HT1 HI1
  rw [hW1]
  rw [hg] at HT1 HI1 HGT
  rw [hgt] at HT1 HGT
  rw [hg, hgt]
  have HG := Lib.hid hg
  rw [← HT0.out, show List.replicate 32 (0 : Int) = mulAll a b 0 from rfl] at HT1
  clear hg hgt hW1 hT0 HW0
  go_loopw [6] (fun i wr => ∃ k : Nat, k ≤ 16 ∧ i = .int .i64 (k : Int) ∧ Hid (AddI w wr g XA YB z0) ∧ Hid (wr.heap[gt]? = some (.cells (tabI (mulAll a b k)) 57 (0, 0)))) (fun i _ => 16 - (intOf i).toNat)
  case atStart => exact ⟨0, by omega, rfl, HI1, HT1⟩
  case round =>
    clear HI1 HT1
    obtain ⟨ii, hii, rfl, HI, HT⟩ := hrel
    by_cases hlti : ii < 16
    · have dk : decide ((ii : Int) < 16) = true := decide_eq_true (by omega)
      have HT' : Hid (wr.heap[gt]? = some (.cells (tabI (mulRow a b (mulAll a b ii) ii 0)) 57 (0, 0))) := HT
      clear HT
      go_wp2_with fail
      go_loopw [7] (fun i wr => ∃ k : Nat, k ≤ 16 ∧ i = .int .i64 (k : Int) ∧ Hid (AddI w wr g XA YB z0) ∧ Hid (wr.heap[gt]? = some (.cells (tabI (mulRow a b (mulAll a b ii) ii k)) 57 (0, 0)))) (fun i _ => 16 - (intOf i).toNat)
      case atStart => exact ⟨0, by omega, rfl, HI, HT'⟩
      case round =>
        clear HI HT'
        obtain ⟨k, hk, rfl, HI, HT⟩ := hrel
        by_cases hlt : k < 16
        · have cx : wr.cell? ⟨g, ii, none⟩ = some (.int .i64 (gI a ii)) := by rw [cell_of_row _ _ _ _ _ _ HI.out.x, ← HXA.out, tabI_get _ _ (by rw [HAL.out]; exact hlti)]
          have cy : wr.cell? ⟨g + 1, k, none⟩ = some (.int .i64 (gI b k)) := by rw [cell_of_row _ _ _ _ _ _ HI.out.y, ← HYB.out, tabI_get _ _ (by rw [HBL.out]; exact hlt)]
          have hln : (mulRow a b (mulAll a b ii) ii k).length = 32 := by rw [mulRow_len, mulAll_len]
          have ct : wr.cell? ⟨gt, ii + k, none⟩ = some (.int .i64 (gI (mulRow a b (mulAll a b ii) ii k) (ii + k))) := by rw [cell_of_row _ _ _ _ _ _ HT.out, tabI_get _ _ (by omega)]
          have ft : wr.frozen? ⟨gt, ii + k, none⟩ = false := by have := HT.out; simp [World.frozen?, this]
          have h1 := HMB.out ii k (ii + k) hlti hk
          have h2 := mul_small (HAB.out ii) (HBB.out k)
          obtain ⟨u, hu⟩ : ∃ u, gI (mulRow a b (mulAll a b ii) ii k) (ii + k) = u := ⟨_, rfl⟩
          obtain ⟨p, hp⟩ : ∃ p, gI a ii * gI b k = p := ⟨_, rfl⟩
          obtain ⟨s, hs⟩ : ∃ s, u + p = s := ⟨_, rfl⟩
          have hnx : (mulRow a b (mulAll a b ii) ii k).set (ii + k) s = mulRow a b (mulAll a b ii) ii (k + 1) := by rw [mulRow, mulAt, hu, hp, hs]
          have HI2 : Hid (AddI w (wr.drew.setCell ⟨gt, ii + k, none⟩ (.int .i64 s)) g XA YB z0) := Lib.hid (HI.out.drew.far (gt := gt) HT.out HGT.out _ _)
          have HT2 : Hid ((wr.drew.setCell ⟨gt, ii + k, none⟩ (.int .i64 s)).heap[gt]? = some (.cells (tabI (mulRow a b (mulAll a b ii) ii (k + 1))) 57 (0, 0))) := Lib.hid (by
            rw [setCell_eq_setRow wr.drew gt (ii + k) _ _ _ (.int .i64 s) HT.out, setRow_heap _ _ _ _ _ _ (show wr.drew.heap[gt]? = _ from HT.out), tabI_set, hnx])
          rw [hu] at ct h1
          rw [hp] at h2
          generalize gI a ii = A at *
          generalize gI b k = B at *
          have f1 : IntKind.i64.wrap p = p := by rw [IntKind.wrap_i64]; omega
          have f2 : IntKind.i64.wrap s = s := by rw [IntKind.wrap_i64]; omega
          have f3 : IntKind.i64.wrap ((ii : Int) + (k : Int)) = (ii : Int) + (k : Int) := by rw [IntKind.wrap_i64]; omega
          have e3 : ((ii : Int) + (k : Int)).toNat = ii + k := by omega
          have p0 : 0 ≤ (ii : Int) := by omega
          have p1 : 0 ≤ (k : Int) := by omega
          have p2 : (k : Int) < 16 := by omega
          have p3 : (ii : Int) < 16 := by omega
          have p4 : 0 ≤ (ii : Int) + (k : Int) := by omega
          have p5 : (ii : Int) + (k : Int) < 32 := by omega
          clear HI HT hnx hln h1 h2 hu
          go_wp2_with fail
          refine wp_region_still_tail 17 (by kernel_rfl) (by kernel_rfl) ?_
          simp only [List.take_succ_cons, List.take_zero, List.drop_succ_cons, List.drop_zero]
          iterate 17 still_step
          refine wpStill_nil ?_
          go_wp2_with fail
          go_roundw
          case rel => exact ⟨k + 1, by omega, by go_num, HI2, HT2⟩
          case measure => simp [intOf]; omega
        · have hk16 : k = 16 := by omega
          rw [hk16] at HT
          have HT2 : Hid (wr.heap[gt]? = some (.cells (tabI (mulAll a b (ii + 1))) 57 (0, 0))) := HT
          have dk16 : decide ((k : Int) < 16) = false := decide_eq_false (by omega)
          clear HT hk16
          go_wp2_with fail
          go_roundw
          case rel => exact ⟨ii + 1, by omega, by go_num, HI, HT2⟩
          case measure => simp [intOf]; omega
    · have hi16 : ii = 16 := by omega
      rw [hi16] at HT
      have dk : decide ((ii : Int) < 16) = false := decide_eq_false (by omega)
      clear hi16
      have hr0 : (wr.alloc (.cells z0 29)).heap[wr.heap.size]? = some (.cells z0 29 (0, 0)) := heap_alloc_new _ _
      have hlt0 : gt < wr.heap.size := (Array.getElem?_eq_some_iff.1 HT.out).1
      have HZ1 : Hid (((wr.alloc (.cells z0 29)).setRow wr.heap.size z0).heap[wr.heap.size]? = some (.cells z0 29 (0, 0))) := Lib.hid (setRow_heap _ _ _ _ _ _ hr0)
      have HI1 := Lib.hid (HI.out.row (.cells z0 29) z0)
      have HT1 : Hid (((wr.alloc (.cells z0 29)).setRow wr.heap.size z0).heap[gt]? = some (.cells (tabI (mulAll a b 16)) 57 (0, 0))) := Lib.hid (by rw [setRow_other _ _ _ _ (by omega), heap_alloc_old _ _ (by omega)]; exact HT.out)
      have HGZ : Hid (gt < wr.heap.size) := Lib.hid hlt0
      clear HI HT hlt0
      go_wp2_with (refine wpList_store_row rfl 29 (.tmp 8) (.tmp 36) rfl wr.heap.size z0 rfl rfl 29 z0 hr0 i0 rfl o0 ?_)
      obtain ⟨W5, hW5⟩ : ∃ W, (wr.alloc (.cells z0 29)).setRow wr.heap.size z0 = W := ⟨_, rfl⟩
      obtain ⟨gz, hgz⟩ : ∃ q, wr.heap.size = q := ⟨_, rfl⟩
      rw [hW5, hgz] at HZ1
      rw [hW5] at HI1 HT1
      rw [hgz] at HGZ
      rw [hW5, hgz]
      obtain ⟨M, hM⟩ : ∃ M, mulAll a b 16 = M := ⟨_, rfl⟩
      have hMl : M.length = 32 := by rw [← hM, mulAll_len]
      have HMA2 := HMA
      rw [hM] at HT1 HMA2 HNO
      have HML := Lib.hid hMl
      have HZ0 : Hid (z0 = tabI (opTo (fun i => gI M i + 38 * gI M (i + 16)) (List.replicate 16 0) 0)) := Lib.hid (by
        rw [opTo_zero _ (by simp)]
        exact HZ0E.out.symm)
      have HZ1' : Hid (W5.heap[gz]? = some (.cells (tabI (opTo (fun i => gI M i + 38 * gI M (i + 16)) (List.replicate 16 0) 0)) 29 (0, 0))) := Lib.hid (by rw [← HZ0.out]; exact HZ1.out)
      clear HZ1 HZ0
      clear hr0 hW5 hgz hM hMl HMA
      go_loopw [9] (fun i wr => ∃ k : Nat, k ≤ 16 ∧ i = .int .i64 (k : Int) ∧ Hid (AddI w wr g XA YB z0) ∧ Hid (wr.heap[gt]? = some (.cells (tabI M) 57 (0, 0))) ∧ Hid (wr.heap[gz]? = some (.cells (tabI (opTo (fun i => gI M i + 38 * gI M (i + 16)) (List.replicate 16 0) k)) 29 (0, 0)))) (fun i _ => 16 - (intOf i).toNat)
      case atStart => exact ⟨0, by omega, rfl, HI1, HT1, HZ1'⟩
      case round =>
        clear HI1 HT1 HZ1'
        obtain ⟨k, hk, rfl, HI, HT, HZ⟩ := hrel
        by_cases hlt : k < 16
        · have c1 : wr.cell? ⟨gt, k, none⟩ = some (.int .i64 (gI M k)) := by rw [cell_of_row _ _ _ _ _ _ HT.out, tabI_get _ _ (by rw [HML.out]; omega)]
          have c2 : wr.cell? ⟨gt, k + 16, none⟩ = some (.int .i64 (gI M (k + 16))) := by rw [cell_of_row _ _ _ _ _ _ HT.out, tabI_get _ _ (by rw [HML.out]; omega)]
          have cz : wr.cell? ⟨gz, k, none⟩ = some (.int .i64 0) := by
            rw [cell_of_row _ _ _ _ _ _ HZ.out, tabI_get _ _ (by rw [opTo_len]; exact hlt), opTo_get _ _ _ _ hlt, if_neg (by omega)]
            simp only [gI, List.getD, List.getElem?_replicate]
            split <;> rfl
          have fz : wr.frozen? ⟨gz, k, none⟩ = false := by have := HZ.out; simp [World.frozen?, this]
          have h1 := HMA2.out k
          have h2 := HMA2.out (k + 16)
          obtain ⟨p, hp⟩ : ∃ p, 38 * gI M (k + 16) = p := ⟨_, rfl⟩
          obtain ⟨s, hs⟩ : ∃ s, gI M k + p = s := ⟨_, rfl⟩
          have HI2 : Hid (AddI w (wr.drew.setCell ⟨gz, k, none⟩ (.int .i64 s)) g XA YB z0) := Lib.hid (HI.out.drew.far (gt := gz) HZ.out (by have := HGT.out; have := HGZ.out; omega) _ _)
          have HT2 : Hid ((wr.drew.setCell ⟨gz, k, none⟩ (.int .i64 s)).heap[gt]? = some (.cells (tabI M) 57 (0, 0))) := Lib.hid (by
            rw [setCell_eq_setRow wr.drew gz k _ _ _ (.int .i64 s) HZ.out, setRow_other _ _ _ _ (by have := HGZ.out; omega)]; exact HT.out)
          have HZ2 : Hid ((wr.drew.setCell ⟨gz, k, none⟩ (.int .i64 s)).heap[gz]? = some (.cells (tabI (opTo (fun i => gI M i + 38 * gI M (i + 16)) (List.replicate 16 0) (k + 1))) 29 (0, 0))) := Lib.hid (by
            rw [setCell_eq_setRow wr.drew gz k _ _ _ (.int .i64 s) HZ.out, setRow_heap _ _ _ _ _ _ (show wr.drew.heap[gz]? = _ from HZ.out), tabI_set, ← opTo_set (fun i => gI M i + 38 * gI M (i + 16)) _ hlt, ← hs, ← hp])
          generalize gI M k = A at *
          generalize gI M (k + 16) = B at *
          have f1 : IntKind.i64.wrap p = p := by rw [IntKind.wrap_i64]; omega
          have f2 : IntKind.i64.wrap s = s := by rw [IntKind.wrap_i64]; omega
          have f3 : IntKind.i64.wrap ((k : Int) + 16) = (k : Int) + 16 := by rw [IntKind.wrap_i64]; omega
          have p1 : 0 ≤ (k : Int) := by omega
          have p2 : (k : Int) < 16 := by omega
          have e3 : ((k : Int) + 16).toNat = k + 16 := by omega
          have p3 : 0 ≤ (k : Int) + 16 := by omega
          have p4 : (k : Int) + 16 < 32 := by omega
          have p5 : (k : Int) < 32 := by omega
          clear HI HT HZ h1 h2
          go_wp2_with fail
          refine wp_region_still_tail 11 (by kernel_rfl) (by kernel_rfl) ?_
          simp only [List.take_succ_cons, List.take_zero, List.drop_succ_cons, List.drop_zero]
          iterate 11 still_step
          refine wpStill_nil ?_
          go_wp2_with fail
          go_roundw
          case rel => exact ⟨k + 1, by omega, by go_num, HI2, HT2, HZ2⟩
          case measure => simp [intOf]; omega
        · obtain rfl : k = 16 := by omega
          rw [opTo_end, show (List.range 16).map (fun i => gI M i + 38 * gI M (i + 16)) = foldM M from rfl] at HZ
          have h1 := HZ.out
          have s1 : (Try.prog.info? 29).map (·.size) = some (tabI (foldM M)).size := info_fe (by simp [foldM])
          generalize tabI (foldM M) = T1 at *
          go_wp2_with (refine wpList_load_row rfl 29 (.tmp 8) rfl gz rfl 29 T1 (0, 0) _ h1 Try.underlying29 rfl s1 ?_)
          with_reducible refine (HNO.out _).mono ?_
          rintro e w2 ⟨rfl, hb2⟩
          have HI2 := HI.out.call hb2
          have h0 := HI2.z
          have HB := Lib.hid (show Below w.heap.size w (w2.setRow (g + 1 + 1) R) by rw [HG.out]; exact below_row HI2.below (by omega))
          clear hb2 HI HI2 h1 HT HZ
          go_wp2_with (refine wpList_store_row rfl 29 (.tmp 4) (.tmp 53) rfl (g + 1 + 1) R rfl rfl 29 z0 h0 iR zR oR ?_)
          (try simp only [Exit.inBlock, Exit.then])
          refine bodyPost_ret (results_cell_row rfl _ _ (g + 1 + 1) _ R _ _ rfl (setRow_heap _ _ _ _ _ _ h0) Try.underlying29 rfl iR) rfl ?_
          exact ⟨rfl, HB.out⟩
end Go.Proofs.Ytlhnjdnkjgnooaa

