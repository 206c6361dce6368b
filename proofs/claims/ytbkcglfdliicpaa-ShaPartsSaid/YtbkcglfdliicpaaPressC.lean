/- The contracts of the developers' StepWith and Step; the package whole. -/
import Derived.Test.YtbkcglfdliicpaaPressB
import Derived.Test.YtbkcglfdliicpaaGpre2
namespace Go.Proofs.Ytbkcglfdliicpaa
open Go.RowKit
set_option linter.unusedVariables false
set_option maxRecDepth 100000

/-- what stands where, while it steps -/
structure StepP (w wr : World) (g gW : Nat) (KK S z8 WW : Array Value) : Prop where
  low : g + 1 + 1 + 1 < gW
  ks : wr.heap[g]? = some (.cells KK 54 (0, 0))
  s : wr.heap[g + 1]? = some (.cells S 49 (0, 0))
  z : wr.heap[g + 1 + 1 + 1]? = some (.cells z8 49 (0, 0))
  ws : wr.heap[gW]? = some (.cells WW 54 (0, 0))
  below : Below g w wr
theorem StepP.drewN {w wr : World} {g gW : Nat} {KK S z8 WW : Array Value} (h : StepP w wr g gW KK S z8 WW) (q : Nat) : StepP w (wr.drewN q) g gW KK S z8 WW :=
  ⟨h.low, h.ks, h.s, h.z, h.ws, below_drewN' h.below q⟩

theorem stOne_big (v : St) (k w : W64) : stOne v k w = v.h + bigE v.e + chW v.e v.f v.g + k + w := rfl
theorem stTwo_big (v : St) : stTwo v = bigA v.a + majW v.a v.b v.c := rfl

set_option maxHeartbeats 3200000 in
theorem pwith_any (ks : List W64) (hk : ks.length = 80) (s : St) (m : List W64) (hm : m.length = 16) (w : World) :
    Calls Try.prog 43 #[.agg (tabW ks), .agg (tabW s.l), .agg (tabW m)] w fun e w' => e = .returned (.agg (tabW (stepW ks s m).l)) ∧ Below w.heap.size w w' := by
  have hz8 := fun u => zero_tabW 49 8 (by kernel_rfl) u
  have hz80 := fun u => zero_tabW 54 80 (by kernel_rfl) u
  obtain ⟨S, hS⟩ : ∃ t, tabW s.l = t := ⟨_, rfl⟩
  obtain ⟨M, hM⟩ : ∃ t, tabW m = t := ⟨_, rfl⟩
  obtain ⟨z8, hz8e⟩ : ∃ t, tabW (List.replicate 8 0) = t := ⟨_, rfl⟩
  obtain ⟨z80, hz80e⟩ : ∃ t, tabW (List.replicate 80 0) = t := ⟨_, rfl⟩
  obtain ⟨WW, hWW⟩ : ∃ t, tabW (sch m 80) = t := ⟨_, rfl⟩
  obtain ⟨KK, hKK⟩ : ∃ t, tabW ks = t := ⟨_, rfl⟩
  have nS : S.size = 8 := by rw [← hS, tabW_size]; rfl
  have nM : M.size = 16 := by rw [← hM, tabW_size, hm]
  have n8 : z8.size = 8 := by rw [← hz8e, tabW_size]; simp
  have n80 : z80.size = 80 := by rw [← hz80e, tabW_size]; simp
  have nW : WW.size = 80 := by rw [← hWW, tabW_size, sch_len]
  have oW : WW.all (·.oneCell') = true := by rw [← hWW]; exact tabW_one _
  have iM : (Try.prog.info? 64).map (·.size) = some M.size := by rw [nM]; kernel_rfl
  have iW : (Try.prog.info? 54).map (·.size) = some WW.size := by rw [nW]; kernel_rfl
  have HSch : Hid (∀ W : World, Calls Try.prog 54 #[.agg M] W fun e w' => e = .returned (.agg WW) ∧ Below W.heap.size W w') := Lib.hid (by rw [← hM, ← hWW]; exact fun W => psched_any m hm W)
  have HCH : Hid (∀ (x y z : W64) (W : World), Calls Try.prog 56 #[.int .u64 (x.toNat : Int), .int .u64 (y.toNat : Int), .int .u64 (z.toNat : Int)] W fun e w' => e = .returned (.int .u64 ((chW x y z).toNat : Int)) ∧ w' = W) := Lib.hid fun x y z W => pch_any x y z W
  have HMA : Hid (∀ (x y z : W64) (W : World), Calls Try.prog 58 #[.int .u64 (x.toNat : Int), .int .u64 (y.toNat : Int), .int .u64 (z.toNat : Int)] W fun e w' => e = .returned (.int .u64 ((majW x y z).toNat : Int)) ∧ w' = W) := Lib.hid fun x y z W => pmaj_any x y z W
  have HB0 : Hid (∀ (x : W64) (W : World), Calls Try.prog 57 #[.int .u64 (x.toNat : Int)] W fun e w' => e = .returned (.int .u64 ((bigA x).toNat : Int)) ∧ w' = W) := Lib.hid fun x W => big0_any x W
  have HB1 : Hid (∀ (x : W64) (W : World), Calls Try.prog 55 #[.int .u64 (x.toNat : Int)] W fun e w' => e = .returned (.int .u64 ((bigE x).toNat : Int)) ∧ w' = W) := Lib.hid fun x W => big1_any x W
  rw [hS, hM, hKK]
  rw [hz8e] at hz8
  rw [hz80e] at hz80
  have HS := Lib.hid hS
  have HWW := Lib.hid hWW
  have HKK := Lib.hid hKK
  have HKL := Lib.hid hk
  clear hS hM hz8e hz80e hWW hKK hk
  obtain ⟨W0, hW0⟩ : ∃ W, (((w.alloc (.cells KK 54)).alloc (.cells S 49)).alloc (.cells M 64)).alloc (.cells z8 49) = W := ⟨_, rfl⟩
  have z0 : (w.alloc (.cells KK 54)).heap.size = w.heap.size + 1 := World.size_alloc _ _
  have z1 : ((w.alloc (.cells KK 54)).alloc (.cells S 49)).heap.size = w.heap.size + 1 + 1 := by rw [World.size_alloc, z0]
  have z2 : (((w.alloc (.cells KK 54)).alloc (.cells S 49)).alloc (.cells M 64)).heap.size = w.heap.size + 1 + 1 + 1 := by rw [World.size_alloc, z1]
  have z3 : W0.heap.size = w.heap.size + 1 + 1 + 1 + 1 := by rw [← hW0, World.size_alloc, z2]
  have a0 : W0.heap[w.heap.size]? = some (.cells KK 54 (0, 0)) := by
    rw [← hW0, heap_alloc_old _ _ (by rw [z2]; omega), heap_alloc_old _ _ (by rw [z1]; omega), heap_alloc_old _ _ (by rw [z0]; omega)]
    exact heap_alloc_new _ _
  have a1 : W0.heap[w.heap.size + 1]? = some (.cells S 49 (0, 0)) := by
    rw [← hW0, heap_alloc_old _ _ (by rw [z2]; omega), heap_alloc_old _ _ (by rw [z1]; omega), ← z0]
    exact heap_alloc_new _ _
  have a2 : W0.heap[w.heap.size + 1 + 1]? = some (.cells M 64 (0, 0)) := by
    rw [← hW0, heap_alloc_old _ _ (by rw [z2]; omega), ← z1]
    exact heap_alloc_new _ _
  have a3 : W0.heap[w.heap.size + 1 + 1 + 1]? = some (.cells z8 49 (0, 0)) := by
    rw [← hW0, ← z2]
    exact heap_alloc_new _ _
  have ab : Below w.heap.size w W0 := by rw [← hW0]; exact below_alloc (below_alloc (below_alloc (below_alloc (Below.refl _ w) _) _) _) _
  have hM0 : ((((w.alloc (.cells KK 54)).alloc (.cells S 49)).alloc (.cells M 64)).alloc (.cells z8 49)).heap[w.heap.size + 1 + 1]? = some (.cells M 64 (0, 0)) := by rw [hW0]; exact a2
  have A0 := Lib.hid a0
  have A1 := Lib.hid a1
  have A3 := Lib.hid a3
  have AB := Lib.hid ab
  have AS := Lib.hid z3
  have HW0 := Lib.hid hW0
  clear a0 a1 a2 a3 ab z0 z1 z2 z3 hW0
  go_enter Try.func43, Try.ntmps43
  go_wp2_with (refine wpList_load_row rfl 64 (.tmp 5) rfl (w.heap.size + 1 + 1) rfl 64 M (0, 0) _ hM0 Try.underlying64 rfl iM ?_)
  rw [HW0.out]
  with_reducible refine (HSch.out _).mono ?_
  rintro e w1 ⟨rfl, hb1⟩
  have hs1 : w.heap.size + 1 + 1 + 1 + 1 ≤ w1.heap.size := by have := hb1.size; rwa [AS.out] at this
  have b0 := hb1.block w.heap.size (by rw [AS.out]; omega)
  rw [A0.out] at b0
  have b1 := hb1.block (w.heap.size + 1) (by rw [AS.out]; omega)
  rw [A1.out] at b1
  have b3 := hb1.block (w.heap.size + 1 + 1 + 1) (by rw [AS.out]; omega)
  rw [A3.out] at b3
  have bb : Below w.heap.size w w1 := below_next AB.out hb1
  have hW0 : (w1.alloc (.cells z80 54)).heap[w1.heap.size]? = some (.cells z80 54 (0, 0)) := heap_alloc_new _ _
  have zW : z80.size = WW.size := by rw [n80, nW]
  have HI : Hid (StepP w ((w1.alloc (.cells z80 54)).setRow w1.heap.size WW) w.heap.size w1.heap.size KK S z8 WW) := by
    refine Lib.hid ⟨by omega, ?_, ?_, ?_, setRow_heap _ _ _ _ _ _ hW0, below_setRow (below_alloc bb _) (by omega)⟩
    · rw [setRow_other _ _ _ _ (by omega), heap_alloc_old _ _ (by omega)]; exact b0
    · rw [setRow_other _ _ _ _ (by omega), heap_alloc_old _ _ (by omega)]; exact b1
    · rw [setRow_other _ _ _ _ (by omega), heap_alloc_old _ _ (by omega)]; exact b3
  clear hs1 b0 b1 b3 bb hb1 A0 A1 A3 AB AS HW0 hM0 HSch
  go_wp2_with (refine wpList_store_row rfl 54 (.tmp 7) (.tmp 20) rfl w1.heap.size WW rfl rfl 54 z80 hW0 iW zW oW ?_)
  obtain ⟨W4, hW4⟩ : ∃ W, (w1.alloc (.cells z80 54)).setRow w1.heap.size WW = W := ⟨_, rfl⟩
  obtain ⟨g, hg⟩ : ∃ g, w.heap.size = g := ⟨_, rfl⟩
  obtain ⟨gW, hgW⟩ : ∃ g, w1.heap.size = g := ⟨_, rfl⟩
  rw [hW4, hg, hgW] at HI
  rw [hW4, hg, hgW]
  have HG := Lib.hid hg
  clear hW0 hW4 hg hgW
  obtain ⟨sa, sb, sc, sd, se, sf, sy, sz⟩ := s
  have cs : ∀ j, j < 8 → W4.cell? ⟨g + 1, j, none⟩ = some (.int .u64 ((wG [sa, sb, sc, sd, se, sf, sy, sz] j).toNat : Int)) := fun j hj => by rw [cell_of_row _ _ _ _ _ _ HI.out.s, ← HS.out, tabW_get _ _ hj]; rfl
  have c0 : W4.cell? ⟨g + 1, 0, none⟩ = some (.int .u64 (sa.toNat : Int)) := cs 0 (by omega)
  have c1 : W4.cell? ⟨g + 1, 1, none⟩ = some (.int .u64 (sb.toNat : Int)) := cs 1 (by omega)
  have c2 : W4.cell? ⟨g + 1, 2, none⟩ = some (.int .u64 (sc.toNat : Int)) := cs 2 (by omega)
  have c3 : W4.cell? ⟨g + 1, 3, none⟩ = some (.int .u64 (sd.toNat : Int)) := cs 3 (by omega)
  have c4 : W4.cell? ⟨g + 1, 4, none⟩ = some (.int .u64 (se.toNat : Int)) := cs 4 (by omega)
  have c5 : W4.cell? ⟨g + 1, 5, none⟩ = some (.int .u64 (sf.toNat : Int)) := cs 5 (by omega)
  have c6 : W4.cell? ⟨g + 1, 6, none⟩ = some (.int .u64 (sy.toNat : Int)) := cs 6 (by omega)
  have c7 : W4.cell? ⟨g + 1, 7, none⟩ = some (.int .u64 (sz.toNat : Int)) := cs 7 (by omega)
  clear cs
  go_quiet (fail)
  obtain ⟨W5, hW5⟩ : ∃ W, W4.drewN nq = W := ⟨_, rfl⟩
  have HI2 : Hid (StepP w W5 g gW KK S z8 WW) := Lib.hid (by rw [← hW5]; exact HI.out.drewN nq)
  clear HI c0 c1 c2 c3 c4 c5 c6 c7
  rw [hW5]
  go_wp2_with fail
  go_loopw [8, 9, 10, 11, 12, 13, 14, 15, 37] (fun a b c d e f y z i wr => ∃ k : Nat, k ≤ 80 ∧ i = .int .i64 (k : Int) ∧ ∃ v : St, rounds ks (sch m 80) ⟨sa, sb, sc, sd, se, sf, sy, sz⟩ k = v ∧
      a = .int .u64 (v.a.toNat : Int) ∧ b = .int .u64 (v.b.toNat : Int) ∧ c = .int .u64 (v.c.toNat : Int) ∧ d = .int .u64 (v.d.toNat : Int) ∧ e = .int .u64 (v.e.toNat : Int) ∧ f = .int .u64 (v.f.toNat : Int) ∧ y = .int .u64 (v.g.toNat : Int) ∧ z = .int .u64 (v.h.toNat : Int) ∧
      Hid (StepP w wr g gW KK S z8 WW)) (fun _ _ _ _ _ _ _ _ i _ => 80 - (intOf i).toNat)
  case atStart => exact ⟨0, by omega, rfl, ⟨sa, sb, sc, sd, se, sf, sy, sz⟩, rfl, rfl, rfl, rfl, rfl, rfl, rfl, rfl, rfl, HI2⟩
  case round =>
    clear HI2
    obtain ⟨k, hk, rfl, ⟨a, b, c, d, e, f, y, z⟩, hv, rfl, rfl, rfl, rfl, rfl, rfl, rfl, rfl, HI⟩ := hrel
    by_cases hlt : k < 80
    · obtain ⟨kw, hkw⟩ : ∃ x, wG ks k = x := ⟨_, rfl⟩
      obtain ⟨ww, hww⟩ : ∃ x, wG (sch m 80) k = x := ⟨_, rfl⟩
      have hv2 : rounds ks (sch m 80) ⟨sa, sb, sc, sd, se, sf, sy, sz⟩ (k + 1) = stNext ⟨a, b, c, d, e, f, y, z⟩ kw ww := by rw [rounds, hv, hkw, hww]
      have ck : wr.cell? ⟨g, k, none⟩ = some (.int .u64 (kw.toNat : Int)) := by rw [cell_of_row _ _ _ _ _ _ HI.out.ks, ← HKK.out, tabW_get _ _ (by rw [HKL.out]; exact hlt), hkw]
      have cw : wr.cell? ⟨gW, k, none⟩ = some (.int .u64 (ww.toNat : Int)) := by rw [cell_of_row _ _ _ _ _ _ HI.out.ws, ← HWW.out, tabW_get _ _ (by rw [sch_len]; exact hlt), hww]
      unfold stNext at hv2
      rw [stOne_big, stTwo_big] at hv2
      have R1 := Lib.hid (HB1.out e)
      have R2 := Lib.hid (HCH.out e f y)
      have R3 := Lib.hid (HB0.out a)
      have R4 := Lib.hid (HMA.out a b c)
      clear hkw hww hv
      simp only at hv2
      generalize bigE e = r1 at *
      generalize chW e f y = r2 at *
      generalize bigA a = r3 at *
      generalize majW a b c = r4 at *
      have f1 := add_w z r1
      generalize z + r1 = u1 at *
      have f2 := add_w u1 r2
      generalize u1 + r2 = u2 at *
      have f3 := add_w u2 kw
      generalize u2 + kw = u3 at *
      have f4 := add_w u3 ww
      generalize u3 + ww = one at *
      have f5 := add_w r3 r4
      generalize r3 + r4 = two at *
      have f6 := add_w one two
      generalize one + two = n0 at *
      have f7 := add_w d one
      generalize d + one = n4 at *
      have HV := Lib.hid hv2
      have p1 : 0 ≤ (k : Int) := by omega
      have p2 : (k : Int) < 80 := by omega
      have HI2 := Lib.hid (HI.out.drewN 1)
      clear hv2 HI HB0 HB1 HCH HMA
      go_wp2_with fail
      refine wp_region_still_tail 17 (by kernel_rfl) (by kernel_rfl) ?_
      simp only [List.take_succ_cons, List.take_zero, List.drop_succ_cons, List.drop_zero]
      iterate 2 still_step
      still_call (R1.out _)
      iterate 4 still_step
      still_call (R2.out _)
      iterate 9 still_step
      refine wpStill_nil ?_
      go_wp2_with (first | ((with_reducible refine (R3.out _).mono ?_); rintro e w' ⟨rfl, rfl⟩) | ((with_reducible refine (R4.out _).mono ?_); rintro e w' ⟨rfl, rfl⟩))
      go_roundw
      case rel => exact ⟨k + 1, by omega, by go_num, _, HV.out, rfl, rfl, rfl, rfl, rfl, rfl, rfl, rfl, HI2⟩
      case measure => simp [intOf]; omega
    · have hk80 : k = 80 := by omega
      have hge : ¬ (k : Int) < 80 := by omega
      have hE : (stepW ks ⟨sa, sb, sc, sd, se, sf, sy, sz⟩ m).l = [sa + a, sb + b, sc + c, sd + d, se + e, sf + f, sy + y, sz + z] := by
        have hv8 := hv
        rw [hk80] at hv8
        unfold stepW
        rw [hv8, BitVec.add_comm sa, BitVec.add_comm sb, BitVec.add_comm sc, BitVec.add_comm sd, BitVec.add_comm se, BitVec.add_comm sf, BitVec.add_comm sy, BitVec.add_comm sz]
        rfl
      have cs : ∀ j, j < 8 → wr.cell? ⟨g + 1, j, none⟩ = some (.int .u64 ((wG [sa, sb, sc, sd, se, sf, sy, sz] j).toNat : Int)) := fun j hj => by rw [cell_of_row _ _ _ _ _ _ HI.out.s, ← HS.out, tabW_get _ _ hj]; rfl
      have c0 : wr.cell? ⟨g + 1, 0, none⟩ = some (.int .u64 (sa.toNat : Int)) := cs 0 (by omega)
      have c1 : wr.cell? ⟨g + 1, 1, none⟩ = some (.int .u64 (sb.toNat : Int)) := cs 1 (by omega)
      have c2 : wr.cell? ⟨g + 1, 2, none⟩ = some (.int .u64 (sc.toNat : Int)) := cs 2 (by omega)
      have c3 : wr.cell? ⟨g + 1, 3, none⟩ = some (.int .u64 (sd.toNat : Int)) := cs 3 (by omega)
      have c4 : wr.cell? ⟨g + 1, 4, none⟩ = some (.int .u64 (se.toNat : Int)) := cs 4 (by omega)
      have c5 : wr.cell? ⟨g + 1, 5, none⟩ = some (.int .u64 (sf.toNat : Int)) := cs 5 (by omega)
      have c6 : wr.cell? ⟨g + 1, 6, none⟩ = some (.int .u64 (sy.toNat : Int)) := cs 6 (by omega)
      have c7 : wr.cell? ⟨g + 1, 7, none⟩ = some (.int .u64 (sz.toNat : Int)) := cs 7 (by omega)
      have f0 := add_w sa a
      have f1 := add_w sb b
      have f2 := add_w sc c
      have f3 := add_w sd d
      have f4 := add_w se e
      have f5 := add_w sf f
      have f6 := add_w sy y
      have f7 := add_w sz z
      generalize sa + a = n0 at *
      generalize sb + b = n1 at *
      generalize sc + c = n2 at *
      generalize sd + d = n3 at *
      generalize se + e = n4 at *
      generalize sf + f = n5 at *
      generalize sy + y = n6 at *
      generalize sz + z = n7 at *
      obtain ⟨V, hV⟩ : ∃ V : Array Value, #[.int .u64 (n0.toNat : Int), .int .u64 (n1.toNat : Int), .int .u64 (n2.toNat : Int), .int .u64 (n3.toNat : Int), .int .u64 (n4.toNat : Int), .int .u64 (n5.toNat : Int), .int .u64 (n6.toNat : Int), .int .u64 (n7.toNat : Int)] = V := ⟨_, rfl⟩
      have nV : V.size = 8 := by rw [← hV]; rfl
      have oV : V.all (·.oneCell') = true := by rw [← hV]; exact tabW_one [n0, n1, n2, n3, n4, n5, n6, n7]
      have iV : (Try.prog.info? 49).map (·.size) = some V.size := by rw [nV]; kernel_rfl
      have sV : z8.size = V.size := by rw [nV, n8]
      have HE : Hid (tabW (stepW ks ⟨sa, sb, sc, sd, se, sf, sy, sz⟩ m).l = V) := Lib.hid (by rw [hE, ← hV]; rfl)
      have h0 := HI.out.z
      have HB := Lib.hid (show Below w.heap.size w (wr.setRow (g + 1 + 1 + 1) V) by
        rw [HG.out]
        exact below_setRow HI.out.below (by omega))
      have hB := build_w z8 hz8 n8 n0.toNat n1.toNat n2.toNat n3.toNat n4.toNat n5.toNat n6.toNat n7.toNat wr
      rw [hV] at hB
      have HBB := Lib.hid hB
      clear hB hV nV hE cs hv HI HB0 HB1 HCH HMA hk80
      go_wp2_with (first
        | (refine wpList_runs (o := ⟨some 109, _, _, _, _, _⟩) rfl (.agg V) ?_ ?_
           · refine Eq.trans (b := Sem.run Try.prog (do pure (Next.value (← Instr.build 49 #[(0, .int .u64 n0.toNat), (1, .int .u64 n1.toNat), (2, .int .u64 n2.toNat), (3, .int .u64 n3.toNat), (4, .int .u64 n4.toNat), (5, .int .u64 n5.toNat), (6, .int .u64 n6.toNat), (7, .int .u64 n7.toNat)]))) wr) (by kernel_rfl) (run_value HBB.out))
        | (refine wpList_store_row rfl 49 (.tmp 6) (.tmp 109) rfl (g + 1 + 1 + 1) V rfl rfl 49 z8 h0 iV sV oV ?_))
      (try simp only [Exit.inBlock, Exit.then])
      refine bodyPost_ret (results_cell_row rfl _ _ (g + 1 + 1 + 1) _ V _ _ rfl (setRow_heap wr _ _ _ _ _ h0) Try.underlying49 rfl iV) rfl ?_
      exact ⟨by rw [HE.out], HB.out⟩

/-- what stands where, while it is asked for the constants and steps -/
structure StepS (w W : World) (g : Nat) (S M : Array Value) : Prop where
  s : W.heap[g]? = some (.cells S 49 (0, 0))
  m : W.heap[g + 1]? = some (.cells M 64 (0, 0))
  z : ∃ z : Array Value, z.size = 8 ∧ W.heap[g + 1 + 1]? = some (.cells z 49 (0, 0))
  below : Below g w W
theorem StepS.lt {w W : World} {g : Nat} {S M : Array Value} (h : StepS w W g S M) : g + 1 + 1 < W.heap.size := by
  obtain ⟨z, _, hz⟩ := h.z
  exact (Array.getElem?_eq_some_iff.1 hz).1
theorem StepS.call {w W W' : World} {g : Nat} {S M : Array Value} (h : StepS w W g S M) (hb : Below W.heap.size W W') : StepS w W' g S M := by
  have hl := h.lt
  refine ⟨?_, ?_, ?_, h.below.trans (hb.mono (by omega))⟩
  · rw [hb.block _ (by omega)]; exact h.s
  · rw [hb.block _ (by omega)]; exact h.m
  · rw [hb.block _ (by omega)]; exact h.z
theorem StepS.drew {w W : World} {g : Nat} {S M : Array Value} (h : StepS w W g S M) : StepS w W.drew g S M := ⟨h.s, h.m, h.z, h.below.drew⟩
theorem StepS.set {w W : World} {g : Nat} {S M : Array Value} (h : StepS w W g S M) {R : Array Value} (hR : R.size = 8) : StepS w (W.setRow (g + 1 + 1) R) g S M := by
  obtain ⟨z, _, hz⟩ := h.z
  exact ⟨by rw [setRow_other _ _ _ _ (by omega)]; exact h.s, by rw [setRow_other _ _ _ _ (by omega)]; exact h.m, ⟨R, hR, setRow_heap _ _ _ _ _ _ hz⟩, below_setRow h.below (by omega)⟩

end Go.Proofs.Ytbkcglfdliicpaa

