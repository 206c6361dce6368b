/- The contracts of the reference's Bytes and Canonical. Written by wip/tools/mk_can9.py. -/
import Derived.Test.YtlhnjdnkjgnooaaRefFe9F
import Derived.Test.YtlhnjdnkjgnooaaGroo1
namespace Go.Proofs.Ytlhnjdnkjgnooaa
open Go.RowKit
set_option linter.unusedVariables false
set_option maxRecDepth 100000

theorem i64_and255 (n : Int) : bits .and .i64 n 255 = n % 256 := by
  have h127 : (BitVec.ofInt 64 255).toNat = 2 ^ 8 - 1 := by decide
  have key : (BitVec.ofInt 64 n &&& BitVec.ofInt 64 255).toNat = (n % ((2 ^ 64 : Nat) : Int)).toNat % 2 ^ 8 := by
    rw [BitVec.toNat_and, h127, Nat.and_two_pow_sub_one_eq_mod, BitVec.toNat_ofInt]
  show IntKind.i64.wrap ((BitVec.ofInt 64 n &&& BitVec.ofInt 64 255).toNat : Nat) = n % 256
  rw [key, IntKind.wrap_i64]
  omega

set_option maxHeartbeats 1600000 in
theorem rbytes9_any (x : Nat) (w : World) : Calls Try.prog 13 #[.agg (tabI (dgN 16 (x : Int)))] w fun e w' => e = .returned (.agg (arrB (leB 32 x))) ∧ Below w.heap.size w w' := by
  have hz := fun u => zero_arr 22 (arrB (List.replicate 32 0)) 32 (by kernel_rfl) u
  obtain ⟨z0, hz0e⟩ : ∃ z, arrB (List.replicate 32 0) = z := ⟨_, rfl⟩
  have n0 : z0.size = 32 := by rw [← hz0e, arrB_size]; simp
  rw [hz0e] at hz
  have s0 : (Try.prog.info? 22).map (·.size) = some z0.size := by rw [n0]; kernel_rfl
  have o0 : z0.all (·.oneCell') = true := by rw [← hz0e]; exact arrB_one _
  obtain ⟨XX, hXX⟩ : ∃ X, tabI (dgN 16 (x : Int)) = X := ⟨_, rfl⟩
  have HXX := Lib.hid hXX
  rw [hXX]
  obtain ⟨R, hR⟩ : ∃ R, arrB (leB 32 x) = R := ⟨_, rfl⟩
  have HR := Lib.hid hR
  have nR : R.size = 32 := by rw [← hR, arrB_size, leB_len]
  have oR : R.all (·.oneCell') = true := by rw [← hR]; exact arrB_one _
  have iR : (Try.prog.info? 22).map (·.size) = some R.size := by rw [nR]; kernel_rfl
  have zR : z0.size = R.size := by rw [n0, nR]
  rw [hR]
  have h2 := tri_new w XX z0 z0 29 22 22
  have HI : Hid (Tri 29 22 22 w ((((w.alloc (.cells XX 29)).alloc (.cells z0 22)).alloc (.cells z0 22)).setRow (w.heap.size + 1 + 1) z0) w.heap.size XX z0 (arrB (byteTo x 0))) := Lib.hid (by rw [byteTo_zero, hz0e]; exact tri_start _ _ _ _ _ _ _ _)
  clear hz0e n0 hXX hR nR
  go_enter Try.func13, Try.ntmps13
  go_wp2_with (refine wpList_store_row rfl 22 (.tmp 3) (.tmp 5) rfl (w.heap.size + 1 + 1) z0 rfl rfl 22 z0 h2 s0 rfl o0 ?_)
  obtain ⟨W1, hW1⟩ : ∃ W, (((w.alloc (.cells XX 29)).alloc (.cells z0 22)).alloc (.cells z0 22)).setRow (w.heap.size + 1 + 1) z0 = W := ⟨_, rfl⟩
  obtain ⟨g, hg⟩ : ∃ g, w.heap.size = g := ⟨_, rfl⟩
  rw [hg] at hW1
  rw [hg, hW1] at HI
  rw [hg, hW1]
  have HG := Lib.hid hg
  clear hW1 hg h2
  go_loopw [4] (fun i wr => ∃ k : Nat, k ≤ 16 ∧ i = .int .i64 (k : Int) ∧ Hid (Tri 29 22 22 w wr g XX z0 (arrB (byteTo x k)))) (fun i _ => 16 - (intOf i).toNat)
  case atStart => exact ⟨0, by omega, rfl, HI⟩
  case round =>
    clear HI
    obtain ⟨k, hk, rfl, HI⟩ := hrel
    by_cases hlt : k < 16
    · obtain ⟨j, hj⟩ : ∃ j, 2 * k = j := ⟨_, rfl⟩
      obtain ⟨j1, hj1⟩ : ∃ j1, j + 1 = j1 := ⟨_, rfl⟩
      have hst := byteTo_step x k hlt
      have hbl := byteTo_len x k
      obtain ⟨y, hy⟩ : ∃ y, x / 65536 ^ k % 65536 = y := ⟨_, rfl⟩
      obtain ⟨d, hd⟩ : ∃ d : Int, (y : Int) = d := ⟨_, rfl⟩
      have cx : wr.cell? ⟨g, k, none⟩ = some (.int .i64 d) := by rw [cell_of_row _ _ _ _ _ _ HI.out.x, ← HXX.out, tabI_get _ _ (by rw [dgN_len]; exact hlt), dgN_getN _ _ _ hlt, hy, hd]
      rw [hy, hj, hj1] at hst
      have hyl : y < 65536 := by rw [← hy]; exact Nat.mod_lt _ (by omega)
      obtain ⟨lo, hlo⟩ : ∃ a : Int, d % 256 = a := ⟨_, rfl⟩
      obtain ⟨hi, hhi⟩ : ∃ a : Int, d / 256 = a := ⟨_, rfl⟩
      have el : (((UInt8.ofNat (y % 256)).toNat : Nat) : Int) = lo := by simp; omega
      have eh : (((UInt8.ofNat (y / 256)).toNat : Nat) : Int) = hi := by simp; omega
      have cz : wr.cell? ⟨g + 1 + 1, j, none⟩ = some (.int .u8 (((byteTo x k).getD j 0).toNat : Int)) := by rw [cell_of_row _ _ _ _ _ _ HI.out.z, arrB_get _ _ (by omega)]
      have fx := HI.out.fz j
      have HJ1 := HI.out.set j (.int .u8 lo)
      rw [← el, arrB_set, el] at HJ1
      have cz1 : (wr.setCell ⟨g + 1 + 1, j, none⟩ (.int .u8 lo)).cell? ⟨g + 1 + 1, j1, none⟩ = some (.int .u8 ((((byteTo x k).set j (UInt8.ofNat (y % 256))).getD j1 0).toNat : Int)) := by rw [cell_of_row _ _ _ _ _ _ HJ1.z, arrB_get _ _ (by rw [List.length_set]; omega)]
      have fx1 := HJ1.fz j1
      have HJ2 := HJ1.set j1 (.int .u8 hi)
      rw [← eh, arrB_set, eh, hst] at HJ2
      have HI2 := Lib.hid HJ2
      generalize (((byteTo x k).set j (UInt8.ofNat (y % 256))).getD j1 0) = old1 at *
      generalize ((byteTo x k).getD j 0) = old at *
      have f0 : (2 : Int) * (k : Int) = (j : Int) := by omega
      have f1 : (j : Int) + 1 = (j1 : Int) := by omega
      have f2 : bits .and .i64 d 255 = lo := by rw [i64_and255, hlo]
      have f3 : IntKind.u8.wrap lo = lo := by rw [IntKind.wrap_u8]; omega
      have f4 : IntKind.u8.wrap hi = hi := by rw [IntKind.wrap_u8]; omega
      have b1 : 0 ≤ (j : Int) := by omega
      have b2 : (j : Int) < 32 := by omega
      have b3 : 0 ≤ (j1 : Int) := by omega
      have b4 : (j1 : Int) < 32 := by omega
      have b5 : 0 ≤ (k : Int) := by omega
      have b6 : (k : Int) < 16 := by omega
      clear HI hj hj1 hst hbl hy hd hyl hlo el eh HJ1 HJ2
      go_wp2_with fail
      go_roundw
      case rel => exact ⟨k + 1, by omega, by go_num, HI2⟩
      case measure => simp [intOf]; omega
    · obtain rfl : k = 16 := by omega
      rw [byteTo_end, HR.out] at HI
      have h1 := HI.out.z
      have h0 := HI.out.y
      have HB := Lib.hid (show Below w.heap.size w (wr.setRow (g + 1) R) by rw [HG.out]; exact below_row HI.out.below (by omega))
      clear HI
      go_wp2_with (first
        | (refine wpList_load_row rfl 22 (.tmp 3) rfl (g + 1 + 1) rfl 22 R (0, 0) _ h1 Try.underlying22 rfl iR ?_)
        | (refine wpList_store_row rfl 22 (.tmp 2) (.tmp 27) rfl (g + 1) R rfl rfl 22 z0 h0 iR zR oR ?_))
      (try simp only [Exit.inBlock, Exit.then])
      refine bodyPost_ret (results_cell_row rfl _ _ (g + 1) _ R _ _ rfl (setRow_heap _ _ _ _ _ _ h0) Try.underlying22 rfl iR) rfl ?_
      exact ⟨rfl, HB.out⟩

set_option maxHeartbeats 1600000 in
theorem rcan9_any (l : List UInt8) (hl : l.length = 32) (w : World) : Calls Try.prog 17 #[.agg (arrB l)] w fun e w' => e = .returned (.bool (canN l)) ∧ Below w.heap.size w w' := by
  rw [← canN_iff hl]
  have htl := topC_len l
  rw [hl] at htl
  have HFR : Hid (∀ W : World, Calls Try.prog 11 #[.agg (arrB (topC l))] W fun e w' => e = .returned (.agg (tabI (dgN 16 (feN (topC l) : Int)))) ∧ Below W.heap.size W w') := Lib.hid fun W => rfrom9_any _ htl W
  have HBY : Hid (∀ W : World, Calls Try.prog 13 #[.agg (tabI (dgN 16 (feN (topC l) : Int)))] W fun e w' => e = .returned (.agg (arrB (leB 32 (feN (topC l))))) ∧ Below W.heap.size W w') := Lib.hid fun W => rbytes9_any _ W
  have heq := fun u : World => eqB_run (P := Try.prog) 22 5 32 (leB 32 (feN (topC l))) (topC l) (leB_len _ _) htl Try.underlying22 Try.underlying5 (fun w => by kernel_rfl) (fun w => by kernel_rfl) u
  obtain ⟨res, hres⟩ : ∃ r, decide (leB 32 (feN (topC l)) = topC l) = r := ⟨_, rfl⟩
  rw [hres] at heq ⊢
  obtain ⟨Q, hQ⟩ : ∃ Q, tabI (dgN 16 (feN (topC l) : Int)) = Q := ⟨_, rfl⟩
  rw [hQ] at HFR HBY
  obtain ⟨B2, hB2⟩ : ∃ B, arrB (leB 32 (feN (topC l))) = B := ⟨_, rfl⟩
  rw [hB2] at HBY heq
  have h0 : (w.alloc (.cells (arrB l) 22)).heap[w.heap.size]? = some (.cells (arrB l) 22 (0, 0)) := heap_alloc_new _ _
  obtain ⟨a, ha⟩ : ∃ a, l.getD 31 0 = a := ⟨_, rfl⟩
  have cx : (w.alloc (.cells (arrB l) 22)).cell? ⟨w.heap.size, 31, none⟩ = some (.int .u8 (a.toNat : Int)) := by rw [cell_of_row _ _ _ _ _ _ h0, arrB_get _ _ (by omega), ha]
  have f1 : bits .and .u8 (a.toNat : Int) 127 = ((a &&& 127).toNat : Int) := u8_and' a 127
  have eT : (arrB l).setIfInBounds 31 (.int .u8 ((a &&& 127).toNat : Int)) = arrB (topC l) := by rw [arrB_set, ← ha]; rfl
  have h1 : (w.alloc (.cells (arrB (topC l)) 22)).heap[w.heap.size]? = some (.cells (arrB (topC l)) 22 (0, 0)) := heap_alloc_new _ _
  have hb : Below w.heap.size w (w.alloc (.cells (arrB (topC l)) 22)) := (Below.refl w.heap.size w).alloc (Nat.le_refl _) _
  have nT : (arrB (topC l)).size = 32 := by rw [arrB_size, htl]
  have iT : (Try.prog.info? 22).map (·.size) = some (arrB (topC l)).size := by rw [nT]; kernel_rfl
  obtain ⟨L0, hL0⟩ : ∃ L, arrB l = L := ⟨_, rfl⟩
  rw [hL0] at cx eT ⊢
  obtain ⟨T, hT⟩ : ∃ L, arrB (topC l) = L := ⟨_, rfl⟩
  rw [hT] at HFR heq h1 hb iT eT
  have fx := frozen_row h0 31
  rw [hL0] at fx
  have hm32 : Try.prog.eqGuardType Try.prog.depth 22 = false := by kernel_rfl
  obtain ⟨m, hm⟩ : ∃ m : Int, ((a &&& 127).toNat : Int) = m := ⟨_, rfl⟩
  rw [hm] at f1 eT
  obtain ⟨W1, hW1⟩ : ∃ W1, w.alloc (.cells T 22) = W1 := ⟨_, rfl⟩
  rw [hW1] at h1 hb
  have hlt : w.heap.size < W1.heap.size := (Array.getElem?_eq_some_iff.1 h1).1
  have HROW : Hid (∀ W, Below W1.heap.size W1 W → W.heap[w.heap.size]? = some (.cells T 22 (0, 0))) := Lib.hid fun W h => by rw [h.block _ hlt]; exact h1
  have HB := Lib.hid hb
  have HW1 := Lib.hid hW1
  have HET := Lib.hid eT
  clear htl hl hres hQ hB2 h0 ha eT h1 hb nT hL0 hT hm hlt hW1
  go_enter Try.func17, Try.ntmps17
  go_upto_region 2 with fail
  rw [HET.out, HW1.out]
  clear HW1 HET cx f1 fx
  refine wp_region_noPanic ?_
  refine wp_region_held_drew (S := fun W => Below W1.heap.size W1 W) (by kernel_rfl) (by exact (Below.refl _ _).drew) (fun hS => ?_)
  refine' take_at 0 rfl (by kernel_rfl) (by kernel_rfl) (by kernel_rfl) (fun _ _ _ h => h) (by rfl) hS ?_ ?_ ?_
  rotate_left 2
  · intro W hSW; exact run_loadR rfl rfl (HROW.out W hSW) Try.underlying22 rfl iT
  · simp only [List.set_cons_succ, List.set_cons_zero]; rfl
  refine' take_at 3 rfl (by kernel_rfl) (by kernel_rfl) (by kernel_rfl) (fun _ _ _ h => h) (by rfl) hS ?_ ?_ ?_
  rotate_left 2
  · intro W hSW; exact run_loadR rfl rfl (HROW.out W hSW) Try.underlying22 rfl iT
  · simp only [List.set_cons_succ, List.set_cons_zero]; rfl
  refine call_at 1 rfl (by kernel_rfl) (by rfl) (fun K hK => ?_)
  go_simp
  with_reducible refine (HFR.out _).mono ?_
  rintro e v1 ⟨rfl, hb1⟩
  have kb1 := below_next hS hb1
  clear hS hb1
  refine hK.out _ _ (by exact kb1) (fun hS => ?_)
  clear hK K
  refine call_at 2 rfl (by kernel_rfl) (by rfl) (fun K hK => ?_)
  go_simp
  with_reducible refine (HBY.out _).mono ?_
  rintro e v2 ⟨rfl, hb2⟩
  have kb2 := below_next kb1 hb2
  clear hS hb2
  refine hK.out _ _ (by exact kb2) (fun hS => ?_)
  clear hK K
  refine' take_at 4 rfl (by kernel_rfl) (by kernel_rfl) (by kernel_rfl) (fun _ _ _ h => h) (by rfl) hS ?_ ?_ ?_
  rotate_left 2
  · intro W hSW; exact run_eql2 rfl rfl rfl hm32 (heq W)
  · simp only [List.set_cons_succ, List.set_cons_zero]; rfl
  refine' take_at 5 rfl (by kernel_rfl) (by kernel_rfl) (by kernel_rfl) (fun _ _ _ h => h) (by rfl) hS ?_ ?_ ?_
  rotate_left 2
  · intro W hSW; go_simp; try with_reducible rfl
  · simp only [List.set_cons_succ, List.set_cons_zero]; rfl
  refine wpAnyH_done (by kernel_rfl) ?_ _
  refine NoPanic.normal ?_
  clear hS
  (try simp only [Act.put])
  go_wp2_with fail
  go_ret
  exact ⟨rfl, below_next HB.out kb2⟩
end Go.Proofs.Ytlhnjdnkjgnooaa

