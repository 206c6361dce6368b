/- The contract of the developers' Canonical; the package whole. -/
import Derived.Test.YtlhnjdnkjgnooaaFeD
import Derived.Test.YtlhnjdnkjgnooaaFeE
import Derived.Test.YtlhnjdnkjgnooaaFeH
namespace Go.Proofs.Ytlhnjdnkjgnooaa
open Go.RowKit
set_option linter.unusedVariables false
set_option maxRecDepth 100000

set_option maxHeartbeats 1600000 in
theorem fecan_any (l : List UInt8) (hl : l.length = 32) (w : World) : Calls Try.prog 16 #[.agg (arrB l)] w (RetV w (.bool (canN l))) := by
  rw [← canN_iff hl]
  have htl := topC_len l
  rw [hl] at htl
  have HFR : Hid (∀ W : World, Calls Try.prog 10 #[.agg (arrB (topC l))] W (RetFe feR W (feN (topC l)))) := Lib.hid fun W => fefrom_any _ htl W
  have heq := fun u : World => eqB_run (P := Try.prog) 22 5 32 (leB 32 (feN (topC l))) (topC l) (leB_len _ _) htl Try.underlying22 Try.underlying5 (fun w => by kernel_rfl) (fun w => by kernel_rfl) u
  obtain ⟨res, hres⟩ : ∃ r, decide (leB 32 (feN (topC l)) = topC l) = r := ⟨_, rfl⟩
  rw [hres] at heq ⊢
  have HBY : Hid (∀ (S : Array Value), feR S (feN (topC l)) → ∀ W : World, Calls Try.prog 12 #[.agg S] W (RetV W (.agg (arrB (leB 32 (feN (topC l))))))) := Lib.hid fun S hS W => febytes_any hS W
  obtain ⟨B2, hB2⟩ : ∃ B, arrB (leB 32 (feN (topC l))) = B := ⟨_, rfl⟩
  rw [hB2] at HBY heq
  have h0 : (w.alloc (.cells (arrB l) 22)).heap[w.heap.size]? = some (.cells (arrB l) 22 (0, 0)) := heap_alloc_new _ _
  obtain ⟨a, ha⟩ : ∃ a, l.getD 31 0 = a := ⟨_, rfl⟩
  have cx : (w.alloc (.cells (arrB l) 22)).cell? ⟨w.heap.size, 31, none⟩ = some (.int .u8 (a.toNat : Int)) := by rw [cell_of_row _ _ _ _ _ _ h0, arrB_get _ _ (by omega), ha]
  have f1 : bits .and .u8 (a.toNat : Int) 127 = ((a &&& 127).toNat : Int) := u8_and' a 127
  have eT : (arrB l).setIfInBounds 31 (.int .u8 ((a &&& 127).toNat : Int)) = arrB (topC l) := by rw [arrB_set, ← ha]; rfl
  have h1 : (w.alloc (.cells (arrB (topC l)) 22)).heap[w.heap.size]? = some (.cells (arrB (topC l)) 22 (0, 0)) := heap_alloc_new _ _
  have hb : Below w.heap.size w (w.alloc (.cells (arrB (topC l)) 22)) := (Below.refl w.heap.size w).alloc (Nat.le_refl _) _
  have nT : (arrB (topC l)).size = 32 := by rw [arrB_size, htl]
  have iT : (Try.prog.info? 22).map (·.size) = some (arrB (topC l)).size := by rw [nT]; kernel_rfl
  obtain ⟨L0, hL0⟩ : ∃ L, arrB l = L := ⟨_, rfl⟩
  rw [hL0] at cx eT ⊢
  obtain ⟨T, hT⟩ : ∃ L, arrB (topC l) = L := ⟨_, rfl⟩
  rw [hT] at HFR heq h1 hb iT eT
  have fx := frozen_row h0 31
  rw [hL0] at fx
  have hm32 : Try.prog.eqGuardType Try.prog.depth 22 = false := by kernel_rfl
  obtain ⟨m, hm⟩ : ∃ m : Int, ((a &&& 127).toNat : Int) = m := ⟨_, rfl⟩
  rw [hm] at f1 eT
  obtain ⟨W1, hW1⟩ : ∃ W1, w.alloc (.cells T 22) = W1 := ⟨_, rfl⟩
  rw [hW1] at h1 hb
  have hlt : w.heap.size < W1.heap.size := (Array.getElem?_eq_some_iff.1 h1).1
  have HROW : Hid (∀ W, Below W1.heap.size W1 W → W.heap[w.heap.size]? = some (.cells T 22 (0, 0))) := Lib.hid fun W h => by rw [h.block _ hlt]; exact h1
  have HB := Lib.hid hb
  have HW1 := Lib.hid hW1
  have HET := Lib.hid eT
  clear htl hl hres hB2 h0 ha eT h1 hb nT hL0 hT hm hlt hW1
  go_enter Try.func16, Try.ntmps16
  go_upto_region 2 with fail
  rw [HET.out, HW1.out]
  clear HW1 HET cx f1 fx
  refine wp_region_noPanic ?_
  refine wp_region_held_drew (S := fun W => Below W1.heap.size W1 W) (by kernel_rfl) (by exact (Below.refl _ _).drew) (fun hS => ?_)
  refine' take_at 0 rfl (by kernel_rfl) (by kernel_rfl) (by kernel_rfl) (fun _ _ _ h => h) (by rfl) hS ?_ ?_ ?_
  rotate_left 2
  · intro W hSW; exact run_loadR rfl rfl (HROW.out W hSW) Try.underlying22 rfl iT
  · simp only [List.set_cons_succ, List.set_cons_zero]; rfl
  refine' take_at 3 rfl (by kernel_rfl) (by kernel_rfl) (by kernel_rfl) (fun _ _ _ h => h) (by rfl) hS ?_ ?_ ?_
  rotate_left 2
  · intro W hSW; exact run_loadR rfl rfl (HROW.out W hSW) Try.underlying22 rfl iT
  · simp only [List.set_cons_succ, List.set_cons_zero]; rfl
  refine call_at 1 rfl (by kernel_rfl) (by rfl) (fun K hK => ?_)
  go_simp
  with_reducible refine (HFR.out _).mono ?_
  rintro e v1 ⟨S, rfl, hR, hb1⟩
  have HB3 := Lib.hid fun W : World => HBY.out S hR W
  clear hR
  have kb1 := below_next hS hb1
  clear hS hb1
  refine hK.out _ _ (by exact kb1) (fun hS => ?_)
  clear hK K
  refine call_at 2 rfl (by kernel_rfl) (by rfl) (fun K hK => ?_)
  go_simp
  with_reducible refine (HB3.out _).mono ?_
  rintro e v2 ⟨rfl, hb2⟩
  have kb2 := below_next kb1 hb2
  clear hS hb2
  refine hK.out _ _ (by exact kb2) (fun hS => ?_)
  clear hK K
  refine' take_at 4 rfl (by kernel_rfl) (by kernel_rfl) (by kernel_rfl) (fun _ _ _ h => h) (by rfl) hS ?_ ?_ ?_
  rotate_left 2
  · intro W hSW; exact run_eql2 rfl rfl rfl hm32 (heq W)
  · simp only [List.set_cons_succ, List.set_cons_zero]; rfl
  refine' take_at 5 rfl (by kernel_rfl) (by kernel_rfl) (by kernel_rfl) (fun _ _ _ h => h) (by rfl) hS ?_ ?_ ?_
  rotate_left 2
  · intro W hSW; go_simp; try with_reducible rfl
  · simp only [List.set_cons_succ, List.set_cons_zero]; rfl
  refine wpAnyH_done (by kernel_rfl) ?_ _
  refine NoPanic.normal ?_
  clear hS
  (try simp only [Act.put])
  go_wp2_with fail
  go_ret
  exact ⟨rfl, below_next HB.out kb2⟩

theorem feC : FeC feR where
  base := {
    lt := fun h => by obtain ⟨_, _, _, _, _, -, -, -, -, -, -, rfl⟩ := h; exact Nat.mod_lt _ (by decide)
    info := feR_info
    one := feR_one
    zero := ⟨#[.int .u64 0, .int .u64 0, .int .u64 0, .int .u64 0, .int .u64 0], fun u => zero_arr 26 _ 5 (by kernel_rfl) u, feR_zero⟩ }
  from_ := fefrom_any
  small := fesmall_any
  can := fecan_any
  bytes := febytes_any
  add := feadd_any
  sub := fesub_any
  mul := femul_any
  square := fesquare_any
  neg := feneg_any
  equal := feequal_any
  isZero := feiszero_any
  odd := feodd_any
end Go.Proofs.Ytlhnjdnkjgnooaa

