/- The document's example for layer 9. Written by wip/tools/mk_law9.py. -/
import Derived.Test.YtlhnjdnkjgnooaaLaw9Spec
namespace Go.Proofs.Ytlhnjdnkjgnooaa
open Go.RowKit
set_option linter.unusedVariables false
set_option maxRecDepth 100000

set_option maxHeartbeats 6400000 in
theorem alive9_any {R : Array Value → Nat → Prop} (C : FeC R) (w : World) : Calls Try.prog 9 #[] w fun e w' => e = .returned (.bool true) ∧ Below w.heap.size w w' := by
  obtain ⟨Z, hZ, RZ⟩ := C.base.zero
  have hzR := refT_zero
  have hz32 := zero32_zero
  have h0 : (w.alloc (.cells zero32 22)).heap[w.heap.size]? = some (.cells zero32 22 (0, 0)) := heap_alloc_new _ _
  have HR1 := Lib.hid ((RowsW.nil w).new zero32 (arrB (fillB 0)) 22)
  have HB1 := Lib.hid (below_new (Below.refl w.heap.size w) zero32 (arrB (fillB 0)) 22)
  have hq : arrB (fillB 0) = zero32 := rfl
  rw [hq] at HR1 HB1
  go_enter Try.func9, Try.ntmps9
  go_wp2_with (refine wpList_store_row rfl 22 (.tmp 1) (.tmp 3) rfl w.heap.size zero32 rfl rfl 22 zero32 h0 zero32_info rfl zero32_one ?_)
  obtain ⟨W1, hW1⟩ : ∃ W, (w.alloc (.cells zero32 22)).setRow w.heap.size zero32 = W := ⟨_, rfl⟩
  obtain ⟨g, hg⟩ : ∃ g, w.heap.size = g := ⟨_, rfl⟩
  rw [hW1, hg] at HR1
  rw [hW1] at HB1
  rw [hg] at hW1
  rw [hg, hW1]
  rw [← hq] at HR1
  have HG := Lib.hid hg
  clear hW1 hg h0 hq
  go_loopw [2] (fun i wr => ∃ k : Nat, k ≤ 32 ∧ i = .int .i64 (k : Int) ∧ Hid (RowsW wr [(g, arrB (fillB k), 22)]) ∧ Hid (Below w.heap.size w wr)) (fun i _ => 32 - (intOf i).toNat)
  case atStart => exact ⟨0, by omega, rfl, HR1, HB1⟩
  case round =>
    clear HR1 HB1
    obtain ⟨k, hk, rfl, HR1, HB1⟩ := hrel
    by_cases hlt : k < 32
    · have cx : wr.cell? ⟨g, k, none⟩ = some (.int .u8 (((fillB k).getD k 0).toNat : Int)) := by rw [cell_of_row _ _ _ _ _ _ HR1.out.head, arrB_get _ _ (by rw [fillB_len hk]; exact hlt)]
      have fx := frozen_row HR1.out.head k
      have hs := HR1.out.set (by simp) k (.int .u8 255)
      rw [show (255 : Int) = ((255 : UInt8).toNat : Int) from rfl, arrB_set, fillB_set hlt] at hs
      have HR2 : Hid (RowsW (wr.setCell ⟨g, k, none⟩ (.int .u8 255)) [(g, arrB (fillB (k + 1)), 22)]) := Lib.hid hs
      have HB2 := Lib.hid (HB1.out.setCell (p := ⟨g, k, none⟩) (by show w.heap.size ≤ g; rw [HG.out]; exact Nat.le_refl _) (.int .u8 255))
      generalize ((fillB k).getD k 0) = old at *
      have b5 : 0 ≤ (k : Int) := by omega
      have b6 : (k : Int) < 32 := by omega
      clear HR1 HB1 hs
      go_wp2_with fail
      go_roundw
      case rel => exact ⟨k + 1, by omega, by go_num, HR2, HB2⟩
      case measure => simp [intOf]; omega
    · obtain rfl : k = 32 := by omega
      have Hl32 : Hid ((List.replicate 32 (255 : UInt8)).length = 32) := Lib.hid (by simp)
      rw [fillB_end] at HR1
      obtain ⟨L, hL⟩ : ∃ L, List.replicate 32 (255 : UInt8) = L := ⟨_, rfl⟩
      have hL18 : feN L = 18 := by rw [← hL]; exact fe_ones
      rw [hL] at HR1 Hl32
      have HL18 := Lib.hid hL18
      clear hL hL18 hlt hk
      have l1 := HR1.out.head
      go_wp2_with (refine wpList_load_row rfl 22 (.tmp 1) rfl g rfl 22 (arrB L) (0, 0) _ l1 Try.underlying22 rfl (arr32_info Hl32.out) ?_)
      with_reducible refine ((C.from_ L Hl32.out) _).mono ?_
      rintro e vq2 ⟨cq2, rfl, rq2, hbq2⟩
      rw [HL18.out] at rq2
      have Rq2 := Lib.hid rq2
      clear rq2
      have HRq2 := Lib.hid (HR1.out.below hbq2)
      have HBq2 := Lib.hid (below_next HB1.out hbq2)
      clear hbq2
      go_wp2_with fail
      with_reducible refine ((C.bytes Rq2.out) _).mono ?_
      rintro e vq3 ⟨rfl, hbq3⟩
      have i18 := fun u => bytT_at0 18 18 (by decide) u
      have HRq3 := Lib.hid (HRq2.out.below hbq3)
      have HBq3 := Lib.hid (below_next HBq2.out hbq3)
      clear hbq3
      go_wp2_with fail
      have s16_1 : ∀ W : World, Calls Try.prog 14 #[.int .u64 1] W (RetFe R W 1) := fun W => C.small 1 (by decide) W
      with_reducible refine (s16_1 _).mono ?_
      rintro e vq4 ⟨cq4, rfl, rq4, hbq4⟩
      have Rq4 := Lib.hid rq4
      clear rq4
      have HRq4 := Lib.hid (HRq3.out.below hbq4)
      have HBq4 := Lib.hid (below_next HBq3.out hbq4)
      clear hbq4
      go_wp2_with fail
      obtain ⟨n5, hn5⟩ : ∃ x : Nat, (PP - 1) % PP = x := ⟨_, rfl⟩
      have Hn5 := Lib.hid hn5
      have HLn5 : Hid (n5 < PP) := Lib.hid (by rw [← hn5]; exact Nat.mod_lt _ (by decide))
      clear hn5
      with_reducible refine ((C.neg Rq4.out) _).mono ?_
      rintro e vq6 ⟨cq6, rfl, rq6, hbq6⟩
      rw [Hn5.out] at rq6
      have Rq6 := Lib.hid rq6
      clear rq6
      have HRq6 := Lib.hid (HRq4.out.below hbq6)
      have HBq6 := Lib.hid (below_next HBq4.out hbq6)
      clear hbq6
      go_wp2_with fail
      with_reducible refine ((C.bytes Rq6.out) _).mono ?_
      rintro e vq7 ⟨rfl, hbq7⟩
      have i236 := fun u => bytT_at0 n5 236 (by rw [← Hn5.out]; decide) u
      have HRq7 := Lib.hid (HRq6.out.below hbq7)
      have HBq7 := Lib.hid (below_next HBq6.out hbq7)
      clear hbq7
      go_wp2_with fail
      have s23_2 : ∀ W : World, Calls Try.prog 14 #[.int .u64 2] W (RetFe R W 2) := fun W => C.small 2 (by decide) W
      with_reducible refine (s23_2 _).mono ?_
      rintro e vq8 ⟨cq8, rfl, rq8, hbq8⟩
      have Rq8 := Lib.hid rq8
      clear rq8
      have HRq8 := Lib.hid (HRq7.out.below hbq8)
      have HBq8 := Lib.hid (below_next HBq7.out hbq8)
      clear hbq8
      go_wp2_with fail
      have s24_3 : ∀ W : World, Calls Try.prog 14 #[.int .u64 3] W (RetFe R W 3) := fun W => C.small 3 (by decide) W
      with_reducible refine (s24_3 _).mono ?_
      rintro e vq9 ⟨cq9, rfl, rq9, hbq9⟩
      have Rq9 := Lib.hid rq9
      clear rq9
      have HRq9 := Lib.hid (HRq8.out.below hbq9)
      have HBq9 := Lib.hid (below_next HBq8.out hbq9)
      clear hbq9
      go_wp2_with fail
      obtain ⟨n10, hn10⟩ : ∃ x : Nat, (2 + 3) % PP = x := ⟨_, rfl⟩
      have Hn10 := Lib.hid hn10
      have HLn10 : Hid (n10 < PP) := Lib.hid (by rw [← hn10]; exact Nat.mod_lt _ (by decide))
      clear hn10
      with_reducible refine ((C.add Rq8.out Rq9.out) _).mono ?_
      rintro e vq11 ⟨cq11, rfl, rq11, hbq11⟩
      rw [Hn10.out] at rq11
      have Rq11 := Lib.hid rq11
      clear rq11
      have HRq11 := Lib.hid (HRq9.out.below hbq11)
      have HBq11 := Lib.hid (below_next HBq9.out hbq11)
      clear hbq11
      go_wp2_with fail
      have s26_5 : ∀ W : World, Calls Try.prog 14 #[.int .u64 5] W (RetFe R W 5) := fun W => C.small 5 (by decide) W
      with_reducible refine (s26_5 _).mono ?_
      rintro e vq12 ⟨cq12, rfl, rq12, hbq12⟩
      have Rq12 := Lib.hid rq12
      clear rq12
      have HRq12 := Lib.hid (HRq11.out.below hbq12)
      have HBq12 := Lib.hid (below_next HBq11.out hbq12)
      clear hbq12
      go_wp2_with fail
      have kq13 := fun W : World => (C.equal Rq11.out Rq12.out) W
      rw [decide_eq_true (show n10 = 5 from Hn10.out.symm.trans (by decide))] at kq13
      have Kq13 := Lib.hid kq13
      clear kq13
      with_reducible refine (Kq13.out _).mono ?_
      rintro e vq13 ⟨rfl, hbq13⟩
      have HRq13 := Lib.hid (HRq12.out.below hbq13)
      have HBq13 := Lib.hid (below_next HBq12.out hbq13)
      clear hbq13
      go_wp2_with fail
      go_ret
      exact ⟨rfl, HBq13.out⟩
end Go.Proofs.Ytlhnjdnkjgnooaa

