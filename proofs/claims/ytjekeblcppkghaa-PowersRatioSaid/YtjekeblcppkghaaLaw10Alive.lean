/- The walk of alive. Written by wip/tools. -/
import Derived.Test.YtjekeblcppkghaaLaw10Spec
namespace Go.Proofs.Ytjekeblcppkghaa
open Go.RowKit
set_option linter.unusedVariables false
set_option maxRecDepth 100000

set_option maxHeartbeats 6400000 in
theorem alive10_any {R : Array Value → Nat → Prop} (C : Fe10C R) (D : PowC R)  (w : World) : Calls Try.prog 8 #[] w fun e w' => e = .returned (.bool true) ∧ Below w.heap.size w w' := by
  obtain ⟨Z, hZ, RZ⟩ := C.base.zero
  have hzR := refT_zero
  have hz32 := zero32_zero
  have HR0 := Lib.hid (RowsW.nil w)
  have HB0 := Lib.hid (Below.refl w.heap.size w)
  go_enter Try.func8, Try.ntmps8
  go_wp2_with fail
  have s4_4 : ∀ W : World, Calls Try.prog 24 #[.int .u64 4] W (RetFe R W 4) := fun W => C.small 4 (by decide) W
  with_reducible refine (s4_4 _).mono ?_
  rintro e vq1 ⟨cq1, rfl, rq1, hbq1⟩
  have Rq1 := Lib.hid rq1
  clear rq1
  have HRq1 := Lib.hid (HR0.out.below hbq1)
  have HBq1 := Lib.hid (below_next HB0.out hbq1)
  clear hbq1
  go_wp2_with fail
  have kq2 := fun W : World => (D.sqrt Rq1.out) W
  rw [root_four.1, root_four.2] at kq2
  have Kq2 := Lib.hid kq2
  clear kq2
  with_reducible refine (Kq2.out _).mono ?_
  rintro e vq2 ⟨cq2, rfl, rq2, hbq2⟩
  have Rq2 := Lib.hid rq2
  clear rq2
  have HRq2 := Lib.hid (HRq1.out.below hbq2)
  have HBq2 := Lib.hid (below_next HBq1.out hbq2)
  clear hbq2
  have h0q3 : (vq2.alloc (.cells Z 26)).heap[vq2.heap.size]? = some (.cells Z 26 (0, 0)) := heap_alloc_new _ _
  have HRq3 := Lib.hid (HRq2.out.new Z cq2 26)
  have HBq3 := Lib.hid (below_new HBq2.out Z cq2 26)
  have HNq3 := Lib.hid HRq2.out.ne
  have HGq3 := Lib.hid HBq2.out.size
  go_upto_region 2 with (refine wpList_store_row rfl 26 (.tmp 1) (.tmp 6) rfl vq2.heap.size cq2 rfl rfl 26 Z h0q3 (C.base.info Rq2.out) (C.base.size RZ Rq2.out) (C.base.one Rq2.out) ?_)
  obtain ⟨Wq3, hWq3⟩ : ∃ W, (vq2.alloc (.cells Z 26)).setRow vq2.heap.size cq2 = W := ⟨_, rfl⟩
  obtain ⟨gq3, hgq3⟩ : ∃ g, vq2.heap.size = g := ⟨_, rfl⟩
  rw [hWq3, hgq3] at HRq3
  rw [hWq3] at HBq3
  rw [hgq3] at HNq3 HGq3
  rw [hWq3, hgq3]
  clear hWq3 hgq3 h0q3
  refine wp_region_noPanic ?_
  refine wp_region_held_drew (S := fun W => Below Wq3.heap.size Wq3 W) (by kernel_rfl) (by exact (Below.refl _ _).drew) (fun hS => ?_)
  refine' take_at 0 rfl (by kernel_rfl) (by kernel_rfl) (by kernel_rfl) (fun _ _ _ h => h) (by rfl) hS ?_ ?_ ?_
  rotate_left 2
  · intro W hSW; go_simp; try with_reducible rfl
  · simp only [List.set_cons_succ, List.set_cons_zero]; rfl
  refine' take_at 1 rfl (by kernel_rfl) (by kernel_rfl) (by kernel_rfl) (fun _ _ _ h => h) (by rfl) hS ?_ ?_ ?_
  rotate_left 2
  · intro W hSW; go_simp; try with_reducible rfl
  · simp only [List.set_cons_succ, List.set_cons_zero]; rfl
  refine' take_at 2 rfl (by kernel_rfl) (by kernel_rfl) (by kernel_rfl) (fun _ _ _ h => h) (by rfl) hS ?_ ?_ ?_
  rotate_left 2
  · intro W hSW; exact run_loadR rfl rfl (HRq3.out.below hSW).head Try.underlying26 rfl (C.base.info Rq2.out)
  · simp only [List.set_cons_succ, List.set_cons_zero]; rfl
  refine call_at 3 rfl (by kernel_rfl) (by rfl) (fun K hK => ?_)
  go_simp
  have s11_2 : ∀ W : World, Calls Try.prog 24 #[.int .u64 2] W (RetFe R W 2) := fun W => C.small 2 (by decide) W
  with_reducible refine (s11_2 _).mono ?_
  rintro e vq4 ⟨cq4, rfl, rq4, hbq4⟩
  have Rq4 := Lib.hid rq4
  clear rq4
  have kbq4 := below_next hS hbq4
  clear hS hbq4
  refine hK.out _ _ (by exact kbq4) (fun hS => ?_)
  clear hK K
  refine call_at 4 rfl (by kernel_rfl) (by rfl) (fun K hK => ?_)
  go_simp
  have kq5 := fun W : World => (C.equal Rq2.out Rq4.out) W
  rw [decide_eq_true (rfl : 2 = 2)] at kq5
  have Kq5 := Lib.hid kq5
  clear kq5
  with_reducible refine (Kq5.out _).mono ?_
  rintro e vq5 ⟨rfl, hbq5⟩
  have kbq5 := below_next kbq4 hbq5
  clear hS hbq5
  refine hK.out _ _ (by exact kbq5) (fun hS => ?_)
  clear hK K
  refine' take_at 5 rfl (by kernel_rfl) (by kernel_rfl) (by kernel_rfl) (fun _ _ _ h => h) (by rfl) hS ?_ ?_ ?_
  rotate_left 2
  · intro W hSW; go_simp; try with_reducible rfl
  · simp only [List.set_cons_succ, List.set_cons_zero]; rfl
  refine' take_at 6 rfl (by kernel_rfl) (by kernel_rfl) (by kernel_rfl) (fun _ _ _ h => h) (by rfl) hS ?_ ?_ ?_
  rotate_left 2
  · intro W hSW; go_simp; try with_reducible rfl
  · simp only [List.set_cons_succ, List.set_cons_zero]; rfl
  refine call_at 7 rfl (by kernel_rfl) (by rfl) (fun K hK => ?_)
  go_simp
  have s15_1 : ∀ W : World, Calls Try.prog 24 #[.int .u64 1] W (RetFe R W 1) := fun W => C.small 1 (by decide) W
  with_reducible refine (s15_1 _).mono ?_
  rintro e vq6 ⟨cq6, rfl, rq6, hbq6⟩
  have Rq6 := Lib.hid rq6
  clear rq6
  have kbq6 := below_next kbq5 hbq6
  clear hS hbq6
  refine hK.out _ _ (by exact kbq6) (fun hS => ?_)
  clear hK K
  refine call_at 8 rfl (by kernel_rfl) (by rfl) (fun K hK => ?_)
  go_simp
  with_reducible refine ((D.invert Rq6.out) _).mono ?_
  rintro e vq7 ⟨cq7, rfl, rq7, hbq7⟩
  rw [inv_oneN] at rq7
  have Rq7 := Lib.hid rq7
  clear rq7
  have kbq7 := below_next kbq6 hbq7
  clear hS hbq7
  refine hK.out _ _ (by exact kbq7) (fun hS => ?_)
  clear hK K
  refine call_at 9 rfl (by kernel_rfl) (by rfl) (fun K hK => ?_)
  go_simp
  have s17_1 : ∀ W : World, Calls Try.prog 24 #[.int .u64 1] W (RetFe R W 1) := fun W => C.small 1 (by decide) W
  with_reducible refine (s17_1 _).mono ?_
  rintro e vq8 ⟨cq8, rfl, rq8, hbq8⟩
  have Rq8 := Lib.hid rq8
  clear rq8
  have kbq8 := below_next kbq7 hbq8
  clear hS hbq8
  refine hK.out _ _ (by exact kbq8) (fun hS => ?_)
  clear hK K
  refine call_at 10 rfl (by kernel_rfl) (by rfl) (fun K hK => ?_)
  go_simp
  have kq9 := fun W : World => (C.equal Rq7.out Rq8.out) W
  rw [decide_eq_true (rfl : 1 = 1)] at kq9
  have Kq9 := Lib.hid kq9
  clear kq9
  with_reducible refine (Kq9.out _).mono ?_
  rintro e vq9 ⟨rfl, hbq9⟩
  have kbq9 := below_next kbq8 hbq9
  clear hS hbq9
  refine hK.out _ _ (by exact kbq9) (fun hS => ?_)
  clear hK K
  refine' take_at 11 rfl (by kernel_rfl) (by kernel_rfl) (by kernel_rfl) (fun _ _ _ h => h) (by rfl) hS ?_ ?_ ?_
  rotate_left 2
  · intro W hSW; go_simp; try with_reducible rfl
  · simp only [List.set_cons_succ, List.set_cons_zero]; rfl
  refine' take_at 12 rfl (by kernel_rfl) (by kernel_rfl) (by kernel_rfl) (fun _ _ _ h => h) (by rfl) hS ?_ ?_ ?_
  rotate_left 2
  · intro W hSW; go_simp; try with_reducible rfl
  · simp only [List.set_cons_zero]; rfl
  refine wpAnyH_done (by kernel_rfl) ?_ _
  refine NoPanic.normal ?_
  clear hS
  (try simp only [Act.put])
  have HRq10 := Lib.hid (HRq3.out.below kbq9)
  have HBq10 := Lib.hid (below_next HBq3.out kbq9)
  go_wp2_with fail
  go_ret
  exact ⟨rfl, HBq10.out⟩
end Go.Proofs.Ytjekeblcppkghaa

