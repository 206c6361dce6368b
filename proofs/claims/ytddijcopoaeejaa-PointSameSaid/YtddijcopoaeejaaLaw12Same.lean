/- The walk of PointSame. Written by wip/tools. -/
import Derived.Test.YtddijcopoaeejaaLaw12At
import Derived.Test.YtddijcopoaeejaaGheld
import Derived.Test.YtddijcopoaeejaaGbyt
namespace Go.Proofs.Ytddijcopoaeejaa
open Go.RowKit
set_option linter.unusedVariables false
set_option maxRecDepth 100000

set_option maxHeartbeats 6400000 in
theorem law12Same {R : Array Value → PtD → Prop} (D : PtC R) (a : List UInt8) (ha : a.length = 32) (b : List UInt8) (hb : b.length = 32) (w : World) : Calls Try.prog 6 #[.agg (arrB a), .agg (arrB b)] w fun e w' => e = .returned (.bool true) ∧ Below w.heap.size w w' := by
  have HAL : Hid (∀ W : World, Calls Try.prog 9 #[] W fun e w' => e = .returned (.bool true) ∧ Below W.heap.size W w') := Lib.hid (fun W => alive12_any D W)
  obtain ⟨Z, hZ, sZ⟩ := D.base.zero
  have hz32 := zero32_zero
  have hzP := refP_zero
  have Ha := Lib.hid ha
  have Hb := Lib.hid hb
  clear ha hb
  go_enter Try.func6, Try.ntmps6
  go_wp2_with fail
  have HR0 := Lib.hid (((RowsW.nil w).box (arrB a) 22).box (arrB b) 22)
  have HB0 := Lib.hid (below_box (below_box (Below.refl w.heap.size w) (arrB a) 22) (arrB b) 22)
  rw [World.size_alloc] at HR0
  obtain ⟨W0, hW0⟩ : ∃ W, ((w.alloc (.cells (arrB a) 22)).alloc (.cells (arrB b) 22)) = W := ⟨_, rfl⟩
  obtain ⟨g0, hg0⟩ : ∃ g, w.heap.size = g := ⟨_, rfl⟩
  rw [hW0] at HR0 HB0
  rw [hg0] at HR0
  rw [hW0, hg0]
  have HG0 := Lib.hid hg0
  clear hW0 hg0
  with_reducible refine (HAL.out _).mono ?_
  rintro e v1 ⟨rfl, hb1⟩
  have HR1 := Lib.hid (HR0.out.below hb1)
  have HB1 := Lib.hid (below_next HB0.out hb1)
  clear hb1
  go_upto_region 2 with fail
  have l1 := HR1.out.tail.head
  go_wp2_with (refine wpList_load_row rfl 22 (.tmp 2) rfl g0 rfl 22 (arrB a) (0, 0) _ l1 Try.underlying22 rfl (arr32_info Ha.out) ?_)
  obtain ⟨p2, hp2⟩ : ∃ y_ : PtD, atP a = y_ := ⟨_, rfl⟩
  have Hp2 := Lib.hid hp2
  clear hp2
  have kq3 := fun W : World => (at12_any D a Ha.out) W
  rw [Hp2.out] at kq3
  have Kq3 := Lib.hid kq3
  clear kq3
  with_reducible refine (Kq3.out _).mono ?_
  rintro e vq3 ⟨cq3, dq3, rfl, rq3, sq3, hbq3⟩
  have Rq3 := Lib.hid rq3
  have Sq3 := Lib.hid sq3
  clear rq3 sq3
  have HRq3 := Lib.hid (HR1.out.below hbq3)
  have HBq3 := Lib.hid (below_next HB1.out hbq3)
  clear hbq3
  have haq4 := heap_new2a vq3 Z (refP 0 0 0 0) 28 34
  have hbbq4 := heap_new2b vq3 Z (refP 0 0 0 0) cq3 28 34
  have HRq4 := Lib.hid (HRq3.out.new2 Z cq3 (refP 0 0 0 0) dq3 28 34)
  have HBq4 := Lib.hid (below_new2 HBq3.out Z cq3 (refP 0 0 0 0) dq3 28 34)
  go_upto_region 3 with (first
      | (refine wpList_store_row rfl 28 (.tmp 6) (.tmp 15) rfl vq3.heap.size cq3 rfl rfl 28 Z haq4 (D.base.info Rq3.out) (sZ Rq3.out) (D.base.one Rq3.out) ?_)
      | (refine wpList_store_row rfl 34 (.tmp 7) (.tmp 16) rfl (vq3.heap.size + 1) dq3 rfl rfl 34 (refP 0 0 0 0) hbbq4 (rq_info Sq3.out) (rq_z Sq3.out) (rq_one Sq3.out) ?_))
  obtain ⟨Wq4, hWq4⟩ : ∃ W, (((vq3.alloc (.cells Z 28)).alloc (.cells (refP 0 0 0 0) 34)).setRow vq3.heap.size cq3).setRow (vq3.heap.size + 1) dq3 = W := ⟨_, rfl⟩
  obtain ⟨gq4, hgq4⟩ : ∃ g, vq3.heap.size = g := ⟨_, rfl⟩
  rw [hWq4, hgq4] at HRq4
  rw [hWq4] at HBq4
  rw [hWq4, hgq4]
  clear hWq4 hgq4 haq4 hbbq4
  have l5 := HRq4.out.tail.tail.head
  go_wp2_with (refine wpList_load_row rfl 22 (.tmp 3) rfl (g0 + 1) rfl 22 (arrB b) (0, 0) _ l5 Try.underlying22 rfl (arr32_info Hb.out) ?_)
  obtain ⟨p6, hp6⟩ : ∃ y_ : PtD, atP b = y_ := ⟨_, rfl⟩
  have Hp6 := Lib.hid hp6
  clear hp6
  have kq7 := fun W : World => (at12_any D b Hb.out) W
  rw [Hp6.out] at kq7
  have Kq7 := Lib.hid kq7
  clear kq7
  with_reducible refine (Kq7.out _).mono ?_
  rintro e vq7 ⟨cq7, dq7, rfl, rq7, sq7, hbq7⟩
  have Rq7 := Lib.hid rq7
  have Sq7 := Lib.hid sq7
  clear rq7 sq7
  have HRq7 := Lib.hid (HRq4.out.below hbq7)
  have HBq7 := Lib.hid (below_next HBq4.out hbq7)
  clear hbq7
  have haq8 := heap_new2a vq7 Z (refP 0 0 0 0) 28 34
  have hbbq8 := heap_new2b vq7 Z (refP 0 0 0 0) cq7 28 34
  have HRq8 := Lib.hid (HRq7.out.new2 Z cq7 (refP 0 0 0 0) dq7 28 34)
  have HBq8 := Lib.hid (below_new2 HBq7.out Z cq7 (refP 0 0 0 0) dq7 28 34)
  go_upto_region 4 with (first
      | (refine wpList_store_row rfl 28 (.tmp 8) (.tmp 20) rfl vq7.heap.size cq7 rfl rfl 28 Z haq8 (D.base.info Rq7.out) (sZ Rq7.out) (D.base.one Rq7.out) ?_)
      | (refine wpList_store_row rfl 34 (.tmp 9) (.tmp 21) rfl (vq7.heap.size + 1) dq7 rfl rfl 34 (refP 0 0 0 0) hbbq8 (rq_info Sq7.out) (rq_z Sq7.out) (rq_one Sq7.out) ?_))
  obtain ⟨Wq8, hWq8⟩ : ∃ W, (((vq7.alloc (.cells Z 28)).alloc (.cells (refP 0 0 0 0) 34)).setRow vq7.heap.size cq7).setRow (vq7.heap.size + 1) dq7 = W := ⟨_, rfl⟩
  obtain ⟨gq8, hgq8⟩ : ∃ g, vq7.heap.size = g := ⟨_, rfl⟩
  rw [hWq8, hgq8] at HRq8
  rw [hWq8] at HBq8
  rw [hWq8, hgq8]
  clear hWq8 hgq8 haq8 hbbq8
  refine wp_region_noPanic ?_
  refine wp_region_heldB 6 10 28 Z (by kernel_rfl) (by kernel_rfl) ⟨by kernel_rfl, by kernel_rfl, hZ, fun _ _ _ h => h⟩ (fun hA hS => ?_)
  refine' take_atB 0 hA rfl (by kernel_rfl) (by kernel_rfl) (by kernel_rfl) (by kernel_rfl) (by kernel_rfl) (by rfl) (by rfl) hS ?_ ?_ ?_
  rotate_left 2
  · intro W hSW; exact run_loadR rfl rfl (HRq8.out.below hSW).tail.tail.tail.head Try.underlying28 rfl (D.base.info Rq3.out)
  · simp only [List.set_cons_succ, List.set_cons_zero]; rfl
  refine' take_atB 1 hA rfl (by kernel_rfl) (by kernel_rfl) (by kernel_rfl) (by kernel_rfl) (by kernel_rfl) (by rfl) (by rfl) hS ?_ ?_ ?_
  rotate_left 2
  · intro W hSW; exact run_loadR rfl rfl (HRq8.out.below hSW).tail.head Try.underlying28 rfl (D.base.info Rq7.out)
  · simp only [List.set_cons_succ, List.set_cons_zero]; rfl
  refine' take_atB 3 hA rfl (by kernel_rfl) (by kernel_rfl) (by kernel_rfl) (by kernel_rfl) (by kernel_rfl) (by rfl) (by rfl) hS ?_ ?_ ?_
  rotate_left 2
  · intro W hSW; exact run_loadR rfl rfl (HRq8.out.below hSW).tail.head Try.underlying28 rfl (D.base.info Rq7.out)
  · simp only [List.set_cons_succ, List.set_cons_zero]; rfl
  refine call_atB 2 hA rfl (by kernel_rfl) (by kernel_rfl) (by kernel_rfl) (by kernel_rfl) (by rfl) (by rfl) hS (fun oq10 Xq10 hS K hK => ?_)
  go_simp
  obtain ⟨p9, hp9⟩ : ∃ y_ : PtD, padd p2 p6 = y_ := ⟨_, rfl⟩
  have Hp9 := Lib.hid hp9
  clear hp9
  with_reducible refine ((D.add Rq3.out Rq7.out) _).mono ?_
  rintro e vq10 ⟨cq10, rfl, rq10, hbq10⟩
  rw [Hp9.out] at rq10
  have Rq10 := Lib.hid rq10
  clear rq10
  refine hK.out _ _ hbq10 (fun hS => ?_)
  clear hK K hbq10
  refine call_atB 4 hA rfl (by kernel_rfl) (by kernel_rfl) (by kernel_rfl) (by kernel_rfl) (by rfl) (by rfl) hS (fun oq12 Xq12 hS K hK => ?_)
  go_simp
  obtain ⟨p11, hp11⟩ : ∃ y_ : PtD, Ed.Pt.neg p6 = y_ := ⟨_, rfl⟩
  have Hp11 := Lib.hid hp11
  clear hp11
  with_reducible refine ((D.neg Rq7.out) _).mono ?_
  rintro e vq12 ⟨cq12, rfl, rq12, hbq12⟩
  rw [Hp11.out] at rq12
  have Rq12 := Lib.hid rq12
  clear rq12
  refine hK.out _ _ hbq12 (fun hS => ?_)
  clear hK K hbq12
  refine call_atB 5 hA rfl (by kernel_rfl) (by kernel_rfl) (by kernel_rfl) (by kernel_rfl) (by rfl) (by rfl) hS (fun oq14 Xq14 hS K hK => ?_)
  go_simp
  obtain ⟨p13, hp13⟩ : ∃ y_ : PtD, padd p9 p11 = y_ := ⟨_, rfl⟩
  have Hp13 := Lib.hid hp13
  clear hp13
  with_reducible refine ((D.add Rq10.out Rq12.out) _).mono ?_
  rintro e vq14 ⟨cq14, rfl, rq14, hbq14⟩
  rw [Hp13.out] at rq14
  have Rq14 := Lib.hid rq14
  clear rq14
  refine hK.out _ _ hbq14 (fun hS => ?_)
  clear hK K hbq14
  refine' store_atB 7 hA rfl (by kernel_rfl) (by kernel_rfl) (by kernel_rfl) hS (by kernel_rfl) rfl (by intro h; cases h) (D.base.info Rq14.out) (sZ Rq14.out) (D.base.one Rq14.out) ?_ ?_
  rotate_left 1
  · intro g; simp only [List.set_cons_succ, List.set_cons_zero]; rfl
  intro gq15 Wq15 hgq15 hbq15 hrowq15
  clear hA hS
  refine wpAnyH_done (by kernel_rfl) ?_ _
  refine NoPanic.normal ?_
  (try simp only [Act.put])
  have HRq15 : Hid (RowsW Wq15 [(gq15, cq14, 28), ((gq8 + 1), dq7, 34), (gq8, cq7, 28), ((gq4 + 1), dq3, 34), (gq4, cq3, 28), ((g0 + 1), (arrB b), 22), (g0, (arrB a), 22)]) := Lib.hid ⟨hrowq15, HRq8.out.below hbq15⟩
  have HBq15 := Lib.hid (below_next HBq8.out hbq15)
  have NEq15_0 : Hid (g0 ≠ gq15) := Lib.hid (by have h := HRq8.out.lt (g0, (arrB a), 22) (by simp); have := hgq15; simp only at h; omega)
  have NEq15_1 : Hid ((g0 + 1) ≠ gq15) := Lib.hid (by have h := HRq8.out.lt ((g0 + 1), (arrB b), 22) (by simp); have := hgq15; simp only at h; omega)
  have NEq15_2 : Hid (gq4 ≠ gq15) := Lib.hid (by have h := HRq8.out.lt (gq4, cq3, 28) (by simp); have := hgq15; simp only at h; omega)
  have NEq15_3 : Hid ((gq4 + 1) ≠ gq15) := Lib.hid (by have h := HRq8.out.lt ((gq4 + 1), dq3, 34) (by simp); have := hgq15; simp only at h; omega)
  have NEq15_4 : Hid (gq8 ≠ gq15) := Lib.hid (by have h := HRq8.out.lt (gq8, cq7, 28) (by simp); have := hgq15; simp only at h; omega)
  have NEq15_5 : Hid ((gq8 + 1) ≠ gq15) := Lib.hid (by have h := HRq8.out.lt ((gq8 + 1), dq7, 34) (by simp); have := hgq15; simp only at h; omega)
  have HGq15 := Lib.hid (Nat.le_trans HBq8.out.size hgq15)
  clear hrowq15 hbq15 hgq15
  go_upto_region 5 with fail
  have HRP : Hid (p13 = p2) := Lib.hid (by rw [← Hp13.out, ← Hp9.out, ← Hp11.out]; exact padd_back _ _)
  by_cases hpq : p2 = p6
  · have HPQ := Lib.hid hpq
    clear hpq
    refine wp_region_noPanic ?_
    refine wp_region_held_drew (S := fun W => Below Wq15.heap.size Wq15 W) (by kernel_rfl) (by exact (Below.refl _ _).drew) (fun hS => ?_)
    refine' take_at 0 rfl (by kernel_rfl) (by kernel_rfl) (by kernel_rfl) (fun _ _ _ h => h) (by rfl) hS ?_ ?_ ?_
    rotate_left 2
    · intro W hSW; go_simp; try with_reducible rfl
    · simp only [List.set_cons_succ, List.set_cons_zero]; rfl
    refine' take_at 1 rfl (by kernel_rfl) (by kernel_rfl) (by kernel_rfl) (fun _ _ _ h => h) (by rfl) hS ?_ ?_ ?_
    rotate_left 2
    · intro W hSW; go_simp; try with_reducible rfl
    · simp only [List.set_cons_succ, List.set_cons_zero]; rfl
    refine' take_at 2 rfl (by kernel_rfl) (by kernel_rfl) (by kernel_rfl) (fun _ _ _ h => h) (by rfl) hS ?_ ?_ ?_
    rotate_left 2
    · intro W hSW; exact run_loadR rfl rfl (HRq15.out.below hSW).head Try.underlying28 rfl (D.base.info Rq14.out)
    · simp only [List.set_cons_succ, List.set_cons_zero]; rfl
    refine' take_at 3 rfl (by kernel_rfl) (by kernel_rfl) (by kernel_rfl) (fun _ _ _ h => h) (by rfl) hS ?_ ?_ ?_
    rotate_left 2
    · intro W hSW; exact run_loadR rfl rfl (HRq15.out.below hSW).tail.tail.tail.tail.head Try.underlying28 rfl (D.base.info Rq3.out)
    · simp only [List.set_cons_succ, List.set_cons_zero]; rfl
    refine call_at 4 rfl (by kernel_rfl) (by rfl) (fun K hK => ?_)
    go_simp
    have kq16 := fun W : World => (D.equal Rq14.out Rq3.out) W
    rw [show ptEq p13 p2 = true from (ptEq_iff.2 HRP.out)] at kq16
    have Kq16 := Lib.hid kq16
    clear kq16
    with_reducible refine (Kq16.out _).mono ?_
    rintro e vq16 ⟨rfl, hbq16⟩
    have kbq16 := below_next hS hbq16
    clear hS hbq16
    refine hK.out _ _ (by exact kbq16) (fun hS => ?_)
    clear hK K
    refine' take_at 5 rfl (by kernel_rfl) (by kernel_rfl) (by kernel_rfl) (fun _ _ _ h => h) (by rfl) hS ?_ ?_ ?_
    rotate_left 2
    · intro W hSW; go_simp; try with_reducible rfl
    · simp only [List.set_cons_succ, List.set_cons_zero]; rfl
    refine' take_at 6 rfl (by kernel_rfl) (by kernel_rfl) (by kernel_rfl) (fun _ _ _ h => h) (by rfl) hS ?_ ?_ ?_
    rotate_left 2
    · intro W hSW; go_simp; try with_reducible rfl
    · simp only [List.set_cons_succ, List.set_cons_zero]; rfl
    refine' take_at 7 rfl (by kernel_rfl) (by kernel_rfl) (by kernel_rfl) (fun _ _ _ h => h) (by rfl) hS ?_ ?_ ?_
    rotate_left 2
    · intro W hSW; exact run_loadR rfl rfl (HRq15.out.below hSW).head Try.underlying28 rfl (D.base.info Rq14.out)
    · simp only [List.set_cons_succ, List.set_cons_zero]; rfl
    refine' take_at 9 rfl (by kernel_rfl) (by kernel_rfl) (by kernel_rfl) (fun _ _ _ h => h) (by rfl) hS ?_ ?_ ?_
    rotate_left 2
    · intro W hSW; exact run_loadR rfl rfl (HRq15.out.below hSW).tail.tail.tail.tail.head Try.underlying28 rfl (D.base.info Rq3.out)
    · simp only [List.set_cons_succ, List.set_cons_zero]; rfl
    refine call_at 8 rfl (by kernel_rfl) (by rfl) (fun K hK => ?_)
    go_simp
    with_reducible refine ((D.encode Rq14.out) _).mono ?_
    rintro e vq17 ⟨rfl, hbq17⟩
    have kbq17 := below_next kbq16 hbq17
    clear hS hbq17
    refine hK.out _ _ (by exact kbq17) (fun hS => ?_)
    clear hK K
    refine call_at 10 rfl (by kernel_rfl) (by rfl) (fun K hK => ?_)
    go_simp
    with_reducible refine ((D.encode Rq3.out) _).mono ?_
    rintro e vq18 ⟨rfl, hbq18⟩
    have kbq18 := below_next kbq17 hbq18
    clear hS hbq18
    refine hK.out _ _ (by exact kbq18) (fun hS => ?_)
    clear hK K
    refine' take_at 11 rfl (by kernel_rfl) (by kernel_rfl) (by kernel_rfl) (fun _ _ _ h => h) (by rfl) hS ?_ ?_ ?_
    rotate_left 2
    · intro W hSW; exact run_eql2 rfl rfl rfl guardB (by rw [show (F25519.encN p13) = (F25519.encN p2) from (show (F25519.encN p13) = (F25519.encN p2) from congrArg _ HRP.out)]; exact eqBytT (F25519.encN p2) W)
    · simp only [List.set_cons_succ, List.set_cons_zero]; rfl
    refine' take_at 12 rfl (by kernel_rfl) (by kernel_rfl) (by kernel_rfl) (fun _ _ _ h => h) (by rfl) hS ?_ ?_ ?_
    rotate_left 2
    · intro W hSW; go_simp; try with_reducible rfl
    · simp only [List.set_cons_succ, List.set_cons_zero]; rfl
    refine' take_at 13 rfl (by kernel_rfl) (by kernel_rfl) (by kernel_rfl) (fun _ _ _ h => h) (by rfl) hS ?_ ?_ ?_
    rotate_left 2
    · intro W hSW; go_simp; try with_reducible rfl
    · simp only [List.set_cons_succ, List.set_cons_zero]; rfl
    refine' take_at 14 rfl (by kernel_rfl) (by kernel_rfl) (by kernel_rfl) (fun _ _ _ h => h) (by rfl) hS ?_ ?_ ?_
    rotate_left 2
    · intro W hSW; exact run_loadR rfl rfl (HRq15.out.below hSW).tail.tail.tail.tail.head Try.underlying28 rfl (D.base.info Rq3.out)
    · simp only [List.set_cons_succ, List.set_cons_zero]; rfl
    refine' take_at 15 rfl (by kernel_rfl) (by kernel_rfl) (by kernel_rfl) (fun _ _ _ h => h) (by rfl) hS ?_ ?_ ?_
    rotate_left 2
    · intro W hSW; exact run_loadR rfl rfl (HRq15.out.below hSW).tail.tail.head Try.underlying28 rfl (D.base.info Rq7.out)
    · simp only [List.set_cons_succ, List.set_cons_zero]; rfl
    refine' take_at 17 rfl (by kernel_rfl) (by kernel_rfl) (by kernel_rfl) (fun _ _ _ h => h) (by rfl) hS ?_ ?_ ?_
    rotate_left 2
    · intro W hSW; exact run_loadR rfl rfl (HRq15.out.below hSW).tail.tail.tail.tail.head Try.underlying28 rfl (D.base.info Rq3.out)
    · simp only [List.set_cons_succ, List.set_cons_zero]; rfl
    refine' take_at 19 rfl (by kernel_rfl) (by kernel_rfl) (by kernel_rfl) (fun _ _ _ h => h) (by rfl) hS ?_ ?_ ?_
    rotate_left 2
    · intro W hSW; exact run_loadR rfl rfl (HRq15.out.below hSW).tail.tail.head Try.underlying28 rfl (D.base.info Rq7.out)
    · simp only [List.set_cons_succ, List.set_cons_zero]; rfl
    refine call_at 16 rfl (by kernel_rfl) (by rfl) (fun K hK => ?_)
    go_simp
    have kq19 := fun W : World => (D.equal Rq3.out Rq7.out) W
    rw [show ptEq p2 p6 = true from (ptEq_iff.2 HPQ.out)] at kq19
    have Kq19 := Lib.hid kq19
    clear kq19
    with_reducible refine (Kq19.out _).mono ?_
    rintro e vq19 ⟨rfl, hbq19⟩
    have kbq19 := below_next kbq18 hbq19
    clear hS hbq19
    refine hK.out _ _ (by exact kbq19) (fun hS => ?_)
    clear hK K
    refine call_at 18 rfl (by kernel_rfl) (by rfl) (fun K hK => ?_)
    go_simp
    with_reducible refine ((D.encode Rq3.out) _).mono ?_
    rintro e vq20 ⟨rfl, hbq20⟩
    have kbq20 := below_next kbq19 hbq20
    clear hS hbq20
    refine hK.out _ _ (by exact kbq20) (fun hS => ?_)
    clear hK K
    refine call_at 20 rfl (by kernel_rfl) (by rfl) (fun K hK => ?_)
    go_simp
    with_reducible refine ((D.encode Rq7.out) _).mono ?_
    rintro e vq21 ⟨rfl, hbq21⟩
    have kbq21 := below_next kbq20 hbq21
    clear hS hbq21
    refine hK.out _ _ (by exact kbq21) (fun hS => ?_)
    clear hK K
    refine' take_at 21 rfl (by kernel_rfl) (by kernel_rfl) (by kernel_rfl) (fun _ _ _ h => h) (by rfl) hS ?_ ?_ ?_
    rotate_left 2
    · intro W hSW; exact run_eql2 rfl rfl rfl guardB (by rw [show (F25519.encN p2) = (F25519.encN p6) from (show (F25519.encN p2) = (F25519.encN p6) from congrArg _ HPQ.out)]; exact eqBytT (F25519.encN p6) W)
    · simp only [List.set_cons_succ, List.set_cons_zero]; rfl
    refine' take_at 22 rfl (by kernel_rfl) (by kernel_rfl) (by kernel_rfl) (fun _ _ _ h => h) (by rfl) hS ?_ ?_ ?_
    rotate_left 2
    · intro W hSW; go_simp; try with_reducible rfl
    · simp only [List.set_cons_succ, List.set_cons_zero]; rfl
    refine' take_at 23 rfl (by kernel_rfl) (by kernel_rfl) (by kernel_rfl) (fun _ _ _ h => h) (by rfl) hS ?_ ?_ ?_
    rotate_left 2
    · intro W hSW; go_simp; try with_reducible rfl
    · simp only [List.set_cons_succ, List.set_cons_zero]; rfl
    refine' take_at 24 rfl (by kernel_rfl) (by kernel_rfl) (by kernel_rfl) (fun _ _ _ h => h) (by rfl) hS ?_ ?_ ?_
    rotate_left 2
    · intro W hSW; go_simp; try with_reducible rfl
    · simp only [List.set_cons_succ, List.set_cons_zero]; rfl
    refine wpAnyH_done (by kernel_rfl) ?_ _
    refine NoPanic.normal ?_
    clear hS
    (try simp only [Act.put])
    have HRq22 := Lib.hid (HRq15.out.below kbq21)
    have HBq22 := Lib.hid (below_next HBq15.out kbq21)
    go_wp2_with fail
    go_ret
    exact ⟨rfl, HBq22.out⟩
  · have HPQ := Lib.hid hpq
    clear hpq
    refine wp_region_noPanic ?_
    refine wp_region_held_drew (S := fun W => Below Wq15.heap.size Wq15 W) (by kernel_rfl) (by exact (Below.refl _ _).drew) (fun hS => ?_)
    refine' take_at 0 rfl (by kernel_rfl) (by kernel_rfl) (by kernel_rfl) (fun _ _ _ h => h) (by rfl) hS ?_ ?_ ?_
    rotate_left 2
    · intro W hSW; go_simp; try with_reducible rfl
    · simp only [List.set_cons_succ, List.set_cons_zero]; rfl
    refine' take_at 1 rfl (by kernel_rfl) (by kernel_rfl) (by kernel_rfl) (fun _ _ _ h => h) (by rfl) hS ?_ ?_ ?_
    rotate_left 2
    · intro W hSW; go_simp; try with_reducible rfl
    · simp only [List.set_cons_succ, List.set_cons_zero]; rfl
    refine' take_at 2 rfl (by kernel_rfl) (by kernel_rfl) (by kernel_rfl) (fun _ _ _ h => h) (by rfl) hS ?_ ?_ ?_
    rotate_left 2
    · intro W hSW; exact run_loadR rfl rfl (HRq15.out.below hSW).head Try.underlying28 rfl (D.base.info Rq14.out)
    · simp only [List.set_cons_succ, List.set_cons_zero]; rfl
    refine' take_at 3 rfl (by kernel_rfl) (by kernel_rfl) (by kernel_rfl) (fun _ _ _ h => h) (by rfl) hS ?_ ?_ ?_
    rotate_left 2
    · intro W hSW; exact run_loadR rfl rfl (HRq15.out.below hSW).tail.tail.tail.tail.head Try.underlying28 rfl (D.base.info Rq3.out)
    · simp only [List.set_cons_succ, List.set_cons_zero]; rfl
    refine call_at 4 rfl (by kernel_rfl) (by rfl) (fun K hK => ?_)
    go_simp
    have kq23 := fun W : World => (D.equal Rq14.out Rq3.out) W
    rw [show ptEq p13 p2 = true from (ptEq_iff.2 HRP.out)] at kq23
    have Kq23 := Lib.hid kq23
    clear kq23
    with_reducible refine (Kq23.out _).mono ?_
    rintro e vq23 ⟨rfl, hbq23⟩
    have kbq23 := below_next hS hbq23
    clear hS hbq23
    refine hK.out _ _ (by exact kbq23) (fun hS => ?_)
    clear hK K
    refine' take_at 5 rfl (by kernel_rfl) (by kernel_rfl) (by kernel_rfl) (fun _ _ _ h => h) (by rfl) hS ?_ ?_ ?_
    rotate_left 2
    · intro W hSW; go_simp; try with_reducible rfl
    · simp only [List.set_cons_succ, List.set_cons_zero]; rfl
    refine' take_at 6 rfl (by kernel_rfl) (by kernel_rfl) (by kernel_rfl) (fun _ _ _ h => h) (by rfl) hS ?_ ?_ ?_
    rotate_left 2
    · intro W hSW; go_simp; try with_reducible rfl
    · simp only [List.set_cons_succ, List.set_cons_zero]; rfl
    refine' take_at 7 rfl (by kernel_rfl) (by kernel_rfl) (by kernel_rfl) (fun _ _ _ h => h) (by rfl) hS ?_ ?_ ?_
    rotate_left 2
    · intro W hSW; exact run_loadR rfl rfl (HRq15.out.below hSW).head Try.underlying28 rfl (D.base.info Rq14.out)
    · simp only [List.set_cons_succ, List.set_cons_zero]; rfl
    refine' take_at 9 rfl (by kernel_rfl) (by kernel_rfl) (by kernel_rfl) (fun _ _ _ h => h) (by rfl) hS ?_ ?_ ?_
    rotate_left 2
    · intro W hSW; exact run_loadR rfl rfl (HRq15.out.below hSW).tail.tail.tail.tail.head Try.underlying28 rfl (D.base.info Rq3.out)
    · simp only [List.set_cons_succ, List.set_cons_zero]; rfl
    refine call_at 8 rfl (by kernel_rfl) (by rfl) (fun K hK => ?_)
    go_simp
    with_reducible refine ((D.encode Rq14.out) _).mono ?_
    rintro e vq24 ⟨rfl, hbq24⟩
    have kbq24 := below_next kbq23 hbq24
    clear hS hbq24
    refine hK.out _ _ (by exact kbq24) (fun hS => ?_)
    clear hK K
    refine call_at 10 rfl (by kernel_rfl) (by rfl) (fun K hK => ?_)
    go_simp
    with_reducible refine ((D.encode Rq3.out) _).mono ?_
    rintro e vq25 ⟨rfl, hbq25⟩
    have kbq25 := below_next kbq24 hbq25
    clear hS hbq25
    refine hK.out _ _ (by exact kbq25) (fun hS => ?_)
    clear hK K
    refine' take_at 11 rfl (by kernel_rfl) (by kernel_rfl) (by kernel_rfl) (fun _ _ _ h => h) (by rfl) hS ?_ ?_ ?_
    rotate_left 2
    · intro W hSW; exact run_eql2 rfl rfl rfl guardB (by rw [show (F25519.encN p13) = (F25519.encN p2) from (show (F25519.encN p13) = (F25519.encN p2) from congrArg _ HRP.out)]; exact eqBytT (F25519.encN p2) W)
    · simp only [List.set_cons_succ, List.set_cons_zero]; rfl
    refine' take_at 12 rfl (by kernel_rfl) (by kernel_rfl) (by kernel_rfl) (fun _ _ _ h => h) (by rfl) hS ?_ ?_ ?_
    rotate_left 2
    · intro W hSW; go_simp; try with_reducible rfl
    · simp only [List.set_cons_succ, List.set_cons_zero]; rfl
    refine' take_at 13 rfl (by kernel_rfl) (by kernel_rfl) (by kernel_rfl) (fun _ _ _ h => h) (by rfl) hS ?_ ?_ ?_
    rotate_left 2
    · intro W hSW; go_simp; try with_reducible rfl
    · simp only [List.set_cons_succ, List.set_cons_zero]; rfl
    refine' take_at 14 rfl (by kernel_rfl) (by kernel_rfl) (by kernel_rfl) (fun _ _ _ h => h) (by rfl) hS ?_ ?_ ?_
    rotate_left 2
    · intro W hSW; exact run_loadR rfl rfl (HRq15.out.below hSW).tail.tail.tail.tail.head Try.underlying28 rfl (D.base.info Rq3.out)
    · simp only [List.set_cons_succ, List.set_cons_zero]; rfl
    refine' take_at 15 rfl (by kernel_rfl) (by kernel_rfl) (by kernel_rfl) (fun _ _ _ h => h) (by rfl) hS ?_ ?_ ?_
    rotate_left 2
    · intro W hSW; exact run_loadR rfl rfl (HRq15.out.below hSW).tail.tail.head Try.underlying28 rfl (D.base.info Rq7.out)
    · simp only [List.set_cons_succ, List.set_cons_zero]; rfl
    refine' take_at 17 rfl (by kernel_rfl) (by kernel_rfl) (by kernel_rfl) (fun _ _ _ h => h) (by rfl) hS ?_ ?_ ?_
    rotate_left 2
    · intro W hSW; exact run_loadR rfl rfl (HRq15.out.below hSW).tail.tail.tail.tail.head Try.underlying28 rfl (D.base.info Rq3.out)
    · simp only [List.set_cons_succ, List.set_cons_zero]; rfl
    refine' take_at 19 rfl (by kernel_rfl) (by kernel_rfl) (by kernel_rfl) (fun _ _ _ h => h) (by rfl) hS ?_ ?_ ?_
    rotate_left 2
    · intro W hSW; exact run_loadR rfl rfl (HRq15.out.below hSW).tail.tail.head Try.underlying28 rfl (D.base.info Rq7.out)
    · simp only [List.set_cons_succ, List.set_cons_zero]; rfl
    refine call_at 16 rfl (by kernel_rfl) (by rfl) (fun K hK => ?_)
    go_simp
    have kq26 := fun W : World => (D.equal Rq3.out Rq7.out) W
    rw [show ptEq p2 p6 = false from (ptEq_ne HPQ.out)] at kq26
    have Kq26 := Lib.hid kq26
    clear kq26
    with_reducible refine (Kq26.out _).mono ?_
    rintro e vq26 ⟨rfl, hbq26⟩
    have kbq26 := below_next kbq25 hbq26
    clear hS hbq26
    refine hK.out _ _ (by exact kbq26) (fun hS => ?_)
    clear hK K
    refine call_at 18 rfl (by kernel_rfl) (by rfl) (fun K hK => ?_)
    go_simp
    with_reducible refine ((D.encode Rq3.out) _).mono ?_
    rintro e vq27 ⟨rfl, hbq27⟩
    have kbq27 := below_next kbq26 hbq27
    clear hS hbq27
    refine hK.out _ _ (by exact kbq27) (fun hS => ?_)
    clear hK K
    refine call_at 20 rfl (by kernel_rfl) (by rfl) (fun K hK => ?_)
    go_simp
    with_reducible refine ((D.encode Rq7.out) _).mono ?_
    rintro e vq28 ⟨rfl, hbq28⟩
    have kbq28 := below_next kbq27 hbq28
    clear hS hbq28
    refine hK.out _ _ (by exact kbq28) (fun hS => ?_)
    clear hK K
    refine' take_at 21 rfl (by kernel_rfl) (by kernel_rfl) (by kernel_rfl) (fun _ _ _ h => h) (by rfl) hS ?_ ?_ ?_
    rotate_left 2
    · intro W hSW; exact run_eql2 rfl rfl rfl guardB (eqBytF (encN_lt _) (encN_lt _) (fun e => HPQ.out (F25519.encN_inj e)) W)
    · simp only [List.set_cons_succ, List.set_cons_zero]; rfl
    refine' take_at 22 rfl (by kernel_rfl) (by kernel_rfl) (by kernel_rfl) (fun _ _ _ h => h) (by rfl) hS ?_ ?_ ?_
    rotate_left 2
    · intro W hSW; go_simp; try with_reducible rfl
    · simp only [List.set_cons_succ, List.set_cons_zero]; rfl
    refine' take_at 23 rfl (by kernel_rfl) (by kernel_rfl) (by kernel_rfl) (fun _ _ _ h => h) (by rfl) hS ?_ ?_ ?_
    rotate_left 2
    · intro W hSW; go_simp; try with_reducible rfl
    · simp only [List.set_cons_succ, List.set_cons_zero]; rfl
    refine' take_at 24 rfl (by kernel_rfl) (by kernel_rfl) (by kernel_rfl) (fun _ _ _ h => h) (by rfl) hS ?_ ?_ ?_
    rotate_left 2
    · intro W hSW; go_simp; try with_reducible rfl
    · simp only [List.set_cons_succ, List.set_cons_zero]; rfl
    refine wpAnyH_done (by kernel_rfl) ?_ _
    refine NoPanic.normal ?_
    clear hS
    (try simp only [Act.put])
    have HRq29 := Lib.hid (HRq15.out.below kbq28)
    have HBq29 := Lib.hid (below_next HBq15.out kbq28)
    go_wp2_with fail
    go_ret
    exact ⟨rfl, HBq29.out⟩
end Go.Proofs.Ytddijcopoaeejaa

