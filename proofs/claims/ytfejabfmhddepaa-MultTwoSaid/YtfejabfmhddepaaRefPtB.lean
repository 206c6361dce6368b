/- The reference's points: plus, Plus, Turn, Alike. Written by wip/tools/mk_pt12.py. -/
import Derived.Test.YtfejabfmhddepaaRefPtA
import Derived.Test.YtfejabfmhddepaaPtD
namespace Go.Proofs.Ytfejabfmhddepaa
open Go.RowKit
set_option linter.unusedVariables false
set_option maxRecDepth 100000

theorem rq_info {c : Array Value} {p : PtD} (h : RQ c p) : (Try.prog.info? 33).map (·.size) = some c.size := by
  obtain ⟨X, Y, Z, T, rfl, _⟩ := h; exact refP_info _ _ _ _
theorem rq_one {c : Array Value} {p : PtD} (h : RQ c p) : c.all (·.oneCell') = true := by
  obtain ⟨X, Y, Z, T, rfl, _⟩ := h; exact refP_one _ _ _ _
theorem rq_size {c : Array Value} {p : PtD} (h : RQ c p) {X Y Z T : Nat} : (refP X Y Z T).size = c.size := by
  obtain ⟨X', Y', Z', T', rfl, _⟩ := h; exact refP_sizes _ _ _ _ _ _ _ _
set_option maxHeartbeats 3200000 in
theorem rplusN {X1 Y1 Z1 T1 X2 Y2 Z2 T2 : Nat} {p q : PtD} (h1 : Co X1 Y1 Z1 T1 p) (h2 : Co X2 Y2 Z2 T2 q) (w : World) : Calls Try.prog 49 #[.agg (refP X1 Y1 Z1 T1), .agg (refP X2 Y2 Z2 T2), .agg (refT ((edN + edN) % PP))] w (RetPt RQ w (padd p q)) := by
  have HC1 := Lib.hid h1
  clear h1
  have HC2 := Lib.hid h2
  clear h2
  obtain ⟨dd, hdd⟩ : ∃ y, (edN + edN) % PP = y := ⟨_, rfl⟩
  have HLdd : Hid (dd < PP) := Lib.hid (by rw [← hdd]; exact mod_lt_PP _)
  rw [hdd]
  have HDD := Lib.hid hdd
  clear hdd
  have hzR := refT_zero
  have hz32 := zero32_zero
  have hzP := refP_zero
  have HR0 := Lib.hid (((((RowsW.nil w).box (refP X1 Y1 Z1 T1) 33).box (refP X2 Y2 Z2 T2) 33).box (refT dd) 31).box (refP 0 0 0 0) 33)
  have HB0 := Lib.hid (below_box (below_box (below_box (below_box (Below.refl w.heap.size w) (refP X1 Y1 Z1 T1) 33) (refP X2 Y2 Z2 T2) 33) (refT dd) 31) (refP 0 0 0 0) 33)
  rw [World.size_alloc] at HR0
  rw [World.size_alloc] at HR0
  rw [World.size_alloc] at HR0
  go_enter Try.func49, Try.ntmps49
  go_upto_region 1 with fail
  obtain ⟨W0, hW0⟩ : ∃ W, ((((w.alloc (.cells (refP X1 Y1 Z1 T1) 33)).alloc (.cells (refP X2 Y2 Z2 T2) 33)).alloc (.cells (refT dd) 31)).alloc (.cells (refP 0 0 0 0) 33)) = W := ⟨_, rfl⟩
  obtain ⟨g0, hg0⟩ : ∃ g, w.heap.size = g := ⟨_, rfl⟩
  rw [hW0] at HR0 HB0
  rw [hg0] at HR0
  rw [hW0, hg0]
  have HG0 := Lib.hid hg0
  clear hW0 hg0
  refine wp_region_noPanic ?_
  refine wp_region_heldB 11 7 31 (refT 0) (by kernel_rfl) (by kernel_rfl) ⟨by kernel_rfl, by kernel_rfl, hzR, fun _ _ _ h => h⟩ (fun hA hS => ?_)
  refine' take_atB 0 hA rfl (by kernel_rfl) (by kernel_rfl) (by kernel_rfl) (by kernel_rfl) (by kernel_rfl) (by rfl) (by rfl) hS ?_ ?_ ?_
  rotate_left 2
  · intro W hSW; go_simp; try with_reducible rfl
  · simp only [List.set_cons_succ, List.set_cons_zero]; rfl
  refine' take_atB 1 hA rfl (by kernel_rfl) (by kernel_rfl) (by kernel_rfl) (by kernel_rfl) (by kernel_rfl) (by rfl) (by rfl) hS ?_ ?_ ?_
  rotate_left 2
  · intro W hSW; exact run_loadP rfl rfl (HR0.out.below hSW).tail.tail.tail.head Try.underlying31 rfl (refT_info Y1) (refP_1 _ _ _ _)
  · simp only [List.set_cons_succ, List.set_cons_zero]; rfl
  refine' take_atB 2 hA rfl (by kernel_rfl) (by kernel_rfl) (by kernel_rfl) (by kernel_rfl) (by kernel_rfl) (by rfl) (by rfl) hS ?_ ?_ ?_
  rotate_left 2
  · intro W hSW; go_simp; try with_reducible rfl
  · simp only [List.set_cons_succ, List.set_cons_zero]; rfl
  refine' take_atB 3 hA rfl (by kernel_rfl) (by kernel_rfl) (by kernel_rfl) (by kernel_rfl) (by kernel_rfl) (by rfl) (by rfl) hS ?_ ?_ ?_
  rotate_left 2
  · intro W hSW; exact run_loadP rfl rfl (HR0.out.below hSW).tail.tail.tail.head Try.underlying31 rfl (refT_info X1) (refP_0 _ _ _ _)
  · simp only [List.set_cons_succ, List.set_cons_zero]; rfl
  refine' take_atB 5 hA rfl (by kernel_rfl) (by kernel_rfl) (by kernel_rfl) (by kernel_rfl) (by kernel_rfl) (by rfl) (by rfl) hS ?_ ?_ ?_
  rotate_left 2
  · intro W hSW; go_simp; try with_reducible rfl
  · simp only [List.set_cons_succ, List.set_cons_zero]; rfl
  refine' take_atB 6 hA rfl (by kernel_rfl) (by kernel_rfl) (by kernel_rfl) (by kernel_rfl) (by kernel_rfl) (by rfl) (by rfl) hS ?_ ?_ ?_
  rotate_left 2
  · intro W hSW; exact run_loadP rfl rfl (HR0.out.below hSW).tail.tail.head Try.underlying31 rfl (refT_info Y2) (refP_1 _ _ _ _)
  · simp only [List.set_cons_succ, List.set_cons_zero]; rfl
  refine' take_atB 7 hA rfl (by kernel_rfl) (by kernel_rfl) (by kernel_rfl) (by kernel_rfl) (by kernel_rfl) (by rfl) (by rfl) hS ?_ ?_ ?_
  rotate_left 2
  · intro W hSW; go_simp; try with_reducible rfl
  · simp only [List.set_cons_succ, List.set_cons_zero]; rfl
  refine' take_atB 8 hA rfl (by kernel_rfl) (by kernel_rfl) (by kernel_rfl) (by kernel_rfl) (by kernel_rfl) (by rfl) (by rfl) hS ?_ ?_ ?_
  rotate_left 2
  · intro W hSW; exact run_loadP rfl rfl (HR0.out.below hSW).tail.tail.head Try.underlying31 rfl (refT_info X2) (refP_0 _ _ _ _)
  · simp only [List.set_cons_succ, List.set_cons_zero]; rfl
  refine call_atB 4 hA rfl (by kernel_rfl) (by kernel_rfl) (by kernel_rfl) (by kernel_rfl) (by rfl) (by rfl) hS (fun oq2 Xq2 hS K hK => ?_)
  go_simp
  obtain ⟨n1, hn1⟩ : ∃ x_ : Nat, (Y1 + (PP - X1)) % PP = x_ := ⟨_, rfl⟩
  have Hn1 := Lib.hid hn1
  have HLn1 : Hid (n1 < PP) := Lib.hid (by rw [← hn1]; exact Nat.mod_lt _ (by decide))
  clear hn1
  have kq2 := fun W : World => (rsubN HC1.out.y HC1.out.x) W
  rw [Hn1.out] at kq2
  have Kq2 := Lib.hid kq2
  clear kq2
  with_reducible refine (Kq2.out _).mono ?_
  rintro e vq2 ⟨rfl, hbq2⟩
  refine hK.out _ _ hbq2 (fun hS => ?_)
  clear hK K hbq2
  refine call_atB 9 hA rfl (by kernel_rfl) (by kernel_rfl) (by kernel_rfl) (by kernel_rfl) (by rfl) (by rfl) hS (fun oq4 Xq4 hS K hK => ?_)
  go_simp
  obtain ⟨n3, hn3⟩ : ∃ x_ : Nat, (Y2 + (PP - X2)) % PP = x_ := ⟨_, rfl⟩
  have Hn3 := Lib.hid hn3
  have HLn3 : Hid (n3 < PP) := Lib.hid (by rw [← hn3]; exact Nat.mod_lt _ (by decide))
  clear hn3
  have kq4 := fun W : World => (rsubN HC2.out.y HC2.out.x) W
  rw [Hn3.out] at kq4
  have Kq4 := Lib.hid kq4
  clear kq4
  with_reducible refine (Kq4.out _).mono ?_
  rintro e vq4 ⟨rfl, hbq4⟩
  refine hK.out _ _ hbq4 (fun hS => ?_)
  clear hK K hbq4
  refine call_atB 10 hA rfl (by kernel_rfl) (by kernel_rfl) (by kernel_rfl) (by kernel_rfl) (by rfl) (by rfl) hS (fun oq6 Xq6 hS K hK => ?_)
  go_simp
  obtain ⟨n5, hn5⟩ : ∃ x_ : Nat, (n1 * n3) % PP = x_ := ⟨_, rfl⟩
  have Hn5 := Lib.hid hn5
  have HLn5 : Hid (n5 < PP) := Lib.hid (by rw [← hn5]; exact Nat.mod_lt _ (by decide))
  clear hn5
  have kq6 := fun W : World => (rmulN HLn1.out HLn3.out) W
  rw [Hn5.out] at kq6
  have Kq6 := Lib.hid kq6
  clear kq6
  with_reducible refine (Kq6.out _).mono ?_
  rintro e vq6 ⟨rfl, hbq6⟩
  refine hK.out _ _ hbq6 (fun hS => ?_)
  clear hK K hbq6
  refine' store_atB 12 hA rfl (by kernel_rfl) (by kernel_rfl) (by kernel_rfl) hS (by kernel_rfl) rfl (by intro h; cases h) (refT_info _) (refT_size _ _) (refT_one _) ?_ ?_
  rotate_left 1
  · intro g; simp only [List.set_cons_succ, List.set_cons_zero]; rfl
  intro gq7 Wq7 hgq7 hbq7 hrowq7
  clear hA hS
  refine wpAnyH_done (by kernel_rfl) ?_ _
  refine NoPanic.normal ?_
  (try simp only [Act.put])
  have HRq7 : Hid (RowsW Wq7 [(gq7, (refT n5), 31), ((g0 + 1 + 1 + 1), (refP 0 0 0 0), 33), ((g0 + 1 + 1), (refT dd), 31), ((g0 + 1), (refP X2 Y2 Z2 T2), 33), (g0, (refP X1 Y1 Z1 T1), 33)]) := Lib.hid ⟨hrowq7, HR0.out.below hbq7⟩
  have HBq7 := Lib.hid (below_next HB0.out hbq7)
  have NEq7_0 : Hid (g0 ≠ gq7) := Lib.hid (by have h := HR0.out.lt (g0, (refP X1 Y1 Z1 T1), 33) (by simp); have := hgq7; simp only at h; omega)
  have NEq7_1 : Hid ((g0 + 1) ≠ gq7) := Lib.hid (by have h := HR0.out.lt ((g0 + 1), (refP X2 Y2 Z2 T2), 33) (by simp); have := hgq7; simp only at h; omega)
  have NEq7_2 : Hid ((g0 + 1 + 1) ≠ gq7) := Lib.hid (by have h := HR0.out.lt ((g0 + 1 + 1), (refT dd), 31) (by simp); have := hgq7; simp only at h; omega)
  have NEq7_3 : Hid ((g0 + 1 + 1 + 1) ≠ gq7) := Lib.hid (by have h := HR0.out.lt ((g0 + 1 + 1 + 1), (refP 0 0 0 0), 33) (by simp); have := hgq7; simp only at h; omega)
  have HGq7 := Lib.hid (Nat.le_trans HB0.out.size hgq7)
  clear hrowq7 hbq7 hgq7
  go_upto_region 2 with fail
  refine wp_region_noPanic ?_
  refine wp_region_heldB 11 8 31 (refT 0) (by kernel_rfl) (by kernel_rfl) ⟨by kernel_rfl, by kernel_rfl, hzR, fun _ _ _ h => h⟩ (fun hA hS => ?_)
  refine' take_atB 0 hA rfl (by kernel_rfl) (by kernel_rfl) (by kernel_rfl) (by kernel_rfl) (by kernel_rfl) (by rfl) (by rfl) hS ?_ ?_ ?_
  rotate_left 2
  · intro W hSW; go_simp; try with_reducible rfl
  · simp only [List.set_cons_succ, List.set_cons_zero]; rfl
  refine' take_atB 1 hA rfl (by kernel_rfl) (by kernel_rfl) (by kernel_rfl) (by kernel_rfl) (by kernel_rfl) (by rfl) (by rfl) hS ?_ ?_ ?_
  rotate_left 2
  · intro W hSW; exact run_loadP rfl rfl (HRq7.out.below hSW).tail.tail.tail.tail.head Try.underlying31 rfl (refT_info Y1) (refP_1 _ _ _ _)
  · simp only [List.set_cons_succ, List.set_cons_zero]; rfl
  refine' take_atB 2 hA rfl (by kernel_rfl) (by kernel_rfl) (by kernel_rfl) (by kernel_rfl) (by kernel_rfl) (by rfl) (by rfl) hS ?_ ?_ ?_
  rotate_left 2
  · intro W hSW; go_simp; try with_reducible rfl
  · simp only [List.set_cons_succ, List.set_cons_zero]; rfl
  refine' take_atB 3 hA rfl (by kernel_rfl) (by kernel_rfl) (by kernel_rfl) (by kernel_rfl) (by kernel_rfl) (by rfl) (by rfl) hS ?_ ?_ ?_
  rotate_left 2
  · intro W hSW; exact run_loadP rfl rfl (HRq7.out.below hSW).tail.tail.tail.tail.head Try.underlying31 rfl (refT_info X1) (refP_0 _ _ _ _)
  · simp only [List.set_cons_succ, List.set_cons_zero]; rfl
  refine' take_atB 5 hA rfl (by kernel_rfl) (by kernel_rfl) (by kernel_rfl) (by kernel_rfl) (by kernel_rfl) (by rfl) (by rfl) hS ?_ ?_ ?_
  rotate_left 2
  · intro W hSW; go_simp; try with_reducible rfl
  · simp only [List.set_cons_succ, List.set_cons_zero]; rfl
  refine' take_atB 6 hA rfl (by kernel_rfl) (by kernel_rfl) (by kernel_rfl) (by kernel_rfl) (by kernel_rfl) (by rfl) (by rfl) hS ?_ ?_ ?_
  rotate_left 2
  · intro W hSW; exact run_loadP rfl rfl (HRq7.out.below hSW).tail.tail.tail.head Try.underlying31 rfl (refT_info Y2) (refP_1 _ _ _ _)
  · simp only [List.set_cons_succ, List.set_cons_zero]; rfl
  refine' take_atB 7 hA rfl (by kernel_rfl) (by kernel_rfl) (by kernel_rfl) (by kernel_rfl) (by kernel_rfl) (by rfl) (by rfl) hS ?_ ?_ ?_
  rotate_left 2
  · intro W hSW; go_simp; try with_reducible rfl
  · simp only [List.set_cons_succ, List.set_cons_zero]; rfl
  refine' take_atB 8 hA rfl (by kernel_rfl) (by kernel_rfl) (by kernel_rfl) (by kernel_rfl) (by kernel_rfl) (by rfl) (by rfl) hS ?_ ?_ ?_
  rotate_left 2
  · intro W hSW; exact run_loadP rfl rfl (HRq7.out.below hSW).tail.tail.tail.head Try.underlying31 rfl (refT_info X2) (refP_0 _ _ _ _)
  · simp only [List.set_cons_succ, List.set_cons_zero]; rfl
  refine call_atB 4 hA rfl (by kernel_rfl) (by kernel_rfl) (by kernel_rfl) (by kernel_rfl) (by rfl) (by rfl) hS (fun oq9 Xq9 hS K hK => ?_)
  go_simp
  obtain ⟨n8, hn8⟩ : ∃ x_ : Nat, (Y1 + X1) % PP = x_ := ⟨_, rfl⟩
  have Hn8 := Lib.hid hn8
  have HLn8 : Hid (n8 < PP) := Lib.hid (by rw [← hn8]; exact Nat.mod_lt _ (by decide))
  clear hn8
  have kq9 := fun W : World => (raddN HC1.out.y HC1.out.x) W
  rw [Hn8.out] at kq9
  have Kq9 := Lib.hid kq9
  clear kq9
  with_reducible refine (Kq9.out _).mono ?_
  rintro e vq9 ⟨rfl, hbq9⟩
  refine hK.out _ _ hbq9 (fun hS => ?_)
  clear hK K hbq9
  refine call_atB 9 hA rfl (by kernel_rfl) (by kernel_rfl) (by kernel_rfl) (by kernel_rfl) (by rfl) (by rfl) hS (fun oq11 Xq11 hS K hK => ?_)
  go_simp
  obtain ⟨n10, hn10⟩ : ∃ x_ : Nat, (Y2 + X2) % PP = x_ := ⟨_, rfl⟩
  have Hn10 := Lib.hid hn10
  have HLn10 : Hid (n10 < PP) := Lib.hid (by rw [← hn10]; exact Nat.mod_lt _ (by decide))
  clear hn10
  have kq11 := fun W : World => (raddN HC2.out.y HC2.out.x) W
  rw [Hn10.out] at kq11
  have Kq11 := Lib.hid kq11
  clear kq11
  with_reducible refine (Kq11.out _).mono ?_
  rintro e vq11 ⟨rfl, hbq11⟩
  refine hK.out _ _ hbq11 (fun hS => ?_)
  clear hK K hbq11
  refine call_atB 10 hA rfl (by kernel_rfl) (by kernel_rfl) (by kernel_rfl) (by kernel_rfl) (by rfl) (by rfl) hS (fun oq13 Xq13 hS K hK => ?_)
  go_simp
  obtain ⟨n12, hn12⟩ : ∃ x_ : Nat, (n8 * n10) % PP = x_ := ⟨_, rfl⟩
  have Hn12 := Lib.hid hn12
  have HLn12 : Hid (n12 < PP) := Lib.hid (by rw [← hn12]; exact Nat.mod_lt _ (by decide))
  clear hn12
  have kq13 := fun W : World => (rmulN HLn8.out HLn10.out) W
  rw [Hn12.out] at kq13
  have Kq13 := Lib.hid kq13
  clear kq13
  with_reducible refine (Kq13.out _).mono ?_
  rintro e vq13 ⟨rfl, hbq13⟩
  refine hK.out _ _ hbq13 (fun hS => ?_)
  clear hK K hbq13
  refine' store_atB 12 hA rfl (by kernel_rfl) (by kernel_rfl) (by kernel_rfl) hS (by kernel_rfl) rfl (by intro h; cases h) (refT_info _) (refT_size _ _) (refT_one _) ?_ ?_
  rotate_left 1
  · intro g; simp only [List.set_cons_succ, List.set_cons_zero]; rfl
  intro gq14 Wq14 hgq14 hbq14 hrowq14
  clear hA hS
  refine wpAnyH_done (by kernel_rfl) ?_ _
  refine NoPanic.normal ?_
  (try simp only [Act.put])
  have HRq14 : Hid (RowsW Wq14 [(gq14, (refT n12), 31), (gq7, (refT n5), 31), ((g0 + 1 + 1 + 1), (refP 0 0 0 0), 33), ((g0 + 1 + 1), (refT dd), 31), ((g0 + 1), (refP X2 Y2 Z2 T2), 33), (g0, (refP X1 Y1 Z1 T1), 33)]) := Lib.hid ⟨hrowq14, HRq7.out.below hbq14⟩
  have HBq14 := Lib.hid (below_next HBq7.out hbq14)
  have NEq14_0 : Hid (g0 ≠ gq14) := Lib.hid (by have h := HRq7.out.lt (g0, (refP X1 Y1 Z1 T1), 33) (by simp); have := hgq14; simp only at h; omega)
  have NEq14_1 : Hid ((g0 + 1) ≠ gq14) := Lib.hid (by have h := HRq7.out.lt ((g0 + 1), (refP X2 Y2 Z2 T2), 33) (by simp); have := hgq14; simp only at h; omega)
  have NEq14_2 : Hid ((g0 + 1 + 1) ≠ gq14) := Lib.hid (by have h := HRq7.out.lt ((g0 + 1 + 1), (refT dd), 31) (by simp); have := hgq14; simp only at h; omega)
  have NEq14_3 : Hid ((g0 + 1 + 1 + 1) ≠ gq14) := Lib.hid (by have h := HRq7.out.lt ((g0 + 1 + 1 + 1), (refP 0 0 0 0), 33) (by simp); have := hgq14; simp only at h; omega)
  have NEq14_4 : Hid (gq7 ≠ gq14) := Lib.hid (by have h := HRq7.out.lt (gq7, (refT n5), 31) (by simp); have := hgq14; simp only at h; omega)
  have HGq14 := Lib.hid (Nat.le_trans HBq7.out.size hgq14)
  clear hrowq14 hbq14 hgq14
  go_upto_region 3 with fail
  refine wp_region_noPanic ?_
  refine wp_region_heldB 7 9 31 (refT 0) (by kernel_rfl) (by kernel_rfl) ⟨by kernel_rfl, by kernel_rfl, hzR, fun _ _ _ h => h⟩ (fun hA hS => ?_)
  refine' take_atB 0 hA rfl (by kernel_rfl) (by kernel_rfl) (by kernel_rfl) (by kernel_rfl) (by kernel_rfl) (by rfl) (by rfl) hS ?_ ?_ ?_
  rotate_left 2
  · intro W hSW; go_simp; try with_reducible rfl
  · simp only [List.set_cons_succ, List.set_cons_zero]; rfl
  refine' take_atB 1 hA rfl (by kernel_rfl) (by kernel_rfl) (by kernel_rfl) (by kernel_rfl) (by kernel_rfl) (by rfl) (by rfl) hS ?_ ?_ ?_
  rotate_left 2
  · intro W hSW; exact run_loadP rfl rfl (HRq14.out.below hSW).tail.tail.tail.tail.tail.head Try.underlying31 rfl (refT_info T1) (refP_3 _ _ _ _)
  · simp only [List.set_cons_succ, List.set_cons_zero]; rfl
  refine' take_atB 2 hA rfl (by kernel_rfl) (by kernel_rfl) (by kernel_rfl) (by kernel_rfl) (by kernel_rfl) (by rfl) (by rfl) hS ?_ ?_ ?_
  rotate_left 2
  · intro W hSW; go_simp; try with_reducible rfl
  · simp only [List.set_cons_succ, List.set_cons_zero]; rfl
  refine' take_atB 3 hA rfl (by kernel_rfl) (by kernel_rfl) (by kernel_rfl) (by kernel_rfl) (by kernel_rfl) (by rfl) (by rfl) hS ?_ ?_ ?_
  rotate_left 2
  · intro W hSW; exact run_loadP rfl rfl (HRq14.out.below hSW).tail.tail.tail.tail.head Try.underlying31 rfl (refT_info T2) (refP_3 _ _ _ _)
  · simp only [List.set_cons_succ, List.set_cons_zero]; rfl
  refine' take_atB 5 hA rfl (by kernel_rfl) (by kernel_rfl) (by kernel_rfl) (by kernel_rfl) (by kernel_rfl) (by rfl) (by rfl) hS ?_ ?_ ?_
  rotate_left 2
  · intro W hSW; exact run_loadR rfl rfl (HRq14.out.below hSW).tail.tail.tail.head Try.underlying31 rfl (refT_info _)
  · simp only [List.set_cons_succ, List.set_cons_zero]; rfl
  refine call_atB 4 hA rfl (by kernel_rfl) (by kernel_rfl) (by kernel_rfl) (by kernel_rfl) (by rfl) (by rfl) hS (fun oq16 Xq16 hS K hK => ?_)
  go_simp
  obtain ⟨n15, hn15⟩ : ∃ x_ : Nat, (T1 * T2) % PP = x_ := ⟨_, rfl⟩
  have Hn15 := Lib.hid hn15
  have HLn15 : Hid (n15 < PP) := Lib.hid (by rw [← hn15]; exact Nat.mod_lt _ (by decide))
  clear hn15
  have kq16 := fun W : World => (rmulN HC1.out.t HC2.out.t) W
  rw [Hn15.out] at kq16
  have Kq16 := Lib.hid kq16
  clear kq16
  with_reducible refine (Kq16.out _).mono ?_
  rintro e vq16 ⟨rfl, hbq16⟩
  refine hK.out _ _ hbq16 (fun hS => ?_)
  clear hK K hbq16
  refine call_atB 6 hA rfl (by kernel_rfl) (by kernel_rfl) (by kernel_rfl) (by kernel_rfl) (by rfl) (by rfl) hS (fun oq18 Xq18 hS K hK => ?_)
  go_simp
  obtain ⟨n17, hn17⟩ : ∃ x_ : Nat, (n15 * dd) % PP = x_ := ⟨_, rfl⟩
  have Hn17 := Lib.hid hn17
  have HLn17 : Hid (n17 < PP) := Lib.hid (by rw [← hn17]; exact Nat.mod_lt _ (by decide))
  clear hn17
  have kq18 := fun W : World => (rmulN HLn15.out HLdd.out) W
  rw [Hn17.out] at kq18
  have Kq18 := Lib.hid kq18
  clear kq18
  with_reducible refine (Kq18.out _).mono ?_
  rintro e vq18 ⟨rfl, hbq18⟩
  refine hK.out _ _ hbq18 (fun hS => ?_)
  clear hK K hbq18
  refine' store_atB 8 hA rfl (by kernel_rfl) (by kernel_rfl) (by kernel_rfl) hS (by kernel_rfl) rfl (by intro h; cases h) (refT_info _) (refT_size _ _) (refT_one _) ?_ ?_
  rotate_left 1
  · intro g; simp only [List.set_cons_succ, List.set_cons_zero]; rfl
  intro gq19 Wq19 hgq19 hbq19 hrowq19
  clear hA hS
  refine wpAnyH_done (by kernel_rfl) ?_ _
  refine NoPanic.normal ?_
  (try simp only [Act.put])
  have HRq19 : Hid (RowsW Wq19 [(gq19, (refT n17), 31), (gq14, (refT n12), 31), (gq7, (refT n5), 31), ((g0 + 1 + 1 + 1), (refP 0 0 0 0), 33), ((g0 + 1 + 1), (refT dd), 31), ((g0 + 1), (refP X2 Y2 Z2 T2), 33), (g0, (refP X1 Y1 Z1 T1), 33)]) := Lib.hid ⟨hrowq19, HRq14.out.below hbq19⟩
  have HBq19 := Lib.hid (below_next HBq14.out hbq19)
  have NEq19_0 : Hid (g0 ≠ gq19) := Lib.hid (by have h := HRq14.out.lt (g0, (refP X1 Y1 Z1 T1), 33) (by simp); have := hgq19; simp only at h; omega)
  have NEq19_1 : Hid ((g0 + 1) ≠ gq19) := Lib.hid (by have h := HRq14.out.lt ((g0 + 1), (refP X2 Y2 Z2 T2), 33) (by simp); have := hgq19; simp only at h; omega)
  have NEq19_2 : Hid ((g0 + 1 + 1) ≠ gq19) := Lib.hid (by have h := HRq14.out.lt ((g0 + 1 + 1), (refT dd), 31) (by simp); have := hgq19; simp only at h; omega)
  have NEq19_3 : Hid ((g0 + 1 + 1 + 1) ≠ gq19) := Lib.hid (by have h := HRq14.out.lt ((g0 + 1 + 1 + 1), (refP 0 0 0 0), 33) (by simp); have := hgq19; simp only at h; omega)
  have NEq19_4 : Hid (gq7 ≠ gq19) := Lib.hid (by have h := HRq14.out.lt (gq7, (refT n5), 31) (by simp); have := hgq19; simp only at h; omega)
  have NEq19_5 : Hid (gq14 ≠ gq19) := Lib.hid (by have h := HRq14.out.lt (gq14, (refT n12), 31) (by simp); have := hgq19; simp only at h; omega)
  have HGq19 := Lib.hid (Nat.le_trans HBq14.out.size hgq19)
  clear hrowq19 hbq19 hgq19
  go_upto_region 4 with fail
  refine wp_region_noPanic ?_
  refine wp_region_heldB 8 10 31 (refT 0) (by kernel_rfl) (by kernel_rfl) ⟨by kernel_rfl, by kernel_rfl, hzR, fun _ _ _ h => h⟩ (fun hA hS => ?_)
  refine' take_atB 0 hA rfl (by kernel_rfl) (by kernel_rfl) (by kernel_rfl) (by kernel_rfl) (by kernel_rfl) (by rfl) (by rfl) hS ?_ ?_ ?_
  rotate_left 2
  · intro W hSW; go_simp; try with_reducible rfl
  · simp only [List.set_cons_succ, List.set_cons_zero]; rfl
  refine' take_atB 1 hA rfl (by kernel_rfl) (by kernel_rfl) (by kernel_rfl) (by kernel_rfl) (by kernel_rfl) (by rfl) (by rfl) hS ?_ ?_ ?_
  rotate_left 2
  · intro W hSW; exact run_loadP rfl rfl (HRq19.out.below hSW).tail.tail.tail.tail.tail.tail.head Try.underlying31 rfl (refT_info Z1) (refP_2 _ _ _ _)
  · simp only [List.set_cons_succ, List.set_cons_zero]; rfl
  refine' take_atB 2 hA rfl (by kernel_rfl) (by kernel_rfl) (by kernel_rfl) (by kernel_rfl) (by kernel_rfl) (by rfl) (by rfl) hS ?_ ?_ ?_
  rotate_left 2
  · intro W hSW; go_simp; try with_reducible rfl
  · simp only [List.set_cons_succ, List.set_cons_zero]; rfl
  refine' take_atB 3 hA rfl (by kernel_rfl) (by kernel_rfl) (by kernel_rfl) (by kernel_rfl) (by kernel_rfl) (by rfl) (by rfl) hS ?_ ?_ ?_
  rotate_left 2
  · intro W hSW; exact run_loadP rfl rfl (HRq19.out.below hSW).tail.tail.tail.tail.tail.tail.head Try.underlying31 rfl (refT_info Z1) (refP_2 _ _ _ _)
  · simp only [List.set_cons_succ, List.set_cons_zero]; rfl
  refine' take_atB 5 hA rfl (by kernel_rfl) (by kernel_rfl) (by kernel_rfl) (by kernel_rfl) (by kernel_rfl) (by rfl) (by rfl) hS ?_ ?_ ?_
  rotate_left 2
  · intro W hSW; go_simp; try with_reducible rfl
  · simp only [List.set_cons_succ, List.set_cons_zero]; rfl
  refine' take_atB 6 hA rfl (by kernel_rfl) (by kernel_rfl) (by kernel_rfl) (by kernel_rfl) (by kernel_rfl) (by rfl) (by rfl) hS ?_ ?_ ?_
  rotate_left 2
  · intro W hSW; exact run_loadP rfl rfl (HRq19.out.below hSW).tail.tail.tail.tail.tail.head Try.underlying31 rfl (refT_info Z2) (refP_2 _ _ _ _)
  · simp only [List.set_cons_succ, List.set_cons_zero]; rfl
  refine call_atB 4 hA rfl (by kernel_rfl) (by kernel_rfl) (by kernel_rfl) (by kernel_rfl) (by rfl) (by rfl) hS (fun oq21 Xq21 hS K hK => ?_)
  go_simp
  obtain ⟨n20, hn20⟩ : ∃ x_ : Nat, (Z1 + Z1) % PP = x_ := ⟨_, rfl⟩
  have Hn20 := Lib.hid hn20
  have HLn20 : Hid (n20 < PP) := Lib.hid (by rw [← hn20]; exact Nat.mod_lt _ (by decide))
  clear hn20
  have kq21 := fun W : World => (raddN HC1.out.z HC1.out.z) W
  rw [Hn20.out] at kq21
  have Kq21 := Lib.hid kq21
  clear kq21
  with_reducible refine (Kq21.out _).mono ?_
  rintro e vq21 ⟨rfl, hbq21⟩
  refine hK.out _ _ hbq21 (fun hS => ?_)
  clear hK K hbq21
  refine call_atB 7 hA rfl (by kernel_rfl) (by kernel_rfl) (by kernel_rfl) (by kernel_rfl) (by rfl) (by rfl) hS (fun oq23 Xq23 hS K hK => ?_)
  go_simp
  obtain ⟨n22, hn22⟩ : ∃ x_ : Nat, (n20 * Z2) % PP = x_ := ⟨_, rfl⟩
  have Hn22 := Lib.hid hn22
  have HLn22 : Hid (n22 < PP) := Lib.hid (by rw [← hn22]; exact Nat.mod_lt _ (by decide))
  clear hn22
  have kq23 := fun W : World => (rmulN HLn20.out HC2.out.z) W
  rw [Hn22.out] at kq23
  have Kq23 := Lib.hid kq23
  clear kq23
  with_reducible refine (Kq23.out _).mono ?_
  rintro e vq23 ⟨rfl, hbq23⟩
  refine hK.out _ _ hbq23 (fun hS => ?_)
  clear hK K hbq23
  refine' store_atB 9 hA rfl (by kernel_rfl) (by kernel_rfl) (by kernel_rfl) hS (by kernel_rfl) rfl (by intro h; cases h) (refT_info _) (refT_size _ _) (refT_one _) ?_ ?_
  rotate_left 1
  · intro g; simp only [List.set_cons_succ, List.set_cons_zero]; rfl
  intro gq24 Wq24 hgq24 hbq24 hrowq24
  clear hA hS
  refine wpAnyH_done (by kernel_rfl) ?_ _
  refine NoPanic.normal ?_
  (try simp only [Act.put])
  have HRq24 : Hid (RowsW Wq24 [(gq24, (refT n22), 31), (gq19, (refT n17), 31), (gq14, (refT n12), 31), (gq7, (refT n5), 31), ((g0 + 1 + 1 + 1), (refP 0 0 0 0), 33), ((g0 + 1 + 1), (refT dd), 31), ((g0 + 1), (refP X2 Y2 Z2 T2), 33), (g0, (refP X1 Y1 Z1 T1), 33)]) := Lib.hid ⟨hrowq24, HRq19.out.below hbq24⟩
  have HBq24 := Lib.hid (below_next HBq19.out hbq24)
  have NEq24_0 : Hid (g0 ≠ gq24) := Lib.hid (by have h := HRq19.out.lt (g0, (refP X1 Y1 Z1 T1), 33) (by simp); have := hgq24; simp only at h; omega)
  have NEq24_1 : Hid ((g0 + 1) ≠ gq24) := Lib.hid (by have h := HRq19.out.lt ((g0 + 1), (refP X2 Y2 Z2 T2), 33) (by simp); have := hgq24; simp only at h; omega)
  have NEq24_2 : Hid ((g0 + 1 + 1) ≠ gq24) := Lib.hid (by have h := HRq19.out.lt ((g0 + 1 + 1), (refT dd), 31) (by simp); have := hgq24; simp only at h; omega)
  have NEq24_3 : Hid ((g0 + 1 + 1 + 1) ≠ gq24) := Lib.hid (by have h := HRq19.out.lt ((g0 + 1 + 1 + 1), (refP 0 0 0 0), 33) (by simp); have := hgq24; simp only at h; omega)
  have NEq24_4 : Hid (gq7 ≠ gq24) := Lib.hid (by have h := HRq19.out.lt (gq7, (refT n5), 31) (by simp); have := hgq24; simp only at h; omega)
  have NEq24_5 : Hid (gq14 ≠ gq24) := Lib.hid (by have h := HRq19.out.lt (gq14, (refT n12), 31) (by simp); have := hgq24; simp only at h; omega)
  have NEq24_6 : Hid (gq19 ≠ gq24) := Lib.hid (by have h := HRq19.out.lt (gq19, (refT n17), 31) (by simp); have := hgq24; simp only at h; omega)
  have HGq24 := Lib.hid (Nat.le_trans HBq19.out.size hgq24)
  clear hrowq24 hbq24 hgq24
  go_upto_region 5 with fail
  have l25 := HRq24.out.tail.tail.head
  have l26 := HRq24.out.tail.tail.tail.head
  go_wp2_with (first
      | (refine wpList_load_row rfl 31 (.tmp 8) rfl gq14 rfl 31 (refT n12) (0, 0) _ l25 Try.underlying31 rfl (refT_info _) ?_)
      | (refine wpList_load_row rfl 31 (.tmp 7) rfl gq7 rfl 31 (refT n5) (0, 0) _ l26 Try.underlying31 rfl (refT_info _) ?_))
  obtain ⟨n27, hn27⟩ : ∃ x_ : Nat, (n12 + (PP - n5)) % PP = x_ := ⟨_, rfl⟩
  have Hn27 := Lib.hid hn27
  have HLn27 : Hid (n27 < PP) := Lib.hid (by rw [← hn27]; exact Nat.mod_lt _ (by decide))
  clear hn27
  have kq28 := fun W : World => (rsubN HLn12.out HLn5.out) W
  rw [Hn27.out] at kq28
  have Kq28 := Lib.hid kq28
  clear kq28
  with_reducible refine (Kq28.out _).mono ?_
  rintro e vq28 ⟨rfl, hbq28⟩
  have HRq28 := Lib.hid (HRq24.out.below hbq28)
  have HBq28 := Lib.hid (below_next HBq24.out hbq28)
  clear hbq28
  have h0q29 : (vq28.alloc (.cells (refT 0) 31)).heap[vq28.heap.size]? = some (.cells (refT 0) 31 (0, 0)) := heap_alloc_new _ _
  have HRq29 := Lib.hid (HRq28.out.new (refT 0) (refT n27) 31)
  have HBq29 := Lib.hid (below_new HBq28.out (refT 0) (refT n27) 31)
  have HNq29 := Lib.hid HRq28.out.ne
  have HGq29 := Lib.hid HBq28.out.size
  go_upto_region 6 with (refine wpList_store_row rfl 31 (.tmp 11) (.tmp 54) rfl vq28.heap.size (refT n27) rfl rfl 31 (refT 0) h0q29 (refT_info _) (refT_size _ _) (refT_one _) ?_)
  obtain ⟨Wq29, hWq29⟩ : ∃ W, (vq28.alloc (.cells (refT 0) 31)).setRow vq28.heap.size (refT n27) = W := ⟨_, rfl⟩
  obtain ⟨gq29, hgq29⟩ : ∃ g, vq28.heap.size = g := ⟨_, rfl⟩
  rw [hWq29, hgq29] at HRq29
  rw [hWq29] at HBq29
  rw [hgq29] at HNq29 HGq29
  rw [hWq29, hgq29]
  clear hWq29 hgq29 h0q29
  have NEq29_0 : Hid (g0 ≠ gq29) := Lib.hid (HNq29.out (g0, (refP X1 Y1 Z1 T1), 33) (by simp))
  have NEq29_1 : Hid ((g0 + 1) ≠ gq29) := Lib.hid (HNq29.out ((g0 + 1), (refP X2 Y2 Z2 T2), 33) (by simp))
  have NEq29_2 : Hid ((g0 + 1 + 1) ≠ gq29) := Lib.hid (HNq29.out ((g0 + 1 + 1), (refT dd), 31) (by simp))
  have NEq29_3 : Hid ((g0 + 1 + 1 + 1) ≠ gq29) := Lib.hid (HNq29.out ((g0 + 1 + 1 + 1), (refP 0 0 0 0), 33) (by simp))
  have NEq29_4 : Hid (gq7 ≠ gq29) := Lib.hid (HNq29.out (gq7, (refT n5), 31) (by simp))
  have NEq29_5 : Hid (gq14 ≠ gq29) := Lib.hid (HNq29.out (gq14, (refT n12), 31) (by simp))
  have NEq29_6 : Hid (gq19 ≠ gq29) := Lib.hid (HNq29.out (gq19, (refT n17), 31) (by simp))
  have NEq29_7 : Hid (gq24 ≠ gq29) := Lib.hid (HNq29.out (gq24, (refT n22), 31) (by simp))
  have l30 := HRq29.out.tail.head
  have l31 := HRq29.out.tail.tail.head
  go_wp2_with (first
      | (refine wpList_load_row rfl 31 (.tmp 10) rfl gq24 rfl 31 (refT n22) (0, 0) _ l30 Try.underlying31 rfl (refT_info _) ?_)
      | (refine wpList_load_row rfl 31 (.tmp 9) rfl gq19 rfl 31 (refT n17) (0, 0) _ l31 Try.underlying31 rfl (refT_info _) ?_))
  obtain ⟨n32, hn32⟩ : ∃ x_ : Nat, (n22 + (PP - n17)) % PP = x_ := ⟨_, rfl⟩
  have Hn32 := Lib.hid hn32
  have HLn32 : Hid (n32 < PP) := Lib.hid (by rw [← hn32]; exact Nat.mod_lt _ (by decide))
  clear hn32
  have kq33 := fun W : World => (rsubN HLn22.out HLn17.out) W
  rw [Hn32.out] at kq33
  have Kq33 := Lib.hid kq33
  clear kq33
  with_reducible refine (Kq33.out _).mono ?_
  rintro e vq33 ⟨rfl, hbq33⟩
  have HRq33 := Lib.hid (HRq29.out.below hbq33)
  have HBq33 := Lib.hid (below_next HBq29.out hbq33)
  clear hbq33
  have h0q34 : (vq33.alloc (.cells (refT 0) 31)).heap[vq33.heap.size]? = some (.cells (refT 0) 31 (0, 0)) := heap_alloc_new _ _
  have HRq34 := Lib.hid (HRq33.out.new (refT 0) (refT n32) 31)
  have HBq34 := Lib.hid (below_new HBq33.out (refT 0) (refT n32) 31)
  have HNq34 := Lib.hid HRq33.out.ne
  have HGq34 := Lib.hid HBq33.out.size
  go_upto_region 7 with (refine wpList_store_row rfl 31 (.tmp 12) (.tmp 57) rfl vq33.heap.size (refT n32) rfl rfl 31 (refT 0) h0q34 (refT_info _) (refT_size _ _) (refT_one _) ?_)
  obtain ⟨Wq34, hWq34⟩ : ∃ W, (vq33.alloc (.cells (refT 0) 31)).setRow vq33.heap.size (refT n32) = W := ⟨_, rfl⟩
  obtain ⟨gq34, hgq34⟩ : ∃ g, vq33.heap.size = g := ⟨_, rfl⟩
  rw [hWq34, hgq34] at HRq34
  rw [hWq34] at HBq34
  rw [hgq34] at HNq34 HGq34
  rw [hWq34, hgq34]
  clear hWq34 hgq34 h0q34
  have NEq34_0 : Hid (g0 ≠ gq34) := Lib.hid (HNq34.out (g0, (refP X1 Y1 Z1 T1), 33) (by simp))
  have NEq34_1 : Hid ((g0 + 1) ≠ gq34) := Lib.hid (HNq34.out ((g0 + 1), (refP X2 Y2 Z2 T2), 33) (by simp))
  have NEq34_2 : Hid ((g0 + 1 + 1) ≠ gq34) := Lib.hid (HNq34.out ((g0 + 1 + 1), (refT dd), 31) (by simp))
  have NEq34_3 : Hid ((g0 + 1 + 1 + 1) ≠ gq34) := Lib.hid (HNq34.out ((g0 + 1 + 1 + 1), (refP 0 0 0 0), 33) (by simp))
  have NEq34_4 : Hid (gq7 ≠ gq34) := Lib.hid (HNq34.out (gq7, (refT n5), 31) (by simp))
  have NEq34_5 : Hid (gq14 ≠ gq34) := Lib.hid (HNq34.out (gq14, (refT n12), 31) (by simp))
  have NEq34_6 : Hid (gq19 ≠ gq34) := Lib.hid (HNq34.out (gq19, (refT n17), 31) (by simp))
  have NEq34_7 : Hid (gq24 ≠ gq34) := Lib.hid (HNq34.out (gq24, (refT n22), 31) (by simp))
  have NEq34_8 : Hid (gq29 ≠ gq34) := Lib.hid (HNq34.out (gq29, (refT n27), 31) (by simp))
  have l35 := HRq34.out.tail.tail.head
  have l36 := HRq34.out.tail.tail.tail.head
  go_wp2_with (first
      | (refine wpList_load_row rfl 31 (.tmp 10) rfl gq24 rfl 31 (refT n22) (0, 0) _ l35 Try.underlying31 rfl (refT_info _) ?_)
      | (refine wpList_load_row rfl 31 (.tmp 9) rfl gq19 rfl 31 (refT n17) (0, 0) _ l36 Try.underlying31 rfl (refT_info _) ?_))
  obtain ⟨n37, hn37⟩ : ∃ x_ : Nat, (n22 + n17) % PP = x_ := ⟨_, rfl⟩
  have Hn37 := Lib.hid hn37
  have HLn37 : Hid (n37 < PP) := Lib.hid (by rw [← hn37]; exact Nat.mod_lt _ (by decide))
  clear hn37
  have kq38 := fun W : World => (raddN HLn22.out HLn17.out) W
  rw [Hn37.out] at kq38
  have Kq38 := Lib.hid kq38
  clear kq38
  with_reducible refine (Kq38.out _).mono ?_
  rintro e vq38 ⟨rfl, hbq38⟩
  have HRq38 := Lib.hid (HRq34.out.below hbq38)
  have HBq38 := Lib.hid (below_next HBq34.out hbq38)
  clear hbq38
  have h0q39 : (vq38.alloc (.cells (refT 0) 31)).heap[vq38.heap.size]? = some (.cells (refT 0) 31 (0, 0)) := heap_alloc_new _ _
  have HRq39 := Lib.hid (HRq38.out.new (refT 0) (refT n37) 31)
  have HBq39 := Lib.hid (below_new HBq38.out (refT 0) (refT n37) 31)
  have HNq39 := Lib.hid HRq38.out.ne
  have HGq39 := Lib.hid HBq38.out.size
  go_upto_region 8 with (refine wpList_store_row rfl 31 (.tmp 13) (.tmp 60) rfl vq38.heap.size (refT n37) rfl rfl 31 (refT 0) h0q39 (refT_info _) (refT_size _ _) (refT_one _) ?_)
  obtain ⟨Wq39, hWq39⟩ : ∃ W, (vq38.alloc (.cells (refT 0) 31)).setRow vq38.heap.size (refT n37) = W := ⟨_, rfl⟩
  obtain ⟨gq39, hgq39⟩ : ∃ g, vq38.heap.size = g := ⟨_, rfl⟩
  rw [hWq39, hgq39] at HRq39
  rw [hWq39] at HBq39
  rw [hgq39] at HNq39 HGq39
  rw [hWq39, hgq39]
  clear hWq39 hgq39 h0q39
  have NEq39_0 : Hid (g0 ≠ gq39) := Lib.hid (HNq39.out (g0, (refP X1 Y1 Z1 T1), 33) (by simp))
  have NEq39_1 : Hid ((g0 + 1) ≠ gq39) := Lib.hid (HNq39.out ((g0 + 1), (refP X2 Y2 Z2 T2), 33) (by simp))
  have NEq39_2 : Hid ((g0 + 1 + 1) ≠ gq39) := Lib.hid (HNq39.out ((g0 + 1 + 1), (refT dd), 31) (by simp))
  have NEq39_3 : Hid ((g0 + 1 + 1 + 1) ≠ gq39) := Lib.hid (HNq39.out ((g0 + 1 + 1 + 1), (refP 0 0 0 0), 33) (by simp))
  have NEq39_4 : Hid (gq7 ≠ gq39) := Lib.hid (HNq39.out (gq7, (refT n5), 31) (by simp))
  have NEq39_5 : Hid (gq14 ≠ gq39) := Lib.hid (HNq39.out (gq14, (refT n12), 31) (by simp))
  have NEq39_6 : Hid (gq19 ≠ gq39) := Lib.hid (HNq39.out (gq19, (refT n17), 31) (by simp))
  have NEq39_7 : Hid (gq24 ≠ gq39) := Lib.hid (HNq39.out (gq24, (refT n22), 31) (by simp))
  have NEq39_8 : Hid (gq29 ≠ gq39) := Lib.hid (HNq39.out (gq29, (refT n27), 31) (by simp))
  have NEq39_9 : Hid (gq34 ≠ gq39) := Lib.hid (HNq39.out (gq34, (refT n32), 31) (by simp))
  have l40 := HRq39.out.tail.tail.tail.tail.tail.head
  have l41 := HRq39.out.tail.tail.tail.tail.tail.tail.head
  go_wp2_with (first
      | (refine wpList_load_row rfl 31 (.tmp 8) rfl gq14 rfl 31 (refT n12) (0, 0) _ l40 Try.underlying31 rfl (refT_info _) ?_)
      | (refine wpList_load_row rfl 31 (.tmp 7) rfl gq7 rfl 31 (refT n5) (0, 0) _ l41 Try.underlying31 rfl (refT_info _) ?_))
  obtain ⟨n42, hn42⟩ : ∃ x_ : Nat, (n12 + n5) % PP = x_ := ⟨_, rfl⟩
  have Hn42 := Lib.hid hn42
  have HLn42 : Hid (n42 < PP) := Lib.hid (by rw [← hn42]; exact Nat.mod_lt _ (by decide))
  clear hn42
  have kq43 := fun W : World => (raddN HLn12.out HLn5.out) W
  rw [Hn42.out] at kq43
  have Kq43 := Lib.hid kq43
  clear kq43
  with_reducible refine (Kq43.out _).mono ?_
  rintro e vq43 ⟨rfl, hbq43⟩
  have HRq43 := Lib.hid (HRq39.out.below hbq43)
  have HBq43 := Lib.hid (below_next HBq39.out hbq43)
  clear hbq43
  have h0q44 : (vq43.alloc (.cells (refT 0) 31)).heap[vq43.heap.size]? = some (.cells (refT 0) 31 (0, 0)) := heap_alloc_new _ _
  have HRq44 := Lib.hid (HRq43.out.new (refT 0) (refT n42) 31)
  have HBq44 := Lib.hid (below_new HBq43.out (refT 0) (refT n42) 31)
  have HNq44 := Lib.hid HRq43.out.ne
  have HGq44 := Lib.hid HBq43.out.size
  go_upto_region 9 with (refine wpList_store_row rfl 31 (.tmp 14) (.tmp 63) rfl vq43.heap.size (refT n42) rfl rfl 31 (refT 0) h0q44 (refT_info _) (refT_size _ _) (refT_one _) ?_)
  obtain ⟨Wq44, hWq44⟩ : ∃ W, (vq43.alloc (.cells (refT 0) 31)).setRow vq43.heap.size (refT n42) = W := ⟨_, rfl⟩
  obtain ⟨gq44, hgq44⟩ : ∃ g, vq43.heap.size = g := ⟨_, rfl⟩
  rw [hWq44, hgq44] at HRq44
  rw [hWq44] at HBq44
  rw [hgq44] at HNq44 HGq44
  rw [hWq44, hgq44]
  clear hWq44 hgq44 h0q44
  have NEq44_0 : Hid (g0 ≠ gq44) := Lib.hid (HNq44.out (g0, (refP X1 Y1 Z1 T1), 33) (by simp))
  have NEq44_1 : Hid ((g0 + 1) ≠ gq44) := Lib.hid (HNq44.out ((g0 + 1), (refP X2 Y2 Z2 T2), 33) (by simp))
  have NEq44_2 : Hid ((g0 + 1 + 1) ≠ gq44) := Lib.hid (HNq44.out ((g0 + 1 + 1), (refT dd), 31) (by simp))
  have NEq44_3 : Hid ((g0 + 1 + 1 + 1) ≠ gq44) := Lib.hid (HNq44.out ((g0 + 1 + 1 + 1), (refP 0 0 0 0), 33) (by simp))
  have NEq44_4 : Hid (gq7 ≠ gq44) := Lib.hid (HNq44.out (gq7, (refT n5), 31) (by simp))
  have NEq44_5 : Hid (gq14 ≠ gq44) := Lib.hid (HNq44.out (gq14, (refT n12), 31) (by simp))
  have NEq44_6 : Hid (gq19 ≠ gq44) := Lib.hid (HNq44.out (gq19, (refT n17), 31) (by simp))
  have NEq44_7 : Hid (gq24 ≠ gq44) := Lib.hid (HNq44.out (gq24, (refT n22), 31) (by simp))
  have NEq44_8 : Hid (gq29 ≠ gq44) := Lib.hid (HNq44.out (gq29, (refT n27), 31) (by simp))
  have NEq44_9 : Hid (gq34 ≠ gq44) := Lib.hid (HNq44.out (gq34, (refT n32), 31) (by simp))
  have NEq44_10 : Hid (gq39 ≠ gq44) := Lib.hid (HNq44.out (gq39, (refT n37), 31) (by simp))
  refine wp_region_noPanic ?_
  refine wp_region_held_tail (S := fun W => Below Wq44.heap.size Wq44 W) 13 (by kernel_rfl) ⟨by kernel_rfl, by kernel_rfl, by kernel_rfl, by kernel_rfl⟩ (by exact (Below.refl _ _).drew) (fun hT inv hS => ?_)
  refine' take_atT 0 hT inv rfl (by omega) (by kernel_rfl) (by kernel_rfl) (fun _ _ _ h => h) (by rfl) hS ?_ ?_ ?_
  rotate_left 2
  · intro W hSW; exact run_loadR rfl rfl (HRq44.out.below hSW).tail.tail.tail.head Try.underlying31 rfl (refT_info _)
  · simp only [List.set_cons_succ, List.set_cons_zero]; rfl
  intro inv
  refine' take_atT 1 hT inv rfl (by omega) (by kernel_rfl) (by kernel_rfl) (fun _ _ _ h => h) (by rfl) hS ?_ ?_ ?_
  rotate_left 2
  · intro W hSW; exact run_loadR rfl rfl (HRq44.out.below hSW).tail.tail.head Try.underlying31 rfl (refT_info _)
  · simp only [List.set_cons_succ, List.set_cons_zero]; rfl
  intro inv
  refine' take_atT 3 hT inv rfl (by omega) (by kernel_rfl) (by kernel_rfl) (fun _ _ _ h => h) (by rfl) hS ?_ ?_ ?_
  rotate_left 2
  · intro W hSW; exact run_loadR rfl rfl (HRq44.out.below hSW).tail.head Try.underlying31 rfl (refT_info _)
  · simp only [List.set_cons_succ, List.set_cons_zero]; rfl
  intro inv
  refine' take_atT 4 hT inv rfl (by omega) (by kernel_rfl) (by kernel_rfl) (fun _ _ _ h => h) (by rfl) hS ?_ ?_ ?_
  rotate_left 2
  · intro W hSW; exact run_loadR rfl rfl (HRq44.out.below hSW).head Try.underlying31 rfl (refT_info _)
  · simp only [List.set_cons_succ, List.set_cons_zero]; rfl
  intro inv
  refine' take_atT 6 hT inv rfl (by omega) (by kernel_rfl) (by kernel_rfl) (fun _ _ _ h => h) (by rfl) hS ?_ ?_ ?_
  rotate_left 2
  · intro W hSW; exact run_loadR rfl rfl (HRq44.out.below hSW).tail.tail.head Try.underlying31 rfl (refT_info _)
  · simp only [List.set_cons_succ, List.set_cons_zero]; rfl
  intro inv
  refine' take_atT 7 hT inv rfl (by omega) (by kernel_rfl) (by kernel_rfl) (fun _ _ _ h => h) (by rfl) hS ?_ ?_ ?_
  rotate_left 2
  · intro W hSW; exact run_loadR rfl rfl (HRq44.out.below hSW).tail.head Try.underlying31 rfl (refT_info _)
  · simp only [List.set_cons_succ, List.set_cons_zero]; rfl
  intro inv
  refine' take_atT 9 hT inv rfl (by omega) (by kernel_rfl) (by kernel_rfl) (fun _ _ _ h => h) (by rfl) hS ?_ ?_ ?_
  rotate_left 2
  · intro W hSW; exact run_loadR rfl rfl (HRq44.out.below hSW).tail.tail.tail.head Try.underlying31 rfl (refT_info _)
  · simp only [List.set_cons_succ, List.set_cons_zero]; rfl
  intro inv
  refine' take_atT 10 hT inv rfl (by omega) (by kernel_rfl) (by kernel_rfl) (fun _ _ _ h => h) (by rfl) hS ?_ ?_ ?_
  rotate_left 2
  · intro W hSW; exact run_loadR rfl rfl (HRq44.out.below hSW).head Try.underlying31 rfl (refT_info _)
  · simp only [List.set_cons_succ, List.set_cons_zero]; rfl
  intro inv
  refine call_atT 2 inv rfl (by omega) (by kernel_rfl) (by rfl) (fun K hK => ?_)
  go_simp
  obtain ⟨n45, hn45⟩ : ∃ x_ : Nat, (n27 * n32) % PP = x_ := ⟨_, rfl⟩
  have Hn45 := Lib.hid hn45
  have HLn45 : Hid (n45 < PP) := Lib.hid (by rw [← hn45]; exact Nat.mod_lt _ (by decide))
  clear hn45
  have kq46 := fun W : World => (rmulN HLn27.out HLn32.out) W
  rw [Hn45.out] at kq46
  have Kq46 := Lib.hid kq46
  clear kq46
  with_reducible refine (Kq46.out _).mono ?_
  rintro e vq46 ⟨rfl, hbq46⟩
  have kbq46 := below_next hS hbq46
  clear hS hbq46
  refine hK.out _ _ (by exact kbq46) (fun inv hS => ?_)
  clear hK K
  refine call_atT 5 inv rfl (by omega) (by kernel_rfl) (by rfl) (fun K hK => ?_)
  go_simp
  obtain ⟨n47, hn47⟩ : ∃ x_ : Nat, (n37 * n42) % PP = x_ := ⟨_, rfl⟩
  have Hn47 := Lib.hid hn47
  have HLn47 : Hid (n47 < PP) := Lib.hid (by rw [← hn47]; exact Nat.mod_lt _ (by decide))
  clear hn47
  have kq48 := fun W : World => (rmulN HLn37.out HLn42.out) W
  rw [Hn47.out] at kq48
  have Kq48 := Lib.hid kq48
  clear kq48
  with_reducible refine (Kq48.out _).mono ?_
  rintro e vq48 ⟨rfl, hbq48⟩
  have kbq48 := below_next kbq46 hbq48
  clear hS hbq48
  refine hK.out _ _ (by exact kbq48) (fun inv hS => ?_)
  clear hK K
  refine call_atT 8 inv rfl (by omega) (by kernel_rfl) (by rfl) (fun K hK => ?_)
  go_simp
  obtain ⟨n49, hn49⟩ : ∃ x_ : Nat, (n32 * n37) % PP = x_ := ⟨_, rfl⟩
  have Hn49 := Lib.hid hn49
  have HLn49 : Hid (n49 < PP) := Lib.hid (by rw [← hn49]; exact Nat.mod_lt _ (by decide))
  clear hn49
  have kq50 := fun W : World => (rmulN HLn32.out HLn37.out) W
  rw [Hn49.out] at kq50
  have Kq50 := Lib.hid kq50
  clear kq50
  with_reducible refine (Kq50.out _).mono ?_
  rintro e vq50 ⟨rfl, hbq50⟩
  have kbq50 := below_next kbq48 hbq50
  clear hS hbq50
  refine hK.out _ _ (by exact kbq50) (fun inv hS => ?_)
  clear hK K
  refine call_atT 11 inv rfl (by omega) (by kernel_rfl) (by rfl) (fun K hK => ?_)
  go_simp
  obtain ⟨n51, hn51⟩ : ∃ x_ : Nat, (n27 * n42) % PP = x_ := ⟨_, rfl⟩
  have Hn51 := Lib.hid hn51
  have HLn51 : Hid (n51 < PP) := Lib.hid (by rw [← hn51]; exact Nat.mod_lt _ (by decide))
  clear hn51
  have kq52 := fun W : World => (rmulN HLn27.out HLn42.out) W
  rw [Hn51.out] at kq52
  have Kq52 := Lib.hid kq52
  clear kq52
  with_reducible refine (Kq52.out _).mono ?_
  rintro e vq52 ⟨rfl, hbq52⟩
  have kbq52 := below_next kbq50 hbq52
  clear hS hbq52
  refine hK.out _ _ (by exact kbq52) (fun inv hS => ?_)
  clear hK K
  refine' take_atT 12 hT inv rfl (by omega) (by kernel_rfl) (by kernel_rfl) (fun _ _ _ h => h) (by rfl) hS ?_ ?_ ?_
  rotate_left 2
  · intro W hSW; exact run_build4 rfl rfl rfl rfl rfl
  · simp only [List.set_cons_succ, List.set_cons_zero]; rfl
  intro inv
  refine done_atT (by kernel_rfl) ?_
  simp only [List.drop_succ_cons, List.drop_zero]
  clear hS
  (try simp only [Act.put])
  have HRq53 := Lib.hid (HRq44.out.below kbq52)
  have HBq53 := Lib.hid (below_next HBq44.out kbq52)
  have lsq54 := HRq53.out.tail.tail.tail.tail.tail.tail.tail.tail.head
  have HRq54 : Hid (RowsW (vq52.setRow (g0 + 1 + 1 + 1) (refP n45 n47 n49 n51)) [(gq44, (refT n42), 31), (gq39, (refT n37), 31), (gq34, (refT n32), 31), (gq29, (refT n27), 31), (gq24, (refT n22), 31), (gq19, (refT n17), 31), (gq14, (refT n12), 31), (gq7, (refT n5), 31), ((g0 + 1 + 1 + 1), (refP n45 n47 n49 n51), 33), ((g0 + 1 + 1), (refT dd), 31), ((g0 + 1), (refP X2 Y2 Z2 T2), 33), (g0, (refP X1 Y1 Z1 T1), 33)]) := Lib.hid ⟨(by rw [setRow_other _ _ _ _ (Ne.symm NEq44_3.out)]; exact HRq53.out.head), (by rw [setRow_other _ _ _ _ (Ne.symm NEq39_3.out)]; exact HRq53.out.tail.head), (by rw [setRow_other _ _ _ _ (Ne.symm NEq34_3.out)]; exact HRq53.out.tail.tail.head), (by rw [setRow_other _ _ _ _ (Ne.symm NEq29_3.out)]; exact HRq53.out.tail.tail.tail.head), (by rw [setRow_other _ _ _ _ (Ne.symm NEq24_3.out)]; exact HRq53.out.tail.tail.tail.tail.head), (by rw [setRow_other _ _ _ _ (Ne.symm NEq19_3.out)]; exact HRq53.out.tail.tail.tail.tail.tail.head), (by rw [setRow_other _ _ _ _ (Ne.symm NEq14_3.out)]; exact HRq53.out.tail.tail.tail.tail.tail.tail.head), (by rw [setRow_other _ _ _ _ (Ne.symm NEq7_3.out)]; exact HRq53.out.tail.tail.tail.tail.tail.tail.tail.head), setRow_heap _ _ _ _ _ _ lsq54, (by rw [setRow_other _ _ _ _ (by omega)]; exact HRq53.out.tail.tail.tail.tail.tail.tail.tail.tail.tail.head), (by rw [setRow_other _ _ _ _ (by omega)]; exact HRq53.out.tail.tail.tail.tail.tail.tail.tail.tail.tail.tail.head), (by rw [setRow_other _ _ _ _ (by omega)]; exact HRq53.out.tail.tail.tail.tail.tail.tail.tail.tail.tail.tail.tail.head), trivial⟩
  have HBq54 := Lib.hid (below_row (g := (g0 + 1 + 1 + 1)) (cs := (refP n45 n47 n49 n51)) HBq53.out (by have := HG0.out; omega))
  go_wp2_with (refine wpList_store_row rfl 33 (.tmp 6) (.tmp 76) rfl (g0 + 1 + 1 + 1) (refP n45 n47 n49 n51) rfl rfl 33 (refP 0 0 0 0) lsq54 (refP_info _ _ _ _) (refP_sizes _ _ _ _ _ _ _ _) (refP_one _ _ _ _) ?_)
  obtain ⟨Wq54, hWq54⟩ : ∃ W, vq52.setRow (g0 + 1 + 1 + 1) (refP n45 n47 n49 n51) = W := ⟨_, rfl⟩
  rw [hWq54] at HRq54 HBq54
  (try rw [hWq54])
  clear hWq54 lsq54
  refine NoPanic.normal ?_
  go_wp2_with fail
  have HCO : Co n45 n47 n49 n51 (padd p q) := by
    rw [← Hn45.out, ← Hn47.out, ← Hn49.out, ← Hn51.out]
    exact co_add HC1.out HC2.out (by rw [Hn1.out, Hn3.out, Hn5.out]) (by rw [Hn8.out, Hn10.out, Hn12.out]) (by rw [Hn15.out, HDD.out, Hn17.out]) (by rw [Hn20.out, Hn22.out]) Hn27.out Hn32.out Hn37.out Hn42.out
  (try simp only [Exit.inBlock, Exit.then])
  refine bodyPost_ret (results_cell_row rfl _ _ (g0 + 1 + 1 + 1) _ (refP n45 n47 n49 n51) _ _ rfl HRq54.out.tail.tail.tail.tail.tail.tail.tail.tail.head Try.underlying33 rfl (refP_info _ _ _ _)) rfl ?_
  exact ⟨_, rfl, ⟨_, _, _, _, rfl, HCO⟩, HBq54.out⟩
end Go.Proofs.Ytfejabfmhddepaa

