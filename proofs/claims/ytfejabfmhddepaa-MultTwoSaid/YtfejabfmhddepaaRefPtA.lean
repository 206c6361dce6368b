/- The reference's points: the curve's d, the x of a y, the zero point, the base point. Written by wip/tools/mk_pt12.py. -/
import Derived.Test.YtfejabfmhddepaaRefPt
import Derived.Test.YtfejabfmhddepaaGpow
import Derived.Test.YtfejabfmhddepaaGheld
namespace Go.Proofs.Ytfejabfmhddepaa
open Go.RowKit
set_option linter.unusedVariables false
set_option maxRecDepth 100000

set_option maxHeartbeats 1600000 in
theorem redgeN  (w : World) : Calls Try.prog 48 #[] w (RetV w (.agg (refT edN))) := by
  have hzR := refT_zero
  have hz32 := zero32_zero
  have hzP := refP_zero
  have HR0 := Lib.hid ((RowsW.nil w).box (refT 0) 31)
  have HB0 := Lib.hid (below_box (Below.refl w.heap.size w) (refT 0) 31)
  go_enter Try.func48, Try.ntmps48
  go_wp2_with fail
  obtain ⟨W0, hW0⟩ : ∃ W, (w.alloc (.cells (refT 0) 31)) = W := ⟨_, rfl⟩
  obtain ⟨g0, hg0⟩ : ∃ g, w.heap.size = g := ⟨_, rfl⟩
  rw [hW0] at HR0 HB0
  rw [hg0] at HR0
  rw [hW0, hg0]
  have HG0 := Lib.hid hg0
  clear hW0 hg0
  have s1_121665 : ∀ W : World, Calls Try.prog 51 #[.int .u64 121665] W (RetV W (.agg (refT 121665))) := fun W => rsmallN 121665 (by decide) W
  with_reducible refine (s1_121665 _).mono ?_
  rintro e vq1 ⟨rfl, hbq1⟩
  have HRq1 := Lib.hid (HR0.out.below hbq1)
  have HBq1 := Lib.hid (below_next HB0.out hbq1)
  clear hbq1
  go_wp2_with fail
  obtain ⟨n2, hn2⟩ : ∃ x_ : Nat, (PP - 121665) % PP = x_ := ⟨_, rfl⟩
  have Hn2 := Lib.hid hn2
  have HLn2 : Hid (n2 < PP) := Lib.hid (by rw [← hn2]; exact Nat.mod_lt _ (by decide))
  clear hn2
  have kq3 := fun W : World => (rnegN (show 121665 < PP by decide)) W
  rw [Hn2.out] at kq3
  have Kq3 := Lib.hid kq3
  clear kq3
  with_reducible refine (Kq3.out _).mono ?_
  rintro e vq3 ⟨rfl, hbq3⟩
  have HRq3 := Lib.hid (HRq1.out.below hbq3)
  have HBq3 := Lib.hid (below_next HBq1.out hbq3)
  clear hbq3
  go_wp2_with fail
  have s3_121666 : ∀ W : World, Calls Try.prog 51 #[.int .u64 121666] W (RetV W (.agg (refT 121666))) := fun W => rsmallN 121666 (by decide) W
  with_reducible refine (s3_121666 _).mono ?_
  rintro e vq4 ⟨rfl, hbq4⟩
  have HRq4 := Lib.hid (HRq3.out.below hbq4)
  have HBq4 := Lib.hid (below_next HBq3.out hbq4)
  clear hbq4
  go_wp2_with fail
  obtain ⟨n5, hn5⟩ : ∃ y : Nat, invN 121666 = y := ⟨_, rfl⟩
  have Hn5 := Lib.hid hn5
  have HLn5 : Hid (n5 < PP) := Lib.hid (by rw [← hn5]; exact invN_lt _)
  clear hn5
  have kq6 := fun W : World => (rinvN (show 121666 < PP by decide)) W
  rw [Hn5.out] at kq6
  have Kq6 := Lib.hid kq6
  clear kq6
  with_reducible refine (Kq6.out _).mono ?_
  rintro e vq6 ⟨rfl, hbq6⟩
  have HRq6 := Lib.hid (HRq4.out.below hbq6)
  have HBq6 := Lib.hid (below_next HBq4.out hbq6)
  clear hbq6
  go_wp2_with fail
  obtain ⟨n7, hn7⟩ : ∃ x_ : Nat, (n2 * n5) % PP = x_ := ⟨_, rfl⟩
  have Hn7 := Lib.hid hn7
  have HLn7 : Hid (n7 < PP) := Lib.hid (by rw [← hn7]; exact Nat.mod_lt _ (by decide))
  clear hn7
  have kq8 := fun W : World => (rmulN HLn2.out HLn5.out) W
  rw [Hn7.out] at kq8
  have Kq8 := Lib.hid kq8
  clear kq8
  with_reducible refine (Kq8.out _).mono ?_
  rintro e vq8 ⟨rfl, hbq8⟩
  have HRq8 := Lib.hid (HRq6.out.below hbq8)
  have HBq8 := Lib.hid (below_next HBq6.out hbq8)
  clear hbq8
  have lsq9 := HRq8.out.head
  have HRq9 : Hid (RowsW (vq8.setRow g0 (refT n7)) [(g0, (refT n7), 31)]) := Lib.hid ⟨setRow_heap _ _ _ _ _ _ lsq9, trivial⟩
  have HBq9 := Lib.hid (below_row (g := g0) (cs := (refT n7)) HBq8.out (by have := HG0.out; omega))
  go_wp2_with (refine wpList_store_row rfl 31 (.tmp 0) (.tmp 5) rfl g0 (refT n7) rfl rfl 31 (refT 0) lsq9 (refT_info _) (refT_size _ _) (refT_one _) ?_)
  obtain ⟨Wq9, hWq9⟩ : ∃ W, vq8.setRow g0 (refT n7) = W := ⟨_, rfl⟩
  rw [hWq9] at HRq9 HBq9
  (try rw [hWq9])
  clear hWq9 lsq9
  (try simp only [Exit.inBlock, Exit.then])
  refine bodyPost_ret (results_cell_row rfl _ _ g0 _ (refT n7) _ _ rfl HRq9.out.head Try.underlying31 rfl (refT_info _)) rfl ?_
  exact ⟨by rw [show edN = n7 by rw [← edN_is, Hn2.out, Hn5.out, Hn7.out]], HBq9.out⟩
set_option maxHeartbeats 1600000 in
theorem rxofN {x : Nat} (hx : x < PP) (w : World) : Calls Try.prog 33 #[.agg (refT x)] w (RetV w (.tuple #[.agg (refT (ratN (upN x) (dnN x))), .bool (fineN (upN x) (dnN x))])) := by
  have HXL := Lib.hid hx
  clear hx
  have hzR := refT_zero
  have hz32 := zero32_zero
  have hzP := refP_zero
  have HR0 := Lib.hid (((RowsW.nil w).box (refT x) 31).box (refT 0) 31)
  have HB0 := Lib.hid (below_box (below_box (Below.refl w.heap.size w) (refT x) 31) (refT 0) 31)
  rw [World.size_alloc] at HR0
  go_enter Try.func33, Try.ntmps33
  go_upto_region 1 with fail
  obtain ⟨W0, hW0⟩ : ∃ W, ((w.alloc (.cells (refT x) 31)).alloc (.cells (refT 0) 31)) = W := ⟨_, rfl⟩
  obtain ⟨g0, hg0⟩ : ∃ g, w.heap.size = g := ⟨_, rfl⟩
  rw [hW0] at HR0 HB0
  rw [hg0] at HR0
  rw [hW0, hg0]
  have HG0 := Lib.hid hg0
  clear hW0 hg0
  have l1 := HR0.out.tail.head
  have l2 := HR0.out.tail.head
  go_wp2_with (first
      | (refine wpList_load_row rfl 31 (.tmp 1) rfl g0 rfl 31 (refT x) (0, 0) _ l1 Try.underlying31 rfl (refT_info _) ?_)
      | (refine wpList_load_row rfl 31 (.tmp 1) rfl g0 rfl 31 (refT x) (0, 0) _ l2 Try.underlying31 rfl (refT_info _) ?_))
  obtain ⟨n3, hn3⟩ : ∃ x_ : Nat, (x * x) % PP = x_ := ⟨_, rfl⟩
  have Hn3 := Lib.hid hn3
  have HLn3 : Hid (n3 < PP) := Lib.hid (by rw [← hn3]; exact Nat.mod_lt _ (by decide))
  clear hn3
  have kq4 := fun W : World => (rmulN HXL.out HXL.out) W
  rw [Hn3.out] at kq4
  have Kq4 := Lib.hid kq4
  clear kq4
  with_reducible refine (Kq4.out _).mono ?_
  rintro e vq4 ⟨rfl, hbq4⟩
  have HRq4 := Lib.hid (HR0.out.below hbq4)
  have HBq4 := Lib.hid (below_next HB0.out hbq4)
  clear hbq4
  have h0q5 : (vq4.alloc (.cells (refT 0) 31)).heap[vq4.heap.size]? = some (.cells (refT 0) 31 (0, 0)) := heap_alloc_new _ _
  have HRq5 := Lib.hid (HRq4.out.new (refT 0) (refT n3) 31)
  have HBq5 := Lib.hid (below_new HBq4.out (refT 0) (refT n3) 31)
  have HNq5 := Lib.hid HRq4.out.ne
  have HGq5 := Lib.hid HBq4.out.size
  go_upto_region 2 with (refine wpList_store_row rfl 31 (.tmp 4) (.tmp 7) rfl vq4.heap.size (refT n3) rfl rfl 31 (refT 0) h0q5 (refT_info _) (refT_size _ _) (refT_one _) ?_)
  obtain ⟨Wq5, hWq5⟩ : ∃ W, (vq4.alloc (.cells (refT 0) 31)).setRow vq4.heap.size (refT n3) = W := ⟨_, rfl⟩
  obtain ⟨gq5, hgq5⟩ : ∃ g, vq4.heap.size = g := ⟨_, rfl⟩
  rw [hWq5, hgq5] at HRq5
  rw [hWq5] at HBq5
  rw [hgq5] at HNq5 HGq5
  rw [hWq5, hgq5]
  clear hWq5 hgq5 h0q5
  have NEq5_0 : Hid (g0 ≠ gq5) := Lib.hid (HNq5.out (g0, (refT x), 31) (by simp))
  have NEq5_1 : Hid ((g0 + 1) ≠ gq5) := Lib.hid (HNq5.out ((g0 + 1), (refT 0), 31) (by simp))
  refine wp_region_noPanic ?_
  refine wp_region_held_tail (S := fun W => Below Wq5.heap.size Wq5 W) 11 (by kernel_rfl) ⟨by kernel_rfl, by kernel_rfl, by kernel_rfl, by kernel_rfl⟩ (by exact (Below.refl _ _).drew) (fun hT inv hS => ?_)
  refine' take_atT 0 hT inv rfl (by omega) (by kernel_rfl) (by kernel_rfl) (fun _ _ _ h => h) (by rfl) hS ?_ ?_ ?_
  rotate_left 2
  · intro W hSW; exact run_loadR rfl rfl (HRq5.out.below hSW).head Try.underlying31 rfl (refT_info _)
  · simp only [List.set_cons_succ, List.set_cons_zero]; rfl
  intro inv
  refine' take_atT 4 hT inv rfl (by omega) (by kernel_rfl) (by kernel_rfl) (fun _ _ _ h => h) (by rfl) hS ?_ ?_ ?_
  rotate_left 2
  · intro W hSW; exact run_loadR rfl rfl (HRq5.out.below hSW).head Try.underlying31 rfl (refT_info _)
  · simp only [List.set_cons_succ, List.set_cons_zero]; rfl
  intro inv
  refine call_atT 1 inv rfl (by omega) (by kernel_rfl) (by rfl) (fun K hK => ?_)
  go_simp
  have s9_1 : ∀ W : World, Calls Try.prog 51 #[.int .u64 1] W (RetV W (.agg (refT 1))) := fun W => rsmallN 1 (by decide) W
  with_reducible refine (s9_1 _).mono ?_
  rintro e vq6 ⟨rfl, hbq6⟩
  have kbq6 := below_next hS hbq6
  clear hS hbq6
  refine hK.out _ _ (by exact kbq6) (fun inv hS => ?_)
  clear hK K
  refine call_atT 2 inv rfl (by omega) (by kernel_rfl) (by rfl) (fun K hK => ?_)
  go_simp
  obtain ⟨n7, hn7⟩ : ∃ x_ : Nat, (n3 + (PP - 1)) % PP = x_ := ⟨_, rfl⟩
  have Hn7 := Lib.hid hn7
  have HLn7 : Hid (n7 < PP) := Lib.hid (by rw [← hn7]; exact Nat.mod_lt _ (by decide))
  clear hn7
  have kq8 := fun W : World => (rsubN HLn3.out (show 1 < PP by decide)) W
  rw [Hn7.out] at kq8
  have Kq8 := Lib.hid kq8
  clear kq8
  with_reducible refine (Kq8.out _).mono ?_
  rintro e vq8 ⟨rfl, hbq8⟩
  have kbq8 := below_next kbq6 hbq8
  clear hS hbq8
  refine hK.out _ _ (by exact kbq8) (fun inv hS => ?_)
  clear hK K
  refine call_atT 3 inv rfl (by omega) (by kernel_rfl) (by rfl) (fun K hK => ?_)
  go_simp
  with_reducible refine (redgeN _).mono ?_
  rintro e vq9 ⟨rfl, hbq9⟩
  have kbq9 := below_next kbq8 hbq9
  clear hS hbq9
  refine hK.out _ _ (by exact kbq9) (fun inv hS => ?_)
  clear hK K
  refine call_atT 5 inv rfl (by omega) (by kernel_rfl) (by rfl) (fun K hK => ?_)
  go_simp
  obtain ⟨n10, hn10⟩ : ∃ x_ : Nat, (edN * n3) % PP = x_ := ⟨_, rfl⟩
  have Hn10 := Lib.hid hn10
  have HLn10 : Hid (n10 < PP) := Lib.hid (by rw [← hn10]; exact Nat.mod_lt _ (by decide))
  clear hn10
  have kq11 := fun W : World => (rmulN edN_lt HLn3.out) W
  rw [Hn10.out] at kq11
  have Kq11 := Lib.hid kq11
  clear kq11
  with_reducible refine (Kq11.out _).mono ?_
  rintro e vq11 ⟨rfl, hbq11⟩
  have kbq11 := below_next kbq9 hbq11
  clear hS hbq11
  refine hK.out _ _ (by exact kbq11) (fun inv hS => ?_)
  clear hK K
  refine call_atT 6 inv rfl (by omega) (by kernel_rfl) (by rfl) (fun K hK => ?_)
  go_simp
  have s14_1 : ∀ W : World, Calls Try.prog 51 #[.int .u64 1] W (RetV W (.agg (refT 1))) := fun W => rsmallN 1 (by decide) W
  with_reducible refine (s14_1 _).mono ?_
  rintro e vq12 ⟨rfl, hbq12⟩
  have kbq12 := below_next kbq11 hbq12
  clear hS hbq12
  refine hK.out _ _ (by exact kbq12) (fun inv hS => ?_)
  clear hK K
  refine call_atT 7 inv rfl (by omega) (by kernel_rfl) (by rfl) (fun K hK => ?_)
  go_simp
  obtain ⟨n13, hn13⟩ : ∃ x_ : Nat, (n10 + 1) % PP = x_ := ⟨_, rfl⟩
  have Hn13 := Lib.hid hn13
  have HLn13 : Hid (n13 < PP) := Lib.hid (by rw [← hn13]; exact Nat.mod_lt _ (by decide))
  clear hn13
  have kq14 := fun W : World => (raddN HLn10.out (show 1 < PP by decide)) W
  rw [Hn13.out] at kq14
  have Kq14 := Lib.hid kq14
  clear kq14
  with_reducible refine (Kq14.out _).mono ?_
  rintro e vq14 ⟨rfl, hbq14⟩
  have kbq14 := below_next kbq12 hbq14
  clear hS hbq14
  refine hK.out _ _ (by exact kbq14) (fun inv hS => ?_)
  clear hK K
  refine call_atT 8 inv rfl (by omega) (by kernel_rfl) (by rfl) (fun K hK => ?_)
  go_simp
  obtain ⟨n15, hn15⟩ : ∃ y : Nat, ratN n7 n13 = y := ⟨_, rfl⟩
  have Hn15 := Lib.hid hn15
  have HLn15 : Hid (n15 < PP) := Lib.hid (by rw [← hn15]; exact ratN_lt _ _)
  clear hn15
  obtain ⟨b16, hb16⟩ : ∃ x_ : Bool, fineN n7 n13 = x_ := ⟨_, rfl⟩
  have Hb16 := Lib.hid hb16
  clear hb16
  have kq17 := fun W : World => (rratioN HLn7.out HLn13.out) W
  rw [Hn15.out, Hb16.out] at kq17
  have Kq17 := Lib.hid kq17
  clear kq17
  with_reducible refine (Kq17.out _).mono ?_
  rintro e vq17 ⟨rfl, hbq17⟩
  have kbq17 := below_next kbq14 hbq17
  clear hS hbq17
  refine hK.out _ _ (by exact kbq17) (fun inv hS => ?_)
  clear hK K
  refine' take_atT 9 hT inv rfl (by omega) (by kernel_rfl) (by kernel_rfl) (fun _ _ _ h => h) (by rfl) hS ?_ ?_ ?_
  rotate_left 2
  · intro W hSW; go_simp; try with_reducible rfl
  · simp only [List.set_cons_succ, List.set_cons_zero]; rfl
  intro inv
  refine' take_atT 10 hT inv rfl (by omega) (by kernel_rfl) (by kernel_rfl) (fun _ _ _ h => h) (by rfl) hS ?_ ?_ ?_
  rotate_left 2
  · intro W hSW; go_simp; try with_reducible rfl
  · simp only [List.set_cons_succ, List.set_cons_zero]; rfl
  intro inv
  refine done_atT (by kernel_rfl) ?_
  simp only [List.drop_succ_cons, List.drop_zero]
  clear hS
  (try simp only [Act.put])
  have HRq18 := Lib.hid (HRq5.out.below kbq17)
  have HBq18 := Lib.hid (below_next HBq5.out kbq17)
  have lsq19 := HRq18.out.tail.head
  have HRq19 : Hid (RowsW (vq17.setRow (g0 + 1) (refT n15)) [(gq5, (refT n3), 31), ((g0 + 1), (refT n15), 31), (g0, (refT x), 31)]) := Lib.hid ⟨(by rw [setRow_other _ _ _ _ (Ne.symm NEq5_1.out)]; exact HRq18.out.head), setRow_heap _ _ _ _ _ _ lsq19, (by rw [setRow_other _ _ _ _ (by omega)]; exact HRq18.out.tail.tail.head), trivial⟩
  have HBq19 := Lib.hid (below_row (g := (g0 + 1)) (cs := (refT n15)) HBq18.out (by have := HG0.out; omega))
  go_wp2_with (refine wpList_store_row rfl 31 (.tmp 2) (.tmp 17) rfl (g0 + 1) (refT n15) rfl rfl 31 (refT 0) lsq19 (refT_info _) (refT_size _ _) (refT_one _) ?_)
  obtain ⟨Wq19, hWq19⟩ : ∃ W, vq17.setRow (g0 + 1) (refT n15) = W := ⟨_, rfl⟩
  rw [hWq19] at HRq19 HBq19
  (try rw [hWq19])
  clear hWq19 lsq19
  refine NoPanic.normal ?_
  go_wp2_with fail
  (try simp only [Exit.inBlock, Exit.then])
  refine bodyPost_ret (results_ct rfl _ _ (g0 + 1) _ (refT n15) _ _ (.bool b16) rfl rfl HRq19.out.tail.head Try.underlying31 rfl (refT_info _)) rfl ?_
  have eu : upN x = n7 := by unfold upN; rw [Hn3.out, Hn7.out]
  have ed : dnN x = n13 := by unfold dnN; rw [Hn3.out, Hn10.out, Hn13.out]
  exact ⟨by rw [eu, ed, Hn15.out, Hb16.out], HBq19.out⟩
set_option maxHeartbeats 1600000 in
theorem rofN {x y : Nat} (hx : x < PP) (hy : y < PP) (w : World) : Calls Try.prog 35 #[.agg (refT x), .agg (refT y)] w (RetV w (.agg (refP x y 1 ((x * y) % PP)))) := by
  have HXL := Lib.hid hx
  have HYL := Lib.hid hy
  clear hx hy
  have hzR := refT_zero
  have hz32 := zero32_zero
  have hzP := refP_zero
  have HR0 := Lib.hid ((((RowsW.nil w).box (refT x) 31).box (refT y) 31).box (refP 0 0 0 0) 33)
  have HB0 := Lib.hid (below_box (below_box (below_box (Below.refl w.heap.size w) (refT x) 31) (refT y) 31) (refP 0 0 0 0) 33)
  rw [World.size_alloc] at HR0
  rw [World.size_alloc] at HR0
  go_enter Try.func35, Try.ntmps35
  go_upto_region 1 with fail
  obtain ⟨W0, hW0⟩ : ∃ W, (((w.alloc (.cells (refT x) 31)).alloc (.cells (refT y) 31)).alloc (.cells (refP 0 0 0 0) 33)) = W := ⟨_, rfl⟩
  obtain ⟨g0, hg0⟩ : ∃ g, w.heap.size = g := ⟨_, rfl⟩
  rw [hW0] at HR0 HB0
  rw [hg0] at HR0
  rw [hW0, hg0]
  have HG0 := Lib.hid hg0
  clear hW0 hg0
  refine wp_region_noPanic ?_
  refine wp_region_held_tail (S := fun W => Below W0.heap.size W0 W) 7 (by kernel_rfl) ⟨by kernel_rfl, by kernel_rfl, by kernel_rfl, by kernel_rfl⟩ (by exact (Below.refl _ _).drew) (fun hT inv hS => ?_)
  refine' take_atT 0 hT inv rfl (by omega) (by kernel_rfl) (by kernel_rfl) (fun _ _ _ h => h) (by rfl) hS ?_ ?_ ?_
  rotate_left 2
  · intro W hSW; exact run_loadR rfl rfl (HR0.out.below hSW).tail.tail.head Try.underlying31 rfl (refT_info _)
  · simp only [List.set_cons_succ, List.set_cons_zero]; rfl
  intro inv
  refine' take_atT 1 hT inv rfl (by omega) (by kernel_rfl) (by kernel_rfl) (fun _ _ _ h => h) (by rfl) hS ?_ ?_ ?_
  rotate_left 2
  · intro W hSW; exact run_loadR rfl rfl (HR0.out.below hSW).tail.head Try.underlying31 rfl (refT_info _)
  · simp only [List.set_cons_succ, List.set_cons_zero]; rfl
  intro inv
  refine' take_atT 3 hT inv rfl (by omega) (by kernel_rfl) (by kernel_rfl) (fun _ _ _ h => h) (by rfl) hS ?_ ?_ ?_
  rotate_left 2
  · intro W hSW; exact run_loadR rfl rfl (HR0.out.below hSW).tail.tail.head Try.underlying31 rfl (refT_info _)
  · simp only [List.set_cons_succ, List.set_cons_zero]; rfl
  intro inv
  refine' take_atT 4 hT inv rfl (by omega) (by kernel_rfl) (by kernel_rfl) (fun _ _ _ h => h) (by rfl) hS ?_ ?_ ?_
  rotate_left 2
  · intro W hSW; exact run_loadR rfl rfl (HR0.out.below hSW).tail.head Try.underlying31 rfl (refT_info _)
  · simp only [List.set_cons_succ, List.set_cons_zero]; rfl
  intro inv
  refine call_atT 2 inv rfl (by omega) (by kernel_rfl) (by rfl) (fun K hK => ?_)
  go_simp
  have s7_1 : ∀ W : World, Calls Try.prog 51 #[.int .u64 1] W (RetV W (.agg (refT 1))) := fun W => rsmallN 1 (by decide) W
  with_reducible refine (s7_1 _).mono ?_
  rintro e vq1 ⟨rfl, hbq1⟩
  have kbq1 := below_next hS hbq1
  clear hS hbq1
  refine hK.out _ _ (by exact kbq1) (fun inv hS => ?_)
  clear hK K
  refine call_atT 5 inv rfl (by omega) (by kernel_rfl) (by rfl) (fun K hK => ?_)
  go_simp
  obtain ⟨n2, hn2⟩ : ∃ x_ : Nat, (x * y) % PP = x_ := ⟨_, rfl⟩
  have Hn2 := Lib.hid hn2
  have HLn2 : Hid (n2 < PP) := Lib.hid (by rw [← hn2]; exact Nat.mod_lt _ (by decide))
  clear hn2
  have kq3 := fun W : World => (rmulN HXL.out HYL.out) W
  rw [Hn2.out] at kq3
  have Kq3 := Lib.hid kq3
  clear kq3
  with_reducible refine (Kq3.out _).mono ?_
  rintro e vq3 ⟨rfl, hbq3⟩
  have kbq3 := below_next kbq1 hbq3
  clear hS hbq3
  refine hK.out _ _ (by exact kbq3) (fun inv hS => ?_)
  clear hK K
  refine' take_atT 6 hT inv rfl (by omega) (by kernel_rfl) (by kernel_rfl) (fun _ _ _ h => h) (by rfl) hS ?_ ?_ ?_
  rotate_left 2
  · intro W hSW; exact run_build4 rfl rfl rfl rfl rfl
  · simp only [List.set_cons_succ, List.set_cons_zero]; rfl
  intro inv
  refine done_atT (by kernel_rfl) ?_
  simp only [List.drop_succ_cons, List.drop_zero]
  clear hS
  (try simp only [Act.put])
  have HRq4 := Lib.hid (HR0.out.below kbq3)
  have HBq4 := Lib.hid (below_next HB0.out kbq3)
  have lsq5 := HRq4.out.head
  have HRq5 : Hid (RowsW (vq3.setRow (g0 + 1 + 1) (refP x y 1 n2)) [((g0 + 1 + 1), (refP x y 1 n2), 33), ((g0 + 1), (refT y), 31), (g0, (refT x), 31)]) := Lib.hid ⟨setRow_heap _ _ _ _ _ _ lsq5, (by rw [setRow_other _ _ _ _ (by omega)]; exact HRq4.out.tail.head), (by rw [setRow_other _ _ _ _ (by omega)]; exact HRq4.out.tail.tail.head), trivial⟩
  have HBq5 := Lib.hid (below_row (g := (g0 + 1 + 1)) (cs := (refP x y 1 n2)) HBq4.out (by have := HG0.out; omega))
  go_wp2_with (refine wpList_store_row rfl 33 (.tmp 4) (.tmp 11) rfl (g0 + 1 + 1) (refP x y 1 n2) rfl rfl 33 (refP 0 0 0 0) lsq5 (refP_info _ _ _ _) (refP_sizes _ _ _ _ _ _ _ _) (refP_one _ _ _ _) ?_)
  obtain ⟨Wq5, hWq5⟩ : ∃ W, vq3.setRow (g0 + 1 + 1) (refP x y 1 n2) = W := ⟨_, rfl⟩
  rw [hWq5] at HRq5 HBq5
  (try rw [hWq5])
  clear hWq5 lsq5
  refine NoPanic.normal ?_
  go_wp2_with fail
  (try simp only [Exit.inBlock, Exit.then])
  refine bodyPost_ret (results_cell_row rfl _ _ (g0 + 1 + 1) _ (refP x y 1 n2) _ _ rfl HRq5.out.head Try.underlying33 rfl (refP_info _ _ _ _)) rfl ?_
  exact ⟨by rw [Hn2.out], HBq5.out⟩
set_option maxHeartbeats 1600000 in
theorem rzeroN  (w : World) : Calls Try.prog 31 #[] w (RetV w (.agg (refP 0 1 1 0))) := by
  have hzR := refT_zero
  have hz32 := zero32_zero
  have hzP := refP_zero
  have HR0 := Lib.hid ((RowsW.nil w).box (refP 0 0 0 0) 33)
  have HB0 := Lib.hid (below_box (Below.refl w.heap.size w) (refP 0 0 0 0) 33)
  go_enter Try.func31, Try.ntmps31
  go_wp2_with fail
  obtain ⟨W0, hW0⟩ : ∃ W, (w.alloc (.cells (refP 0 0 0 0) 33)) = W := ⟨_, rfl⟩
  obtain ⟨g0, hg0⟩ : ∃ g, w.heap.size = g := ⟨_, rfl⟩
  rw [hW0] at HR0 HB0
  rw [hg0] at HR0
  rw [hW0, hg0]
  have HG0 := Lib.hid hg0
  clear hW0 hg0
  have s1_1 : ∀ W : World, Calls Try.prog 51 #[.int .u64 1] W (RetV W (.agg (refT 1))) := fun W => rsmallN 1 (by decide) W
  with_reducible refine (s1_1 _).mono ?_
  rintro e vq1 ⟨rfl, hbq1⟩
  have HRq1 := Lib.hid (HR0.out.below hbq1)
  have HBq1 := Lib.hid (below_next HB0.out hbq1)
  clear hbq1
  go_wp2_with fail
  have s2_1 : ∀ W : World, Calls Try.prog 51 #[.int .u64 1] W (RetV W (.agg (refT 1))) := fun W => rsmallN 1 (by decide) W
  with_reducible refine (s2_1 _).mono ?_
  rintro e vq2 ⟨rfl, hbq2⟩
  have HRq2 := Lib.hid (HRq1.out.below hbq2)
  have HBq2 := Lib.hid (below_next HBq1.out hbq2)
  clear hbq2
  have lsq3 := HRq2.out.head
  have HRq3 : Hid (RowsW (vq2.setRow g0 (refP 0 1 1 0)) [(g0, (refP 0 1 1 0), 33)]) := Lib.hid ⟨setRow_heap _ _ _ _ _ _ lsq3, trivial⟩
  have HBq3 := Lib.hid (below_row (g := g0) (cs := (refP 0 1 1 0)) HBq2.out (by have := HG0.out; omega))
  go_wp2_with (first
      | (refine wpList_runsV (o := ⟨some 3, _, _, _, _, _⟩) rfl (.agg (refP 0 1 1 0)) (run_build2 rfl rfl rfl) ?_)
      | (refine wpList_store_row rfl 33 (.tmp 0) (.tmp 3) rfl g0 (refP 0 1 1 0) rfl rfl 33 (refP 0 0 0 0) lsq3 (refP_info _ _ _ _) (refP_sizes _ _ _ _ _ _ _ _) (refP_one _ _ _ _) ?_))
  obtain ⟨Wq3, hWq3⟩ : ∃ W, vq2.setRow g0 (refP 0 1 1 0) = W := ⟨_, rfl⟩
  rw [hWq3] at HRq3 HBq3
  (try rw [hWq3])
  clear hWq3 lsq3
  (try simp only [Exit.inBlock, Exit.then])
  refine bodyPost_ret (results_cell_row rfl _ _ g0 _ (refP 0 1 1 0) _ _ rfl HRq3.out.head Try.underlying33 rfl (refP_info _ _ _ _)) rfl ?_
  exact ⟨rfl, HBq3.out⟩
set_option maxHeartbeats 1600000 in
theorem rbaseN  (w : World) : Calls Try.prog 16 #[] w (RetPt RQ w F25519.base) := by
  have hzR := refT_zero
  have hz32 := zero32_zero
  have hzP := refP_zero
  have HR0 := Lib.hid ((RowsW.nil w).box (refP 0 0 0 0) 33)
  have HB0 := Lib.hid (below_box (Below.refl w.heap.size w) (refP 0 0 0 0) 33)
  go_enter Try.func16, Try.ntmps16
  go_wp2_with fail
  obtain ⟨W0, hW0⟩ : ∃ W, (w.alloc (.cells (refP 0 0 0 0) 33)) = W := ⟨_, rfl⟩
  obtain ⟨g0, hg0⟩ : ∃ g, w.heap.size = g := ⟨_, rfl⟩
  rw [hW0] at HR0 HB0
  rw [hg0] at HR0
  rw [hW0, hg0]
  have HG0 := Lib.hid hg0
  clear hW0 hg0
  have s4_4 : ∀ W : World, Calls Try.prog 51 #[.int .u64 4] W (RetV W (.agg (refT 4))) := fun W => rsmallN 4 (by decide) W
  with_reducible refine (s4_4 _).mono ?_
  rintro e vq1 ⟨rfl, hbq1⟩
  have HRq1 := Lib.hid (HR0.out.below hbq1)
  have HBq1 := Lib.hid (below_next HB0.out hbq1)
  clear hbq1
  go_wp2_with fail
  have s5_5 : ∀ W : World, Calls Try.prog 51 #[.int .u64 5] W (RetV W (.agg (refT 5))) := fun W => rsmallN 5 (by decide) W
  with_reducible refine (s5_5 _).mono ?_
  rintro e vq2 ⟨rfl, hbq2⟩
  have HRq2 := Lib.hid (HRq1.out.below hbq2)
  have HBq2 := Lib.hid (below_next HBq1.out hbq2)
  clear hbq2
  go_wp2_with fail
  obtain ⟨n3, hn3⟩ : ∃ y : Nat, invN 5 = y := ⟨_, rfl⟩
  have Hn3 := Lib.hid hn3
  have HLn3 : Hid (n3 < PP) := Lib.hid (by rw [← hn3]; exact invN_lt _)
  clear hn3
  have kq4 := fun W : World => (rinvN (show 5 < PP by decide)) W
  rw [Hn3.out] at kq4
  have Kq4 := Lib.hid kq4
  clear kq4
  with_reducible refine (Kq4.out _).mono ?_
  rintro e vq4 ⟨rfl, hbq4⟩
  have HRq4 := Lib.hid (HRq2.out.below hbq4)
  have HBq4 := Lib.hid (below_next HBq2.out hbq4)
  clear hbq4
  go_wp2_with fail
  obtain ⟨n5, hn5⟩ : ∃ x_ : Nat, (4 * n3) % PP = x_ := ⟨_, rfl⟩
  have Hn5 := Lib.hid hn5
  have HLn5 : Hid (n5 < PP) := Lib.hid (by rw [← hn5]; exact Nat.mod_lt _ (by decide))
  clear hn5
  have kq6 := fun W : World => (rmulN (show 4 < PP by decide) HLn3.out) W
  rw [Hn5.out] at kq6
  have Kq6 := Lib.hid kq6
  clear kq6
  with_reducible refine (Kq6.out _).mono ?_
  rintro e vq6 ⟨rfl, hbq6⟩
  have HRq6 := Lib.hid (HRq4.out.below hbq6)
  have HBq6 := Lib.hid (below_next HBq4.out hbq6)
  clear hbq6
  have h0q7 : (vq6.alloc (.cells (refT 0) 31)).heap[vq6.heap.size]? = some (.cells (refT 0) 31 (0, 0)) := heap_alloc_new _ _
  have HRq7 := Lib.hid (HRq6.out.new (refT 0) (refT n5) 31)
  have HBq7 := Lib.hid (below_new HBq6.out (refT 0) (refT n5) 31)
  have HNq7 := Lib.hid HRq6.out.ne
  have HGq7 := Lib.hid HBq6.out.size
  go_upto_region 2 with (refine wpList_store_row rfl 31 (.tmp 1) (.tmp 7) rfl vq6.heap.size (refT n5) rfl rfl 31 (refT 0) h0q7 (refT_info _) (refT_size _ _) (refT_one _) ?_)
  obtain ⟨Wq7, hWq7⟩ : ∃ W, (vq6.alloc (.cells (refT 0) 31)).setRow vq6.heap.size (refT n5) = W := ⟨_, rfl⟩
  obtain ⟨gq7, hgq7⟩ : ∃ g, vq6.heap.size = g := ⟨_, rfl⟩
  rw [hWq7, hgq7] at HRq7
  rw [hWq7] at HBq7
  rw [hgq7] at HNq7 HGq7
  rw [hWq7, hgq7]
  clear hWq7 hgq7 h0q7
  have NEq7_0 : Hid (g0 ≠ gq7) := Lib.hid (HNq7.out (g0, (refP 0 0 0 0), 33) (by simp))
  have HBY : Hid (n5 = F25519.bY) := Lib.hid (by rw [← Hn5.out, ← Hn3.out]; exact (byG_is _).trans base_y_is)
  have l8 := HRq7.out.head
  go_wp2_with (refine wpList_load_row rfl 31 (.tmp 1) rfl gq7 rfl 31 (refT n5) (0, 0) _ l8 Try.underlying31 rfl (refT_info _) ?_)
  obtain ⟨n9, hn9⟩ : ∃ y : Nat, ratN (upN n5) (dnN n5) = y := ⟨_, rfl⟩
  have Hn9 := Lib.hid hn9
  have HLn9 : Hid (n9 < PP) := Lib.hid (by rw [← hn9]; exact ratN_lt _ _)
  clear hn9
  obtain ⟨b10, hb10⟩ : ∃ x_ : Bool, fineN (upN n5) (dnN n5) = x_ := ⟨_, rfl⟩
  have Hb10 := Lib.hid hb10
  clear hb10
  have kq11 := fun W : World => (rxofN HLn5.out) W
  rw [Hn9.out, Hb10.out] at kq11
  have Kq11 := Lib.hid kq11
  clear kq11
  with_reducible refine (Kq11.out _).mono ?_
  rintro e vq11 ⟨rfl, hbq11⟩
  have HRq11 := Lib.hid (HRq7.out.below hbq11)
  have HBq11 := Lib.hid (below_next HBq7.out hbq11)
  clear hbq11
  have h0q12 : (vq11.alloc (.cells (refT 0) 31)).heap[vq11.heap.size]? = some (.cells (refT 0) 31 (0, 0)) := heap_alloc_new _ _
  have HRq12 := Lib.hid (HRq11.out.new (refT 0) (refT n9) 31)
  have HBq12 := Lib.hid (below_new HBq11.out (refT 0) (refT n9) 31)
  have HNq12 := Lib.hid HRq11.out.ne
  have HGq12 := Lib.hid HBq11.out.size
  go_upto_region 3 with (refine wpList_store_row rfl 31 (.tmp 2) (.tmp 11) rfl vq11.heap.size (refT n9) rfl rfl 31 (refT 0) h0q12 (refT_info _) (refT_size _ _) (refT_one _) ?_)
  obtain ⟨Wq12, hWq12⟩ : ∃ W, (vq11.alloc (.cells (refT 0) 31)).setRow vq11.heap.size (refT n9) = W := ⟨_, rfl⟩
  obtain ⟨gq12, hgq12⟩ : ∃ g, vq11.heap.size = g := ⟨_, rfl⟩
  rw [hWq12, hgq12] at HRq12
  rw [hWq12] at HBq12
  rw [hgq12] at HNq12 HGq12
  rw [hWq12, hgq12]
  clear hWq12 hgq12 h0q12
  have NEq12_0 : Hid (g0 ≠ gq12) := Lib.hid (HNq12.out (g0, (refP 0 0 0 0), 33) (by simp))
  have NEq12_1 : Hid (gq7 ≠ gq12) := Lib.hid (HNq12.out (gq7, (refT n5), 31) (by simp))
  have l13 := HRq12.out.head
  have l14 := HRq12.out.tail.head
  go_wp2_with (first
      | (refine wpList_load_row rfl 31 (.tmp 2) rfl gq12 rfl 31 (refT n9) (0, 0) _ l13 Try.underlying31 rfl (refT_info _) ?_)
      | (refine wpList_load_row rfl 31 (.tmp 1) rfl gq7 rfl 31 (refT n5) (0, 0) _ l14 Try.underlying31 rfl (refT_info _) ?_))
  obtain ⟨n15, hn15⟩ : ∃ x_ : Nat, (n9 * n5) % PP = x_ := ⟨_, rfl⟩
  have Hn15 := Lib.hid hn15
  have HLn15 : Hid (n15 < PP) := Lib.hid (by rw [← hn15]; exact Nat.mod_lt _ (by decide))
  clear hn15
  have kq16 := fun W : World => (rofN HLn9.out HLn5.out) W
  rw [Hn15.out] at kq16
  have Kq16 := Lib.hid kq16
  clear kq16
  with_reducible refine (Kq16.out _).mono ?_
  rintro e vq16 ⟨rfl, hbq16⟩
  have HRq16 := Lib.hid (HRq12.out.below hbq16)
  have HBq16 := Lib.hid (below_next HBq12.out hbq16)
  clear hbq16
  have lsq17 := HRq16.out.tail.tail.head
  have HRq17 : Hid (RowsW (vq16.setRow g0 (refP n9 n5 1 n15)) [(gq12, (refT n9), 31), (gq7, (refT n5), 31), (g0, (refP n9 n5 1 n15), 33)]) := Lib.hid ⟨(by rw [setRow_other _ _ _ _ (Ne.symm NEq12_0.out)]; exact HRq16.out.head), (by rw [setRow_other _ _ _ _ (Ne.symm NEq7_0.out)]; exact HRq16.out.tail.head), setRow_heap _ _ _ _ _ _ lsq17, trivial⟩
  have HBq17 := Lib.hid (below_row (g := g0) (cs := (refP n9 n5 1 n15)) HBq16.out (by have := HG0.out; omega))
  go_wp2_with (refine wpList_store_row rfl 33 (.tmp 0) (.tmp 15) rfl g0 (refP n9 n5 1 n15) rfl rfl 33 (refP 0 0 0 0) lsq17 (refP_info _ _ _ _) (refP_sizes _ _ _ _ _ _ _ _) (refP_one _ _ _ _) ?_)
  obtain ⟨Wq17, hWq17⟩ : ∃ W, vq16.setRow g0 (refP n9 n5 1 n15) = W := ⟨_, rfl⟩
  rw [hWq17] at HRq17 HBq17
  (try rw [hWq17])
  clear hWq17 lsq17
  (try simp only [Exit.inBlock, Exit.then])
  refine bodyPost_ret (results_cell_row rfl _ _ g0 _ (refP n9 n5 1 n15) _ _ rfl HRq17.out.tail.tail.head Try.underlying33 rfl (refP_info _ _ _ _)) rfl ?_
  exact ⟨_, rfl, ⟨_, _, _, _, rfl, by rw [← Hn15.out, show n9 = F25519.bX by rw [← Hn9.out, HBY.out]; exact base_root.2, HBY.out]; exact base_co⟩, HBq17.out⟩
end Go.Proofs.Ytfejabfmhddepaa

