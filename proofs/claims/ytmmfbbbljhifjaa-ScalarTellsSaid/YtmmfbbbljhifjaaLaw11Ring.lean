/- The walk of ScalarRing. Written by wip/tools. -/
import Derived.Test.YtmmfbbbljhifjaaLaw11Full
namespace Go.Proofs.Ytmmfbbbljhifjaa
open Go.RowKit
set_option linter.unusedVariables false
set_option maxRecDepth 100000

theorem sc_r1 (a b : Nat) : (a * b + 0) % LL = (b * a + 0) % LL := by rw [Nat.mul_comm]
theorem sc_r2 (a b c : Nat) : ((a * b + 0) % LL * c + 0) % LL = (a * ((b * c + 0) % LL) + 0) % LL := by
  rw [Nat.add_zero, Nat.add_zero, Nat.add_zero, Nat.add_zero, sc_mm, sc_mm2, Nat.mul_assoc]
theorem sc_r3 (a b c : Nat) : (a * ((b + c) % LL) + 0) % LL = ((a * b + 0) % LL + (a * c + 0) % LL) % LL := by
  rw [Nat.add_zero, Nat.add_zero, Nat.add_zero, sc_mm2, ← Nat.add_mod, Nat.mul_add]
theorem sc_r4 (a b : Nat) : (a * 1 + b) % LL = (a + b) % LL := by rw [Nat.mul_one]
theorem sc_r5 (a b c : Nat) : (a * b + c) % LL = ((a * b + 0) % LL + c) % LL := by rw [Nat.add_zero, sc_am]
theorem sc_r6 (a : Nat) : (a + 0) % LL = (a + 256 ^ 32 * 0) % LL := by rw [Nat.mul_zero]

set_option maxHeartbeats 6400000 in
theorem law11Ring (C : ScC) (a : List UInt8) (ha : a.length = 32) (b : List UInt8) (hb : b.length = 32) (c : List UInt8) (hc : c.length = 32) (w : World) : Calls Try.prog 4 #[.agg (arrB a), .agg (arrB b), .agg (arrB c)] w fun e w' => e = .returned (.bool true) ∧ Below w.heap.size w w' := by
  have HAL : Hid (∀ W : World, Calls Try.prog 8 #[] W fun e w' => e = .returned (.bool true) ∧ Below W.heap.size W w') := Lib.hid (fun W => alive11_any C W)
  have hz32 : ∀ u, (zeroValue 22).run Try.prog u = .ok (.agg (bytT 0)) u := fun u => zero32_zero u
  have Ha := Lib.hid ha
  have Hb := Lib.hid hb
  have Hc := Lib.hid hc
  clear ha hb hc
  go_enter Try.func4, Try.ntmps4
  go_wp2_with fail
  have HR0 := Lib.hid ((((RowsW.nil w).box (arrB a) 22).box (arrB b) 22).box (arrB c) 22)
  have HB0 := Lib.hid (below_box (below_box (below_box (Below.refl w.heap.size w) (arrB a) 22) (arrB b) 22) (arrB c) 22)
  rw [World.size_alloc] at HR0
  rw [World.size_alloc] at HR0
  obtain ⟨W0, hW0⟩ : ∃ W, (((w.alloc (.cells (arrB a) 22)).alloc (.cells (arrB b) 22)).alloc (.cells (arrB c) 22)) = W := ⟨_, rfl⟩
  obtain ⟨g0, hg0⟩ : ∃ g, w.heap.size = g := ⟨_, rfl⟩
  rw [hW0] at HR0 HB0
  rw [hg0] at HR0
  rw [hW0, hg0]
  have HG0 := Lib.hid hg0
  clear hW0 hg0
  obtain ⟨na, hna⟩ : ∃ x : Nat, leN a = x := ⟨_, rfl⟩
  have HNa := Lib.hid hna
  clear hna
  obtain ⟨nb, hnb⟩ : ∃ x : Nat, leN b = x := ⟨_, rfl⟩
  have HNb := Lib.hid hnb
  clear hnb
  obtain ⟨nc, hnc⟩ : ∃ x : Nat, leN c = x := ⟨_, rfl⟩
  have HNc := Lib.hid hnc
  clear hnc
  with_reducible refine (HAL.out _).mono ?_
  rintro e v1 ⟨rfl, hb1⟩
  have HR1 := Lib.hid (HR0.out.below hb1)
  have HB1 := Lib.hid (below_next HB0.out hb1)
  clear hb1
  go_upto_region 2 with fail
  have h0q1 : (v1.alloc (.cells (bytT 0) 22)).heap[v1.heap.size]? = some (.cells (bytT 0) 22 (0, 0)) := heap_alloc_new _ _
  have HRq1 := Lib.hid (HR1.out.new (bytT 0) (bytT 0) 22)
  have HBq1 := Lib.hid (below_new HB1.out (bytT 0) (bytT 0) 22)
  have HNq1 := Lib.hid HR1.out.ne
  have HGq1 := Lib.hid HB1.out.size
  go_upto_region 3 with (first
      | (refine wpList_runsV (o := ⟨some 13, _, _, _, _, _⟩) rfl (.agg (bytT 0)) (by kernel_rfl) ?_)
      | (refine wpList_store_row rfl 22 (.tmp 8) (.tmp 13) rfl v1.heap.size (bytT 0) rfl rfl 22 (bytT 0) h0q1 (bytT_info _) (byt_size 0 0) (bytT_one _) ?_))
  obtain ⟨Wq1, hWq1⟩ : ∃ W, (v1.alloc (.cells (bytT 0) 22)).setRow v1.heap.size (bytT 0) = W := ⟨_, rfl⟩
  obtain ⟨gq1, hgq1⟩ : ∃ g, v1.heap.size = g := ⟨_, rfl⟩
  rw [hWq1, hgq1] at HRq1
  rw [hWq1] at HBq1
  rw [hgq1] at HNq1 HGq1
  rw [hWq1, hgq1]
  clear hWq1 hgq1 h0q1
  have NEq1_0 : Hid (g0 ≠ gq1) := Lib.hid (HNq1.out (g0, (arrB a), 22) (by simp))
  have NEq1_1 : Hid ((g0 + 1) ≠ gq1) := Lib.hid (HNq1.out ((g0 + 1), (arrB b), 22) (by simp))
  have NEq1_2 : Hid ((g0 + 1 + 1) ≠ gq1) := Lib.hid (HNq1.out ((g0 + 1 + 1), (arrB c), 22) (by simp))
  have h0q2 : (Wq1.alloc (.cells (bytT 0) 22)).heap[Wq1.heap.size]? = some (.cells (bytT 0) 22 (0, 0)) := heap_alloc_new _ _
  have HRq2 := Lib.hid (HRq1.out.new (bytT 0) (bytT 1) 22)
  have HBq2 := Lib.hid (below_new HBq1.out (bytT 0) (bytT 1) 22)
  have HNq2 := Lib.hid HRq1.out.ne
  have HGq2 := Lib.hid HBq1.out.size
  go_upto_region 4 with (first
      | (refine wpList_runsV (o := ⟨some 14, _, _, _, _, _⟩) rfl (.agg (bytT 1)) (by kernel_rfl) ?_)
      | (refine wpList_store_row rfl 22 (.tmp 9) (.tmp 14) rfl Wq1.heap.size (bytT 1) rfl rfl 22 (bytT 0) h0q2 (bytT_info _) (byt_size 0 1) (bytT_one _) ?_))
  obtain ⟨Wq2, hWq2⟩ : ∃ W, (Wq1.alloc (.cells (bytT 0) 22)).setRow Wq1.heap.size (bytT 1) = W := ⟨_, rfl⟩
  obtain ⟨gq2, hgq2⟩ : ∃ g, Wq1.heap.size = g := ⟨_, rfl⟩
  rw [hWq2, hgq2] at HRq2
  rw [hWq2] at HBq2
  rw [hgq2] at HNq2 HGq2
  rw [hWq2, hgq2]
  clear hWq2 hgq2 h0q2
  have NEq2_0 : Hid (g0 ≠ gq2) := Lib.hid (HNq2.out (g0, (arrB a), 22) (by simp))
  have NEq2_1 : Hid ((g0 + 1) ≠ gq2) := Lib.hid (HNq2.out ((g0 + 1), (arrB b), 22) (by simp))
  have NEq2_2 : Hid ((g0 + 1 + 1) ≠ gq2) := Lib.hid (HNq2.out ((g0 + 1 + 1), (arrB c), 22) (by simp))
  have NEq2_3 : Hid (gq1 ≠ gq2) := Lib.hid (HNq2.out (gq1, (bytT 0), 22) (by simp))
  have l3 := HRq2.out.tail.tail.tail.tail.head
  have l4 := HRq2.out.tail.tail.tail.head
  have l5 := HRq2.out.tail.head
  go_wp2_with (first
      | (refine wpList_load_row rfl 22 (.tmp 3) rfl g0 rfl 22 (arrB a) (0, 0) _ l3 Try.underlying22 rfl (arr32_info Ha.out) ?_)
      | (refine wpList_load_row rfl 22 (.tmp 4) rfl (g0 + 1) rfl 22 (arrB b) (0, 0) _ l4 Try.underlying22 rfl (arr32_info Hb.out) ?_)
      | (refine wpList_load_row rfl 22 (.tmp 8) rfl gq1 rfl 22 (bytT 0) (0, 0) _ l5 Try.underlying22 rfl (bytT_info _) ?_))
  obtain ⟨n6, hn6⟩ : ∃ x : Nat, (na * nb + 0) % LL = x := ⟨_, rfl⟩
  have Hn6 := Lib.hid hn6
  have HLn6 : Hid (n6 < LL) := Lib.hid (by rw [← hn6]; exact Nat.mod_lt _ (by decide))
  clear hn6
  have kq7 := fun W : World => (C.mulAdd a b (leB 32 0) Ha.out Hb.out (leB_len 32 0)) W
  rw [byt_fold 0, HNa.out, HNb.out, leN_byt (show 0 < LL by decide), Hn6.out] at kq7
  have Kq7 := Lib.hid kq7
  clear kq7
  with_reducible refine (Kq7.out _).mono ?_
  rintro e vq7 ⟨rfl, hbq7⟩
  have HRq7 := Lib.hid (HRq2.out.below hbq7)
  have HBq7 := Lib.hid (below_next HBq2.out hbq7)
  clear hbq7
  have h0q8 : (vq7.alloc (.cells (bytT 0) 22)).heap[vq7.heap.size]? = some (.cells (bytT 0) 22 (0, 0)) := heap_alloc_new _ _
  have HRq8 := Lib.hid (HRq7.out.new (bytT 0) (bytT n6) 22)
  have HBq8 := Lib.hid (below_new HBq7.out (bytT 0) (bytT n6) 22)
  have HNq8 := Lib.hid HRq7.out.ne
  have HGq8 := Lib.hid HBq7.out.size
  go_upto_region 5 with (refine wpList_store_row rfl 22 (.tmp 10) (.tmp 18) rfl vq7.heap.size (bytT n6) rfl rfl 22 (bytT 0) h0q8 (bytT_info _) (byt_size 0 n6) (bytT_one _) ?_)
  obtain ⟨Wq8, hWq8⟩ : ∃ W, (vq7.alloc (.cells (bytT 0) 22)).setRow vq7.heap.size (bytT n6) = W := ⟨_, rfl⟩
  obtain ⟨gq8, hgq8⟩ : ∃ g, vq7.heap.size = g := ⟨_, rfl⟩
  rw [hWq8, hgq8] at HRq8
  rw [hWq8] at HBq8
  rw [hgq8] at HNq8 HGq8
  rw [hWq8, hgq8]
  clear hWq8 hgq8 h0q8
  have NEq8_0 : Hid (g0 ≠ gq8) := Lib.hid (HNq8.out (g0, (arrB a), 22) (by simp))
  have NEq8_1 : Hid ((g0 + 1) ≠ gq8) := Lib.hid (HNq8.out ((g0 + 1), (arrB b), 22) (by simp))
  have NEq8_2 : Hid ((g0 + 1 + 1) ≠ gq8) := Lib.hid (HNq8.out ((g0 + 1 + 1), (arrB c), 22) (by simp))
  have NEq8_3 : Hid (gq1 ≠ gq8) := Lib.hid (HNq8.out (gq1, (bytT 0), 22) (by simp))
  have NEq8_4 : Hid (gq2 ≠ gq8) := Lib.hid (HNq8.out (gq2, (bytT 1), 22) (by simp))
  have l9 := HRq8.out.tail.tail.tail.tail.head
  have l10 := HRq8.out.tail.tail.tail.head
  have l11 := HRq8.out.tail.tail.head
  go_wp2_with (first
      | (refine wpList_load_row rfl 22 (.tmp 4) rfl (g0 + 1) rfl 22 (arrB b) (0, 0) _ l9 Try.underlying22 rfl (arr32_info Hb.out) ?_)
      | (refine wpList_load_row rfl 22 (.tmp 5) rfl (g0 + 1 + 1) rfl 22 (arrB c) (0, 0) _ l10 Try.underlying22 rfl (arr32_info Hc.out) ?_)
      | (refine wpList_load_row rfl 22 (.tmp 8) rfl gq1 rfl 22 (bytT 0) (0, 0) _ l11 Try.underlying22 rfl (bytT_info _) ?_))
  obtain ⟨n12, hn12⟩ : ∃ x : Nat, (nb * nc + 0) % LL = x := ⟨_, rfl⟩
  have Hn12 := Lib.hid hn12
  have HLn12 : Hid (n12 < LL) := Lib.hid (by rw [← hn12]; exact Nat.mod_lt _ (by decide))
  clear hn12
  have kq13 := fun W : World => (C.mulAdd b c (leB 32 0) Hb.out Hc.out (leB_len 32 0)) W
  rw [byt_fold 0, HNb.out, HNc.out, leN_byt (show 0 < LL by decide), Hn12.out] at kq13
  have Kq13 := Lib.hid kq13
  clear kq13
  with_reducible refine (Kq13.out _).mono ?_
  rintro e vq13 ⟨rfl, hbq13⟩
  have HRq13 := Lib.hid (HRq8.out.below hbq13)
  have HBq13 := Lib.hid (below_next HBq8.out hbq13)
  clear hbq13
  have h0q14 : (vq13.alloc (.cells (bytT 0) 22)).heap[vq13.heap.size]? = some (.cells (bytT 0) 22 (0, 0)) := heap_alloc_new _ _
  have HRq14 := Lib.hid (HRq13.out.new (bytT 0) (bytT n12) 22)
  have HBq14 := Lib.hid (below_new HBq13.out (bytT 0) (bytT n12) 22)
  have HNq14 := Lib.hid HRq13.out.ne
  have HGq14 := Lib.hid HBq13.out.size
  go_upto_region 6 with (refine wpList_store_row rfl 22 (.tmp 11) (.tmp 22) rfl vq13.heap.size (bytT n12) rfl rfl 22 (bytT 0) h0q14 (bytT_info _) (byt_size 0 n12) (bytT_one _) ?_)
  obtain ⟨Wq14, hWq14⟩ : ∃ W, (vq13.alloc (.cells (bytT 0) 22)).setRow vq13.heap.size (bytT n12) = W := ⟨_, rfl⟩
  obtain ⟨gq14, hgq14⟩ : ∃ g, vq13.heap.size = g := ⟨_, rfl⟩
  rw [hWq14, hgq14] at HRq14
  rw [hWq14] at HBq14
  rw [hgq14] at HNq14 HGq14
  rw [hWq14, hgq14]
  clear hWq14 hgq14 h0q14
  have NEq14_0 : Hid (g0 ≠ gq14) := Lib.hid (HNq14.out (g0, (arrB a), 22) (by simp))
  have NEq14_1 : Hid ((g0 + 1) ≠ gq14) := Lib.hid (HNq14.out ((g0 + 1), (arrB b), 22) (by simp))
  have NEq14_2 : Hid ((g0 + 1 + 1) ≠ gq14) := Lib.hid (HNq14.out ((g0 + 1 + 1), (arrB c), 22) (by simp))
  have NEq14_3 : Hid (gq1 ≠ gq14) := Lib.hid (HNq14.out (gq1, (bytT 0), 22) (by simp))
  have NEq14_4 : Hid (gq2 ≠ gq14) := Lib.hid (HNq14.out (gq2, (bytT 1), 22) (by simp))
  have NEq14_5 : Hid (gq8 ≠ gq14) := Lib.hid (HNq14.out (gq8, (bytT n6), 22) (by simp))
  refine wp_region_noPanic ?_
  refine wp_region_held_drew (S := fun W => Below Wq14.heap.size Wq14 W) (by kernel_rfl) (by exact (Below.refl _ _).drew) (fun hS => ?_)
  refine' take_at 0 rfl (by kernel_rfl) (by kernel_rfl) (by kernel_rfl) (fun _ _ _ h => h) (by rfl) hS ?_ ?_ ?_
  rotate_left 2
  · intro W hSW; go_simp; try with_reducible rfl
  · simp only [List.set_cons_succ, List.set_cons_zero]; rfl
  refine' take_at 1 rfl (by kernel_rfl) (by kernel_rfl) (by kernel_rfl) (fun _ _ _ h => h) (by rfl) hS ?_ ?_ ?_
  rotate_left 2
  · intro W hSW; go_simp; try with_reducible rfl
  · simp only [List.set_cons_succ, List.set_cons_zero]; rfl
  refine' take_at 2 rfl (by kernel_rfl) (by kernel_rfl) (by kernel_rfl) (fun _ _ _ h => h) (by rfl) hS ?_ ?_ ?_
  rotate_left 2
  · intro W hSW; exact run_loadR rfl rfl (HRq14.out.below hSW).tail.head Try.underlying22 rfl (bytT_info _)
  · simp only [List.set_cons_succ, List.set_cons_zero]; rfl
  refine' take_at 3 rfl (by kernel_rfl) (by kernel_rfl) (by kernel_rfl) (fun _ _ _ h => h) (by rfl) hS ?_ ?_ ?_
  rotate_left 2
  · intro W hSW; exact run_loadR rfl rfl (HRq14.out.below hSW).tail.tail.tail.tail.tail.head Try.underlying22 rfl (arr32_info Hb.out)
  · simp only [List.set_cons_succ, List.set_cons_zero]; rfl
  refine' take_at 4 rfl (by kernel_rfl) (by kernel_rfl) (by kernel_rfl) (fun _ _ _ h => h) (by rfl) hS ?_ ?_ ?_
  rotate_left 2
  · intro W hSW; exact run_loadR rfl rfl (HRq14.out.below hSW).tail.tail.tail.tail.tail.tail.head Try.underlying22 rfl (arr32_info Ha.out)
  · simp only [List.set_cons_succ, List.set_cons_zero]; rfl
  refine' take_at 5 rfl (by kernel_rfl) (by kernel_rfl) (by kernel_rfl) (fun _ _ _ h => h) (by rfl) hS ?_ ?_ ?_
  rotate_left 2
  · intro W hSW; exact run_loadR rfl rfl (HRq14.out.below hSW).tail.tail.tail.head Try.underlying22 rfl (bytT_info _)
  · simp only [List.set_cons_succ, List.set_cons_zero]; rfl
  refine call_at 6 rfl (by kernel_rfl) (by rfl) (fun K hK => ?_)
  go_simp
  obtain ⟨n15, hn15⟩ : ∃ x : Nat, (nb * na + 0) % LL = x := ⟨_, rfl⟩
  have Hn15 := Lib.hid hn15
  have HLn15 : Hid (n15 < LL) := Lib.hid (by rw [← hn15]; exact Nat.mod_lt _ (by decide))
  clear hn15
  have kq16 := fun W : World => (C.mulAdd b a (leB 32 0) Hb.out Ha.out (leB_len 32 0)) W
  rw [byt_fold 0, HNb.out, HNa.out, leN_byt (show 0 < LL by decide), Hn15.out] at kq16
  have Kq16 := Lib.hid kq16
  clear kq16
  with_reducible refine (Kq16.out _).mono ?_
  rintro e vq16 ⟨rfl, hbq16⟩
  have kbq16 := below_next hS hbq16
  clear hS hbq16
  refine hK.out _ _ (by exact kbq16) (fun hS => ?_)
  clear hK K
  refine' take_at 7 rfl (by kernel_rfl) (by kernel_rfl) (by kernel_rfl) (fun _ _ _ h => h) (by rfl) hS ?_ ?_ ?_
  rotate_left 2
  · intro W hSW; exact run_eql2 rfl rfl rfl guardB (by rw [show n6 = n15 from (by rw [← Hn6.out, ← Hn15.out]; exact sc_r1 _ _)]; exact eqBytT n15 W)
  · simp only [List.set_cons_succ, List.set_cons_zero]; rfl
  refine' take_at 8 rfl (by kernel_rfl) (by kernel_rfl) (by kernel_rfl) (fun _ _ _ h => h) (by rfl) hS ?_ ?_ ?_
  rotate_left 2
  · intro W hSW; go_simp; try with_reducible rfl
  · simp only [List.set_cons_succ, List.set_cons_zero]; rfl
  refine' take_at 9 rfl (by kernel_rfl) (by kernel_rfl) (by kernel_rfl) (fun _ _ _ h => h) (by rfl) hS ?_ ?_ ?_
  rotate_left 2
  · intro W hSW; go_simp; try with_reducible rfl
  · simp only [List.set_cons_succ, List.set_cons_zero]; rfl
  refine' take_at 10 rfl (by kernel_rfl) (by kernel_rfl) (by kernel_rfl) (fun _ _ _ h => h) (by rfl) hS ?_ ?_ ?_
  rotate_left 2
  · intro W hSW; exact run_loadR rfl rfl (HRq14.out.below hSW).tail.head Try.underlying22 rfl (bytT_info _)
  · simp only [List.set_cons_succ, List.set_cons_zero]; rfl
  refine' take_at 11 rfl (by kernel_rfl) (by kernel_rfl) (by kernel_rfl) (fun _ _ _ h => h) (by rfl) hS ?_ ?_ ?_
  rotate_left 2
  · intro W hSW; exact run_loadR rfl rfl (HRq14.out.below hSW).tail.tail.tail.tail.head Try.underlying22 rfl (arr32_info Hc.out)
  · simp only [List.set_cons_succ, List.set_cons_zero]; rfl
  refine' take_at 12 rfl (by kernel_rfl) (by kernel_rfl) (by kernel_rfl) (fun _ _ _ h => h) (by rfl) hS ?_ ?_ ?_
  rotate_left 2
  · intro W hSW; exact run_loadR rfl rfl (HRq14.out.below hSW).tail.tail.tail.head Try.underlying22 rfl (bytT_info _)
  · simp only [List.set_cons_succ, List.set_cons_zero]; rfl
  refine' take_at 14 rfl (by kernel_rfl) (by kernel_rfl) (by kernel_rfl) (fun _ _ _ h => h) (by rfl) hS ?_ ?_ ?_
  rotate_left 2
  · intro W hSW; exact run_loadR rfl rfl (HRq14.out.below hSW).tail.tail.tail.tail.tail.tail.head Try.underlying22 rfl (arr32_info Ha.out)
  · simp only [List.set_cons_succ, List.set_cons_zero]; rfl
  refine' take_at 15 rfl (by kernel_rfl) (by kernel_rfl) (by kernel_rfl) (fun _ _ _ h => h) (by rfl) hS ?_ ?_ ?_
  rotate_left 2
  · intro W hSW; exact run_loadR rfl rfl (HRq14.out.below hSW).head Try.underlying22 rfl (bytT_info _)
  · simp only [List.set_cons_succ, List.set_cons_zero]; rfl
  refine' take_at 16 rfl (by kernel_rfl) (by kernel_rfl) (by kernel_rfl) (fun _ _ _ h => h) (by rfl) hS ?_ ?_ ?_
  rotate_left 2
  · intro W hSW; exact run_loadR rfl rfl (HRq14.out.below hSW).tail.tail.tail.head Try.underlying22 rfl (bytT_info _)
  · simp only [List.set_cons_succ, List.set_cons_zero]; rfl
  refine call_at 13 rfl (by kernel_rfl) (by rfl) (fun K hK => ?_)
  go_simp
  obtain ⟨n17, hn17⟩ : ∃ x : Nat, (n6 * nc + 0) % LL = x := ⟨_, rfl⟩
  have Hn17 := Lib.hid hn17
  have HLn17 : Hid (n17 < LL) := Lib.hid (by rw [← hn17]; exact Nat.mod_lt _ (by decide))
  clear hn17
  have kq18 := fun W : World => (C.mulAdd (leB 32 n6) c (leB 32 0) (leB_len 32 n6) Hc.out (leB_len 32 0)) W
  rw [byt_fold n6, byt_fold 0, leN_byt HLn6.out, HNc.out, leN_byt (show 0 < LL by decide), Hn17.out] at kq18
  have Kq18 := Lib.hid kq18
  clear kq18
  with_reducible refine (Kq18.out _).mono ?_
  rintro e vq18 ⟨rfl, hbq18⟩
  have kbq18 := below_next kbq16 hbq18
  clear hS hbq18
  refine hK.out _ _ (by exact kbq18) (fun hS => ?_)
  clear hK K
  refine call_at 17 rfl (by kernel_rfl) (by rfl) (fun K hK => ?_)
  go_simp
  obtain ⟨n19, hn19⟩ : ∃ x : Nat, (na * n12 + 0) % LL = x := ⟨_, rfl⟩
  have Hn19 := Lib.hid hn19
  have HLn19 : Hid (n19 < LL) := Lib.hid (by rw [← hn19]; exact Nat.mod_lt _ (by decide))
  clear hn19
  have kq20 := fun W : World => (C.mulAdd a (leB 32 n12) (leB 32 0) Ha.out (leB_len 32 n12) (leB_len 32 0)) W
  rw [byt_fold n12, byt_fold 0, HNa.out, leN_byt HLn12.out, leN_byt (show 0 < LL by decide), Hn19.out] at kq20
  have Kq20 := Lib.hid kq20
  clear kq20
  with_reducible refine (Kq20.out _).mono ?_
  rintro e vq20 ⟨rfl, hbq20⟩
  have kbq20 := below_next kbq18 hbq20
  clear hS hbq20
  refine hK.out _ _ (by exact kbq20) (fun hS => ?_)
  clear hK K
  refine' take_at 18 rfl (by kernel_rfl) (by kernel_rfl) (by kernel_rfl) (fun _ _ _ h => h) (by rfl) hS ?_ ?_ ?_
  rotate_left 2
  · intro W hSW; exact run_eql2 rfl rfl rfl guardB (by rw [show n17 = n19 from (by rw [← Hn17.out, ← Hn19.out, ← Hn6.out, ← Hn12.out]; exact sc_r2 _ _ _)]; exact eqBytT n19 W)
  · simp only [List.set_cons_succ, List.set_cons_zero]; rfl
  refine' take_at 19 rfl (by kernel_rfl) (by kernel_rfl) (by kernel_rfl) (fun _ _ _ h => h) (by rfl) hS ?_ ?_ ?_
  rotate_left 2
  · intro W hSW; go_simp; try with_reducible rfl
  · simp only [List.set_cons_succ, List.set_cons_zero]; rfl
  refine' take_at 20 rfl (by kernel_rfl) (by kernel_rfl) (by kernel_rfl) (fun _ _ _ h => h) (by rfl) hS ?_ ?_ ?_
  rotate_left 2
  · intro W hSW; go_simp; try with_reducible rfl
  · simp only [List.set_cons_succ, List.set_cons_zero]; rfl
  refine' take_at 21 rfl (by kernel_rfl) (by kernel_rfl) (by kernel_rfl) (fun _ _ _ h => h) (by rfl) hS ?_ ?_ ?_
  rotate_left 2
  · intro W hSW; exact run_loadR rfl rfl (HRq14.out.below hSW).tail.tail.tail.tail.tail.tail.head Try.underlying22 rfl (arr32_info Ha.out)
  · simp only [List.set_cons_succ, List.set_cons_zero]; rfl
  refine' take_at 22 rfl (by kernel_rfl) (by kernel_rfl) (by kernel_rfl) (fun _ _ _ h => h) (by rfl) hS ?_ ?_ ?_
  rotate_left 2
  · intro W hSW; exact run_loadR rfl rfl (HRq14.out.below hSW).tail.tail.tail.tail.tail.head Try.underlying22 rfl (arr32_info Hb.out)
  · simp only [List.set_cons_succ, List.set_cons_zero]; rfl
  refine' take_at 23 rfl (by kernel_rfl) (by kernel_rfl) (by kernel_rfl) (fun _ _ _ h => h) (by rfl) hS ?_ ?_ ?_
  rotate_left 2
  · intro W hSW; exact run_loadR rfl rfl (HRq14.out.below hSW).tail.tail.tail.tail.head Try.underlying22 rfl (arr32_info Hc.out)
  · simp only [List.set_cons_succ, List.set_cons_zero]; rfl
  refine' take_at 25 rfl (by kernel_rfl) (by kernel_rfl) (by kernel_rfl) (fun _ _ _ h => h) (by rfl) hS ?_ ?_ ?_
  rotate_left 2
  · intro W hSW; exact run_loadR rfl rfl (HRq14.out.below hSW).tail.tail.tail.head Try.underlying22 rfl (bytT_info _)
  · simp only [List.set_cons_succ, List.set_cons_zero]; rfl
  refine' take_at 27 rfl (by kernel_rfl) (by kernel_rfl) (by kernel_rfl) (fun _ _ _ h => h) (by rfl) hS ?_ ?_ ?_
  rotate_left 2
  · intro W hSW; exact run_loadR rfl rfl (HRq14.out.below hSW).tail.head Try.underlying22 rfl (bytT_info _)
  · simp only [List.set_cons_succ, List.set_cons_zero]; rfl
  refine' take_at 28 rfl (by kernel_rfl) (by kernel_rfl) (by kernel_rfl) (fun _ _ _ h => h) (by rfl) hS ?_ ?_ ?_
  rotate_left 2
  · intro W hSW; exact run_loadR rfl rfl (HRq14.out.below hSW).tail.tail.tail.tail.tail.tail.head Try.underlying22 rfl (arr32_info Ha.out)
  · simp only [List.set_cons_succ, List.set_cons_zero]; rfl
  refine' take_at 29 rfl (by kernel_rfl) (by kernel_rfl) (by kernel_rfl) (fun _ _ _ h => h) (by rfl) hS ?_ ?_ ?_
  rotate_left 2
  · intro W hSW; exact run_loadR rfl rfl (HRq14.out.below hSW).tail.tail.tail.tail.head Try.underlying22 rfl (arr32_info Hc.out)
  · simp only [List.set_cons_succ, List.set_cons_zero]; rfl
  refine' take_at 30 rfl (by kernel_rfl) (by kernel_rfl) (by kernel_rfl) (fun _ _ _ h => h) (by rfl) hS ?_ ?_ ?_
  rotate_left 2
  · intro W hSW; exact run_loadR rfl rfl (HRq14.out.below hSW).tail.tail.tail.head Try.underlying22 rfl (bytT_info _)
  · simp only [List.set_cons_succ, List.set_cons_zero]; rfl
  refine call_at 24 rfl (by kernel_rfl) (by rfl) (fun K hK => ?_)
  go_simp
  obtain ⟨n21, hn21⟩ : ∃ x : Nat, (nb + nc) % LL = x := ⟨_, rfl⟩
  have Hn21 := Lib.hid hn21
  have HLn21 : Hid (n21 < LL) := Lib.hid (by rw [← hn21]; exact Nat.mod_lt _ (by decide))
  clear hn21
  have kq22 := fun W : World => (C.add b c Hb.out Hc.out) W
  rw [HNb.out, HNc.out, Hn21.out] at kq22
  have Kq22 := Lib.hid kq22
  clear kq22
  with_reducible refine (Kq22.out _).mono ?_
  rintro e vq22 ⟨rfl, hbq22⟩
  have kbq22 := below_next kbq20 hbq22
  clear hS hbq22
  refine hK.out _ _ (by exact kbq22) (fun hS => ?_)
  clear hK K
  refine call_at 26 rfl (by kernel_rfl) (by rfl) (fun K hK => ?_)
  go_simp
  obtain ⟨n23, hn23⟩ : ∃ x : Nat, (na * n21 + 0) % LL = x := ⟨_, rfl⟩
  have Hn23 := Lib.hid hn23
  have HLn23 : Hid (n23 < LL) := Lib.hid (by rw [← hn23]; exact Nat.mod_lt _ (by decide))
  clear hn23
  have kq24 := fun W : World => (C.mulAdd a (leB 32 n21) (leB 32 0) Ha.out (leB_len 32 n21) (leB_len 32 0)) W
  rw [byt_fold n21, byt_fold 0, HNa.out, leN_byt HLn21.out, leN_byt (show 0 < LL by decide), Hn23.out] at kq24
  have Kq24 := Lib.hid kq24
  clear kq24
  with_reducible refine (Kq24.out _).mono ?_
  rintro e vq24 ⟨rfl, hbq24⟩
  have kbq24 := below_next kbq22 hbq24
  clear hS hbq24
  refine hK.out _ _ (by exact kbq24) (fun hS => ?_)
  clear hK K
  refine call_at 31 rfl (by kernel_rfl) (by rfl) (fun K hK => ?_)
  go_simp
  obtain ⟨n25, hn25⟩ : ∃ x : Nat, (na * nc + 0) % LL = x := ⟨_, rfl⟩
  have Hn25 := Lib.hid hn25
  have HLn25 : Hid (n25 < LL) := Lib.hid (by rw [← hn25]; exact Nat.mod_lt _ (by decide))
  clear hn25
  have kq26 := fun W : World => (C.mulAdd a c (leB 32 0) Ha.out Hc.out (leB_len 32 0)) W
  rw [byt_fold 0, HNa.out, HNc.out, leN_byt (show 0 < LL by decide), Hn25.out] at kq26
  have Kq26 := Lib.hid kq26
  clear kq26
  with_reducible refine (Kq26.out _).mono ?_
  rintro e vq26 ⟨rfl, hbq26⟩
  have kbq26 := below_next kbq24 hbq26
  clear hS hbq26
  refine hK.out _ _ (by exact kbq26) (fun hS => ?_)
  clear hK K
  refine call_at 32 rfl (by kernel_rfl) (by rfl) (fun K hK => ?_)
  go_simp
  obtain ⟨n27, hn27⟩ : ∃ x : Nat, (n6 + n25) % LL = x := ⟨_, rfl⟩
  have Hn27 := Lib.hid hn27
  have HLn27 : Hid (n27 < LL) := Lib.hid (by rw [← hn27]; exact Nat.mod_lt _ (by decide))
  clear hn27
  have kq28 := fun W : World => (C.add (leB 32 n6) (leB 32 n25) (leB_len 32 n6) (leB_len 32 n25)) W
  rw [byt_fold n6, byt_fold n25, leN_byt HLn6.out, leN_byt HLn25.out, Hn27.out] at kq28
  have Kq28 := Lib.hid kq28
  clear kq28
  with_reducible refine (Kq28.out _).mono ?_
  rintro e vq28 ⟨rfl, hbq28⟩
  have kbq28 := below_next kbq26 hbq28
  clear hS hbq28
  refine hK.out _ _ (by exact kbq28) (fun hS => ?_)
  clear hK K
  refine' take_at 33 rfl (by kernel_rfl) (by kernel_rfl) (by kernel_rfl) (fun _ _ _ h => h) (by rfl) hS ?_ ?_ ?_
  rotate_left 2
  · intro W hSW; exact run_eql2 rfl rfl rfl guardB (by rw [show n23 = n27 from (by rw [← Hn23.out, ← Hn27.out, ← Hn21.out, ← Hn6.out, ← Hn25.out]; exact sc_r3 _ _ _)]; exact eqBytT n27 W)
  · simp only [List.set_cons_succ, List.set_cons_zero]; rfl
  refine' take_at 34 rfl (by kernel_rfl) (by kernel_rfl) (by kernel_rfl) (fun _ _ _ h => h) (by rfl) hS ?_ ?_ ?_
  rotate_left 2
  · intro W hSW; go_simp; try with_reducible rfl
  · simp only [List.set_cons_succ, List.set_cons_zero]; rfl
  refine' take_at 35 rfl (by kernel_rfl) (by kernel_rfl) (by kernel_rfl) (fun _ _ _ h => h) (by rfl) hS ?_ ?_ ?_
  rotate_left 2
  · intro W hSW; go_simp; try with_reducible rfl
  · simp only [List.set_cons_succ, List.set_cons_zero]; rfl
  refine' take_at 36 rfl (by kernel_rfl) (by kernel_rfl) (by kernel_rfl) (fun _ _ _ h => h) (by rfl) hS ?_ ?_ ?_
  rotate_left 2
  · intro W hSW; exact run_loadR rfl rfl (HRq14.out.below hSW).tail.tail.tail.tail.tail.tail.head Try.underlying22 rfl (arr32_info Ha.out)
  · simp only [List.set_cons_succ, List.set_cons_zero]; rfl
  refine' take_at 37 rfl (by kernel_rfl) (by kernel_rfl) (by kernel_rfl) (fun _ _ _ h => h) (by rfl) hS ?_ ?_ ?_
  rotate_left 2
  · intro W hSW; exact run_loadR rfl rfl (HRq14.out.below hSW).tail.tail.head Try.underlying22 rfl (bytT_info _)
  · simp only [List.set_cons_succ, List.set_cons_zero]; rfl
  refine' take_at 38 rfl (by kernel_rfl) (by kernel_rfl) (by kernel_rfl) (fun _ _ _ h => h) (by rfl) hS ?_ ?_ ?_
  rotate_left 2
  · intro W hSW; exact run_loadR rfl rfl (HRq14.out.below hSW).tail.tail.tail.tail.tail.head Try.underlying22 rfl (arr32_info Hb.out)
  · simp only [List.set_cons_succ, List.set_cons_zero]; rfl
  refine' take_at 40 rfl (by kernel_rfl) (by kernel_rfl) (by kernel_rfl) (fun _ _ _ h => h) (by rfl) hS ?_ ?_ ?_
  rotate_left 2
  · intro W hSW; exact run_loadR rfl rfl (HRq14.out.below hSW).tail.tail.tail.tail.tail.tail.head Try.underlying22 rfl (arr32_info Ha.out)
  · simp only [List.set_cons_succ, List.set_cons_zero]; rfl
  refine' take_at 41 rfl (by kernel_rfl) (by kernel_rfl) (by kernel_rfl) (fun _ _ _ h => h) (by rfl) hS ?_ ?_ ?_
  rotate_left 2
  · intro W hSW; exact run_loadR rfl rfl (HRq14.out.below hSW).tail.tail.tail.tail.tail.head Try.underlying22 rfl (arr32_info Hb.out)
  · simp only [List.set_cons_succ, List.set_cons_zero]; rfl
  refine call_at 39 rfl (by kernel_rfl) (by rfl) (fun K hK => ?_)
  go_simp
  obtain ⟨n29, hn29⟩ : ∃ x : Nat, (na * 1 + nb) % LL = x := ⟨_, rfl⟩
  have Hn29 := Lib.hid hn29
  have HLn29 : Hid (n29 < LL) := Lib.hid (by rw [← hn29]; exact Nat.mod_lt _ (by decide))
  clear hn29
  have kq30 := fun W : World => (C.mulAdd a (leB 32 1) b Ha.out (leB_len 32 1) Hb.out) W
  rw [byt_fold 1, HNa.out, leN_byt (show 1 < LL by decide), HNb.out, Hn29.out] at kq30
  have Kq30 := Lib.hid kq30
  clear kq30
  with_reducible refine (Kq30.out _).mono ?_
  rintro e vq30 ⟨rfl, hbq30⟩
  have kbq30 := below_next kbq28 hbq30
  clear hS hbq30
  refine hK.out _ _ (by exact kbq30) (fun hS => ?_)
  clear hK K
  refine call_at 42 rfl (by kernel_rfl) (by rfl) (fun K hK => ?_)
  go_simp
  obtain ⟨n31, hn31⟩ : ∃ x : Nat, (na + nb) % LL = x := ⟨_, rfl⟩
  have Hn31 := Lib.hid hn31
  have HLn31 : Hid (n31 < LL) := Lib.hid (by rw [← hn31]; exact Nat.mod_lt _ (by decide))
  clear hn31
  have kq32 := fun W : World => (C.add a b Ha.out Hb.out) W
  rw [HNa.out, HNb.out, Hn31.out] at kq32
  have Kq32 := Lib.hid kq32
  clear kq32
  with_reducible refine (Kq32.out _).mono ?_
  rintro e vq32 ⟨rfl, hbq32⟩
  have kbq32 := below_next kbq30 hbq32
  clear hS hbq32
  refine hK.out _ _ (by exact kbq32) (fun hS => ?_)
  clear hK K
  refine' take_at 43 rfl (by kernel_rfl) (by kernel_rfl) (by kernel_rfl) (fun _ _ _ h => h) (by rfl) hS ?_ ?_ ?_
  rotate_left 2
  · intro W hSW; exact run_eql2 rfl rfl rfl guardB (by rw [show n29 = n31 from (by rw [← Hn29.out, ← Hn31.out]; exact sc_r4 _ _)]; exact eqBytT n31 W)
  · simp only [List.set_cons_succ, List.set_cons_zero]; rfl
  refine' take_at 44 rfl (by kernel_rfl) (by kernel_rfl) (by kernel_rfl) (fun _ _ _ h => h) (by rfl) hS ?_ ?_ ?_
  rotate_left 2
  · intro W hSW; go_simp; try with_reducible rfl
  · simp only [List.set_cons_succ, List.set_cons_zero]; rfl
  refine' take_at 45 rfl (by kernel_rfl) (by kernel_rfl) (by kernel_rfl) (fun _ _ _ h => h) (by rfl) hS ?_ ?_ ?_
  rotate_left 2
  · intro W hSW; go_simp; try with_reducible rfl
  · simp only [List.set_cons_succ, List.set_cons_zero]; rfl
  refine' take_at 46 rfl (by kernel_rfl) (by kernel_rfl) (by kernel_rfl) (fun _ _ _ h => h) (by rfl) hS ?_ ?_ ?_
  rotate_left 2
  · intro W hSW; exact run_loadR rfl rfl (HRq14.out.below hSW).tail.tail.tail.tail.tail.tail.head Try.underlying22 rfl (arr32_info Ha.out)
  · simp only [List.set_cons_succ, List.set_cons_zero]; rfl
  refine' take_at 47 rfl (by kernel_rfl) (by kernel_rfl) (by kernel_rfl) (fun _ _ _ h => h) (by rfl) hS ?_ ?_ ?_
  rotate_left 2
  · intro W hSW; exact run_loadR rfl rfl (HRq14.out.below hSW).tail.tail.tail.tail.tail.head Try.underlying22 rfl (arr32_info Hb.out)
  · simp only [List.set_cons_succ, List.set_cons_zero]; rfl
  refine' take_at 48 rfl (by kernel_rfl) (by kernel_rfl) (by kernel_rfl) (fun _ _ _ h => h) (by rfl) hS ?_ ?_ ?_
  rotate_left 2
  · intro W hSW; exact run_loadR rfl rfl (HRq14.out.below hSW).tail.tail.tail.tail.head Try.underlying22 rfl (arr32_info Hc.out)
  · simp only [List.set_cons_succ, List.set_cons_zero]; rfl
  refine' take_at 50 rfl (by kernel_rfl) (by kernel_rfl) (by kernel_rfl) (fun _ _ _ h => h) (by rfl) hS ?_ ?_ ?_
  rotate_left 2
  · intro W hSW; exact run_loadR rfl rfl (HRq14.out.below hSW).tail.head Try.underlying22 rfl (bytT_info _)
  · simp only [List.set_cons_succ, List.set_cons_zero]; rfl
  refine' take_at 51 rfl (by kernel_rfl) (by kernel_rfl) (by kernel_rfl) (fun _ _ _ h => h) (by rfl) hS ?_ ?_ ?_
  rotate_left 2
  · intro W hSW; exact run_loadR rfl rfl (HRq14.out.below hSW).tail.tail.tail.tail.head Try.underlying22 rfl (arr32_info Hc.out)
  · simp only [List.set_cons_succ, List.set_cons_zero]; rfl
  refine call_at 49 rfl (by kernel_rfl) (by rfl) (fun K hK => ?_)
  go_simp
  obtain ⟨n33, hn33⟩ : ∃ x : Nat, (na * nb + nc) % LL = x := ⟨_, rfl⟩
  have Hn33 := Lib.hid hn33
  have HLn33 : Hid (n33 < LL) := Lib.hid (by rw [← hn33]; exact Nat.mod_lt _ (by decide))
  clear hn33
  have kq34 := fun W : World => (C.mulAdd a b c Ha.out Hb.out Hc.out) W
  rw [HNa.out, HNb.out, HNc.out, Hn33.out] at kq34
  have Kq34 := Lib.hid kq34
  clear kq34
  with_reducible refine (Kq34.out _).mono ?_
  rintro e vq34 ⟨rfl, hbq34⟩
  have kbq34 := below_next kbq32 hbq34
  clear hS hbq34
  refine hK.out _ _ (by exact kbq34) (fun hS => ?_)
  clear hK K
  refine call_at 52 rfl (by kernel_rfl) (by rfl) (fun K hK => ?_)
  go_simp
  obtain ⟨n35, hn35⟩ : ∃ x : Nat, (n6 + nc) % LL = x := ⟨_, rfl⟩
  have Hn35 := Lib.hid hn35
  have HLn35 : Hid (n35 < LL) := Lib.hid (by rw [← hn35]; exact Nat.mod_lt _ (by decide))
  clear hn35
  have kq36 := fun W : World => (C.add (leB 32 n6) c (leB_len 32 n6) Hc.out) W
  rw [byt_fold n6, leN_byt HLn6.out, HNc.out, Hn35.out] at kq36
  have Kq36 := Lib.hid kq36
  clear kq36
  with_reducible refine (Kq36.out _).mono ?_
  rintro e vq36 ⟨rfl, hbq36⟩
  have kbq36 := below_next kbq34 hbq36
  clear hS hbq36
  refine hK.out _ _ (by exact kbq36) (fun hS => ?_)
  clear hK K
  refine' take_at 53 rfl (by kernel_rfl) (by kernel_rfl) (by kernel_rfl) (fun _ _ _ h => h) (by rfl) hS ?_ ?_ ?_
  rotate_left 2
  · intro W hSW; exact run_eql2 rfl rfl rfl guardB (by rw [show n33 = n35 from (by rw [← Hn33.out, ← Hn35.out, ← Hn6.out]; exact sc_r5 _ _ _)]; exact eqBytT n35 W)
  · simp only [List.set_cons_succ, List.set_cons_zero]; rfl
  refine' take_at 54 rfl (by kernel_rfl) (by kernel_rfl) (by kernel_rfl) (fun _ _ _ h => h) (by rfl) hS ?_ ?_ ?_
  rotate_left 2
  · intro W hSW; go_simp; try with_reducible rfl
  · simp only [List.set_cons_succ, List.set_cons_zero]; rfl
  refine' take_at 55 rfl (by kernel_rfl) (by kernel_rfl) (by kernel_rfl) (fun _ _ _ h => h) (by rfl) hS ?_ ?_ ?_
  rotate_left 2
  · intro W hSW; go_simp; try with_reducible rfl
  · simp only [List.set_cons_succ, List.set_cons_zero]; rfl
  refine' take_at 56 rfl (by kernel_rfl) (by kernel_rfl) (by kernel_rfl) (fun _ _ _ h => h) (by rfl) hS ?_ ?_ ?_
  rotate_left 2
  · intro W hSW; exact run_loadR rfl rfl (HRq14.out.below hSW).tail.tail.tail.tail.tail.tail.head Try.underlying22 rfl (arr32_info Ha.out)
  · simp only [List.set_cons_succ, List.set_cons_zero]; rfl
  refine' take_at 57 rfl (by kernel_rfl) (by kernel_rfl) (by kernel_rfl) (fun _ _ _ h => h) (by rfl) hS ?_ ?_ ?_
  rotate_left 2
  · intro W hSW; exact run_loadR rfl rfl (HRq14.out.below hSW).tail.tail.tail.head Try.underlying22 rfl (bytT_info _)
  · simp only [List.set_cons_succ, List.set_cons_zero]; rfl
  refine' take_at 59 rfl (by kernel_rfl) (by kernel_rfl) (by kernel_rfl) (fun _ _ _ h => h) (by rfl) hS ?_ ?_ ?_
  rotate_left 2
  · intro W hSW; exact run_loadR rfl rfl (HRq14.out.below hSW).tail.tail.tail.tail.tail.tail.head Try.underlying22 rfl (arr32_info Ha.out)
  · simp only [List.set_cons_succ, List.set_cons_zero]; rfl
  refine' take_at 60 rfl (by kernel_rfl) (by kernel_rfl) (by kernel_rfl) (fun _ _ _ h => h) (by rfl) hS ?_ ?_ ?_
  rotate_left 2
  · intro W hSW; exact run_loadR rfl rfl (HRq14.out.below hSW).tail.tail.tail.head Try.underlying22 rfl (bytT_info _)
  · simp only [List.set_cons_succ, List.set_cons_zero]; rfl
  refine call_at 58 rfl (by kernel_rfl) (by rfl) (fun K hK => ?_)
  go_simp
  obtain ⟨n37, hn37⟩ : ∃ x : Nat, (na + 0) % LL = x := ⟨_, rfl⟩
  have Hn37 := Lib.hid hn37
  have HLn37 : Hid (n37 < LL) := Lib.hid (by rw [← hn37]; exact Nat.mod_lt _ (by decide))
  clear hn37
  have kq38 := fun W : World => (C.add a (leB 32 0) Ha.out (leB_len 32 0)) W
  rw [byt_fold 0, HNa.out, leN_byt (show 0 < LL by decide), Hn37.out] at kq38
  have Kq38 := Lib.hid kq38
  clear kq38
  with_reducible refine (Kq38.out _).mono ?_
  rintro e vq38 ⟨rfl, hbq38⟩
  have kbq38 := below_next kbq36 hbq38
  clear hS hbq38
  refine hK.out _ _ (by exact kbq38) (fun hS => ?_)
  clear hK K
  refine call_at 61 rfl (by kernel_rfl) (by rfl) (fun K hK => ?_)
  go_simp
  have kq39 := fun W : World => (wide11_any a (leB 32 0) Ha.out (leB_len 32 0)) W
  rw [byt_fold 0] at kq39
  have Kq39 := Lib.hid kq39
  clear kq39
  with_reducible refine (Kq39.out _).mono ?_
  rintro e vq39 ⟨rfl, hbq39⟩
  have kbq39 := below_next kbq38 hbq39
  clear hS hbq39
  refine hK.out _ _ (by exact kbq39) (fun hS => ?_)
  clear hK K
  refine call_at 62 rfl (by kernel_rfl) (by rfl) (fun K hK => ?_)
  go_simp
  obtain ⟨n40, hn40⟩ : ∃ x : Nat, (na + 256 ^ 32 * 0) % LL = x := ⟨_, rfl⟩
  have Hn40 := Lib.hid hn40
  have HLn40 : Hid (n40 < LL) := Lib.hid (by rw [← hn40]; exact Nat.mod_lt _ (by decide))
  clear hn40
  have kq41 := fun W : World => (C.reduce (a ++ (leB 32 0)) (app64 Ha.out (leB_len 32 0))) W
  rw [leN_app, Ha.out, HNa.out, leN_byt (show 0 < LL by decide), Hn40.out] at kq41
  have Kq41 := Lib.hid kq41
  clear kq41
  with_reducible refine (Kq41.out _).mono ?_
  rintro e vq41 ⟨rfl, hbq41⟩
  have kbq41 := below_next kbq39 hbq41
  clear hS hbq41
  refine hK.out _ _ (by exact kbq41) (fun hS => ?_)
  clear hK K
  refine' take_at 63 rfl (by kernel_rfl) (by kernel_rfl) (by kernel_rfl) (fun _ _ _ h => h) (by rfl) hS ?_ ?_ ?_
  rotate_left 2
  · intro W hSW; exact run_eql2 rfl rfl rfl guardB (by rw [show n37 = n40 from (by (rw [← Hn37.out, ← Hn40.out]) <;> exact sc_r6 _)]; exact eqBytT n40 W)
  · simp only [List.set_cons_succ, List.set_cons_zero]; rfl
  refine' take_at 64 rfl (by kernel_rfl) (by kernel_rfl) (by kernel_rfl) (fun _ _ _ h => h) (by rfl) hS ?_ ?_ ?_
  rotate_left 2
  · intro W hSW; go_simp; try with_reducible rfl
  · simp only [List.set_cons_succ, List.set_cons_zero]; rfl
  refine' take_at 65 rfl (by kernel_rfl) (by kernel_rfl) (by kernel_rfl) (fun _ _ _ h => h) (by rfl) hS ?_ ?_ ?_
  rotate_left 2
  · intro W hSW; go_simp; try with_reducible rfl
  · simp only [List.set_cons_succ, List.set_cons_zero]; rfl
  refine wpAnyH_done (by kernel_rfl) ?_ _
  refine NoPanic.normal ?_
  clear hS
  (try simp only [Act.put])
  have HRq42 := Lib.hid (HRq14.out.below kbq41)
  have HBq42 := Lib.hid (below_next HBq14.out kbq41)
  go_wp2_with fail
  go_ret
  exact ⟨rfl, HBq42.out⟩
end Go.Proofs.Ytmmfbbbljhifjaa

