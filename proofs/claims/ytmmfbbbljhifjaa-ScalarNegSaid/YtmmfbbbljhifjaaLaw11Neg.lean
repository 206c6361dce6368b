/- The walk of ScalarNeg. Written by wip/tools. -/
import Derived.Test.YtmmfbbbljhifjaaLaw11Tells
namespace Go.Proofs.Ytmmfbbbljhifjaa
open Go.RowKit
set_option linter.unusedVariables false
set_option maxRecDepth 100000

theorem sc_neg1 (x : Nat) : (x + (LL - x % LL) % LL) % LL = 0 := by unfold LL; omega
theorem sc_neg2 (x : Nat) : (LL - (LL - x % LL) % LL % LL) % LL = (x + 0) % LL := by unfold LL; omega
theorem sc_ord (x : Nat) : (x + LL) % LL = (x + 0) % LL := by unfold LL; omega

set_option maxHeartbeats 6400000 in
theorem law11Neg (C : ScC) (a : List UInt8) (ha : a.length = 32) (b : List UInt8) (hb : b.length = 32) (w : World) : Calls Try.prog 5 #[.agg (arrB a), .agg (arrB b)] w fun e w' => e = .returned (.bool true) ∧ Below w.heap.size w w' := by
  have HAL : Hid (∀ W : World, Calls Try.prog 8 #[] W fun e w' => e = .returned (.bool true) ∧ Below W.heap.size W w') := Lib.hid (fun W => alive11_any C W)
  have hz32 : ∀ u, (zeroValue 22).run Try.prog u = .ok (.agg (bytT 0)) u := fun u => zero32_zero u
  have Ha := Lib.hid ha
  have Hb := Lib.hid hb
  clear ha hb
  go_enter Try.func5, Try.ntmps5
  go_wp2_with fail
  have HR0 := Lib.hid (((RowsW.nil w).box (arrB a) 22).box (arrB b) 22)
  have HB0 := Lib.hid (below_box (below_box (Below.refl w.heap.size w) (arrB a) 22) (arrB b) 22)
  rw [World.size_alloc] at HR0
  obtain ⟨W0, hW0⟩ : ∃ W, ((w.alloc (.cells (arrB a) 22)).alloc (.cells (arrB b) 22)) = W := ⟨_, rfl⟩
  obtain ⟨g0, hg0⟩ : ∃ g, w.heap.size = g := ⟨_, rfl⟩
  rw [hW0] at HR0 HB0
  rw [hg0] at HR0
  rw [hW0, hg0]
  have HG0 := Lib.hid hg0
  clear hW0 hg0
  obtain ⟨na, hna⟩ : ∃ x : Nat, leN a = x := ⟨_, rfl⟩
  have HNa := Lib.hid hna
  clear hna
  obtain ⟨nb, hnb⟩ : ∃ x : Nat, leN b = x := ⟨_, rfl⟩
  have HNb := Lib.hid hnb
  clear hnb
  with_reducible refine (HAL.out _).mono ?_
  rintro e v1 ⟨rfl, hb1⟩
  have HR1 := Lib.hid (HR0.out.below hb1)
  have HB1 := Lib.hid (below_next HB0.out hb1)
  clear hb1
  go_upto_region 2 with fail
  have l1 := HR1.out.tail.head
  go_wp2_with (refine wpList_load_row rfl 22 (.tmp 2) rfl g0 rfl 22 (arrB a) (0, 0) _ l1 Try.underlying22 rfl (arr32_info Ha.out) ?_)
  obtain ⟨n2, hn2⟩ : ∃ x : Nat, (LL - na % LL) % LL = x := ⟨_, rfl⟩
  have Hn2 := Lib.hid hn2
  have HLn2 : Hid (n2 < LL) := Lib.hid (by rw [← hn2]; exact Nat.mod_lt _ (by decide))
  clear hn2
  have kq3 := fun W : World => (C.neg a Ha.out) W
  rw [HNa.out, Hn2.out] at kq3
  have Kq3 := Lib.hid kq3
  clear kq3
  with_reducible refine (Kq3.out _).mono ?_
  rintro e vq3 ⟨rfl, hbq3⟩
  have HRq3 := Lib.hid (HR1.out.below hbq3)
  have HBq3 := Lib.hid (below_next HB1.out hbq3)
  clear hbq3
  have h0q4 : (vq3.alloc (.cells (bytT 0) 22)).heap[vq3.heap.size]? = some (.cells (bytT 0) 22 (0, 0)) := heap_alloc_new _ _
  have HRq4 := Lib.hid (HRq3.out.new (bytT 0) (bytT n2) 22)
  have HBq4 := Lib.hid (below_new HBq3.out (bytT 0) (bytT n2) 22)
  have HNq4 := Lib.hid HRq3.out.ne
  have HGq4 := Lib.hid HBq3.out.size
  go_upto_region 3 with (refine wpList_store_row rfl 22 (.tmp 6) (.tmp 9) rfl vq3.heap.size (bytT n2) rfl rfl 22 (bytT 0) h0q4 (bytT_info _) (byt_size 0 n2) (bytT_one _) ?_)
  obtain ⟨Wq4, hWq4⟩ : ∃ W, (vq3.alloc (.cells (bytT 0) 22)).setRow vq3.heap.size (bytT n2) = W := ⟨_, rfl⟩
  obtain ⟨gq4, hgq4⟩ : ∃ g, vq3.heap.size = g := ⟨_, rfl⟩
  rw [hWq4, hgq4] at HRq4
  rw [hWq4] at HBq4
  rw [hgq4] at HNq4 HGq4
  rw [hWq4, hgq4]
  clear hWq4 hgq4 h0q4
  have NEq4_0 : Hid (g0 ≠ gq4) := Lib.hid (HNq4.out (g0, (arrB a), 22) (by simp))
  have NEq4_1 : Hid ((g0 + 1) ≠ gq4) := Lib.hid (HNq4.out ((g0 + 1), (arrB b), 22) (by simp))
  refine wp_region_noPanic ?_
  refine wp_region_held_drew (S := fun W => Below Wq4.heap.size Wq4 W) (by kernel_rfl) (by exact (Below.refl _ _).drew) (fun hS => ?_)
  refine' take_at 0 rfl (by kernel_rfl) (by kernel_rfl) (by kernel_rfl) (fun _ _ _ h => h) (by rfl) hS ?_ ?_ ?_
  rotate_left 2
  · intro W hSW; go_simp; try with_reducible rfl
  · simp only [List.set_cons_succ, List.set_cons_zero]; rfl
  refine' take_at 1 rfl (by kernel_rfl) (by kernel_rfl) (by kernel_rfl) (fun _ _ _ h => h) (by rfl) hS ?_ ?_ ?_
  rotate_left 2
  · intro W hSW; go_simp; try with_reducible rfl
  · simp only [List.set_cons_succ, List.set_cons_zero]; rfl
  refine' take_at 2 rfl (by kernel_rfl) (by kernel_rfl) (by kernel_rfl) (fun _ _ _ h => h) (by rfl) hS ?_ ?_ ?_
  rotate_left 2
  · intro W hSW; exact run_loadR rfl rfl (HRq4.out.below hSW).tail.tail.head Try.underlying22 rfl (arr32_info Ha.out)
  · simp only [List.set_cons_succ, List.set_cons_zero]; rfl
  refine' take_at 3 rfl (by kernel_rfl) (by kernel_rfl) (by kernel_rfl) (fun _ _ _ h => h) (by rfl) hS ?_ ?_ ?_
  rotate_left 2
  · intro W hSW; exact run_loadR rfl rfl (HRq4.out.below hSW).head Try.underlying22 rfl (bytT_info _)
  · simp only [List.set_cons_succ, List.set_cons_zero]; rfl
  refine' take_at 5 rfl (by kernel_rfl) (by kernel_rfl) (by kernel_rfl) (fun _ _ _ h => h) (by rfl) hS ?_ ?_ ?_
  rotate_left 2
  · intro W hSW; exact run_build0 rfl W
  · simp only [List.set_cons_succ, List.set_cons_zero]; rfl
  refine call_at 4 rfl (by kernel_rfl) (by rfl) (fun K hK => ?_)
  go_simp
  obtain ⟨n5, hn5⟩ : ∃ x : Nat, (na + n2) % LL = x := ⟨_, rfl⟩
  have Hn5 := Lib.hid hn5
  have HLn5 : Hid (n5 < LL) := Lib.hid (by rw [← hn5]; exact Nat.mod_lt _ (by decide))
  clear hn5
  have kq6 := fun W : World => (C.add a (leB 32 n2) Ha.out (leB_len 32 n2)) W
  rw [byt_fold n2, HNa.out, leN_byt HLn2.out, Hn5.out] at kq6
  have Kq6 := Lib.hid kq6
  clear kq6
  with_reducible refine (Kq6.out _).mono ?_
  rintro e vq6 ⟨rfl, hbq6⟩
  have kbq6 := below_next hS hbq6
  clear hS hbq6
  refine hK.out _ _ (by exact kbq6) (fun hS => ?_)
  clear hK K
  refine' take_at 6 rfl (by kernel_rfl) (by kernel_rfl) (by kernel_rfl) (fun _ _ _ h => h) (by rfl) hS ?_ ?_ ?_
  rotate_left 2
  · intro W hSW; exact run_eql2 rfl rfl rfl guardB (by rw [show n5 = 0 from (by rw [← Hn5.out, ← Hn2.out]; exact sc_neg1 _)]; exact eqBytT 0 W)
  · simp only [List.set_cons_succ, List.set_cons_zero]; rfl
  refine' take_at 7 rfl (by kernel_rfl) (by kernel_rfl) (by kernel_rfl) (fun _ _ _ h => h) (by rfl) hS ?_ ?_ ?_
  rotate_left 2
  · intro W hSW; go_simp; try with_reducible rfl
  · simp only [List.set_cons_succ, List.set_cons_zero]; rfl
  refine' take_at 8 rfl (by kernel_rfl) (by kernel_rfl) (by kernel_rfl) (fun _ _ _ h => h) (by rfl) hS ?_ ?_ ?_
  rotate_left 2
  · intro W hSW; go_simp; try with_reducible rfl
  · simp only [List.set_cons_succ, List.set_cons_zero]; rfl
  refine' take_at 9 rfl (by kernel_rfl) (by kernel_rfl) (by kernel_rfl) (fun _ _ _ h => h) (by rfl) hS ?_ ?_ ?_
  rotate_left 2
  · intro W hSW; exact run_loadR rfl rfl (HRq4.out.below hSW).head Try.underlying22 rfl (bytT_info _)
  · simp only [List.set_cons_succ, List.set_cons_zero]; rfl
  refine call_at 10 rfl (by kernel_rfl) (by rfl) (fun K hK => ?_)
  go_simp
  have kq7 := fun W : World => (C.can (leB 32 n2) (leB_len 32 n2)) W
  rw [byt_fold n2, leN_byt HLn2.out, decide_eq_true HLn2.out] at kq7
  have Kq7 := Lib.hid kq7
  clear kq7
  with_reducible refine (Kq7.out _).mono ?_
  rintro e vq7 ⟨rfl, hbq7⟩
  have kbq7 := below_next kbq6 hbq7
  clear hS hbq7
  refine hK.out _ _ (by exact kbq7) (fun hS => ?_)
  clear hK K
  refine' take_at 11 rfl (by kernel_rfl) (by kernel_rfl) (by kernel_rfl) (fun _ _ _ h => h) (by rfl) hS ?_ ?_ ?_
  rotate_left 2
  · intro W hSW; go_simp; try with_reducible rfl
  · simp only [List.set_cons_succ, List.set_cons_zero]; rfl
  refine' take_at 12 rfl (by kernel_rfl) (by kernel_rfl) (by kernel_rfl) (fun _ _ _ h => h) (by rfl) hS ?_ ?_ ?_
  rotate_left 2
  · intro W hSW; go_simp; try with_reducible rfl
  · simp only [List.set_cons_succ, List.set_cons_zero]; rfl
  refine' take_at 13 rfl (by kernel_rfl) (by kernel_rfl) (by kernel_rfl) (fun _ _ _ h => h) (by rfl) hS ?_ ?_ ?_
  rotate_left 2
  · intro W hSW; exact run_loadR rfl rfl (HRq4.out.below hSW).tail.tail.head Try.underlying22 rfl (arr32_info Ha.out)
  · simp only [List.set_cons_succ, List.set_cons_zero]; rfl
  refine' take_at 14 rfl (by kernel_rfl) (by kernel_rfl) (by kernel_rfl) (fun _ _ _ h => h) (by rfl) hS ?_ ?_ ?_
  rotate_left 2
  · intro W hSW; exact run_loadR rfl rfl (HRq4.out.below hSW).tail.head Try.underlying22 rfl (arr32_info Hb.out)
  · simp only [List.set_cons_succ, List.set_cons_zero]; rfl
  refine call_at 15 rfl (by kernel_rfl) (by rfl) (fun K hK => ?_)
  go_simp
  obtain ⟨n8, hn8⟩ : ∃ x : Nat, (na + nb) % LL = x := ⟨_, rfl⟩
  have Hn8 := Lib.hid hn8
  have HLn8 : Hid (n8 < LL) := Lib.hid (by rw [← hn8]; exact Nat.mod_lt _ (by decide))
  clear hn8
  have kq9 := fun W : World => (C.add a b Ha.out Hb.out) W
  rw [HNa.out, HNb.out, Hn8.out] at kq9
  have Kq9 := Lib.hid kq9
  clear kq9
  with_reducible refine (Kq9.out _).mono ?_
  rintro e vq9 ⟨rfl, hbq9⟩
  have kbq9 := below_next kbq7 hbq9
  clear hS hbq9
  refine hK.out _ _ (by exact kbq9) (fun hS => ?_)
  clear hK K
  refine call_at 16 rfl (by kernel_rfl) (by rfl) (fun K hK => ?_)
  go_simp
  have kq10 := fun W : World => (C.can (leB 32 n8) (leB_len 32 n8)) W
  rw [byt_fold n8, leN_byt HLn8.out, decide_eq_true HLn8.out] at kq10
  have Kq10 := Lib.hid kq10
  clear kq10
  with_reducible refine (Kq10.out _).mono ?_
  rintro e vq10 ⟨rfl, hbq10⟩
  have kbq10 := below_next kbq9 hbq10
  clear hS hbq10
  refine hK.out _ _ (by exact kbq10) (fun hS => ?_)
  clear hK K
  refine' take_at 17 rfl (by kernel_rfl) (by kernel_rfl) (by kernel_rfl) (fun _ _ _ h => h) (by rfl) hS ?_ ?_ ?_
  rotate_left 2
  · intro W hSW; go_simp; try with_reducible rfl
  · simp only [List.set_cons_succ, List.set_cons_zero]; rfl
  refine' take_at 18 rfl (by kernel_rfl) (by kernel_rfl) (by kernel_rfl) (fun _ _ _ h => h) (by rfl) hS ?_ ?_ ?_
  rotate_left 2
  · intro W hSW; go_simp; try with_reducible rfl
  · simp only [List.set_cons_succ, List.set_cons_zero]; rfl
  refine' take_at 19 rfl (by kernel_rfl) (by kernel_rfl) (by kernel_rfl) (fun _ _ _ h => h) (by rfl) hS ?_ ?_ ?_
  rotate_left 2
  · intro W hSW; exact run_loadR rfl rfl (HRq4.out.below hSW).tail.tail.head Try.underlying22 rfl (arr32_info Ha.out)
  · simp only [List.set_cons_succ, List.set_cons_zero]; rfl
  refine' take_at 20 rfl (by kernel_rfl) (by kernel_rfl) (by kernel_rfl) (fun _ _ _ h => h) (by rfl) hS ?_ ?_ ?_
  rotate_left 2
  · intro W hSW; exact run_loadR rfl rfl (HRq4.out.below hSW).tail.head Try.underlying22 rfl (arr32_info Hb.out)
  · simp only [List.set_cons_succ, List.set_cons_zero]; rfl
  refine' take_at 21 rfl (by kernel_rfl) (by kernel_rfl) (by kernel_rfl) (fun _ _ _ h => h) (by rfl) hS ?_ ?_ ?_
  rotate_left 2
  · intro W hSW; exact run_loadR rfl rfl (HRq4.out.below hSW).tail.tail.head Try.underlying22 rfl (arr32_info Ha.out)
  · simp only [List.set_cons_succ, List.set_cons_zero]; rfl
  refine call_at 22 rfl (by kernel_rfl) (by rfl) (fun K hK => ?_)
  go_simp
  obtain ⟨n11, hn11⟩ : ∃ x : Nat, (na * nb + na) % LL = x := ⟨_, rfl⟩
  have Hn11 := Lib.hid hn11
  have HLn11 : Hid (n11 < LL) := Lib.hid (by rw [← hn11]; exact Nat.mod_lt _ (by decide))
  clear hn11
  have kq12 := fun W : World => (C.mulAdd a b a Ha.out Hb.out Ha.out) W
  rw [HNa.out, HNb.out, Hn11.out] at kq12
  have Kq12 := Lib.hid kq12
  clear kq12
  with_reducible refine (Kq12.out _).mono ?_
  rintro e vq12 ⟨rfl, hbq12⟩
  have kbq12 := below_next kbq10 hbq12
  clear hS hbq12
  refine hK.out _ _ (by exact kbq12) (fun hS => ?_)
  clear hK K
  refine call_at 23 rfl (by kernel_rfl) (by rfl) (fun K hK => ?_)
  go_simp
  have kq13 := fun W : World => (C.can (leB 32 n11) (leB_len 32 n11)) W
  rw [byt_fold n11, leN_byt HLn11.out, decide_eq_true HLn11.out] at kq13
  have Kq13 := Lib.hid kq13
  clear kq13
  with_reducible refine (Kq13.out _).mono ?_
  rintro e vq13 ⟨rfl, hbq13⟩
  have kbq13 := below_next kbq12 hbq13
  clear hS hbq13
  refine hK.out _ _ (by exact kbq13) (fun hS => ?_)
  clear hK K
  refine' take_at 24 rfl (by kernel_rfl) (by kernel_rfl) (by kernel_rfl) (fun _ _ _ h => h) (by rfl) hS ?_ ?_ ?_
  rotate_left 2
  · intro W hSW; go_simp; try with_reducible rfl
  · simp only [List.set_cons_succ, List.set_cons_zero]; rfl
  refine' take_at 25 rfl (by kernel_rfl) (by kernel_rfl) (by kernel_rfl) (fun _ _ _ h => h) (by rfl) hS ?_ ?_ ?_
  rotate_left 2
  · intro W hSW; go_simp; try with_reducible rfl
  · simp only [List.set_cons_succ, List.set_cons_zero]; rfl
  refine' take_at 26 rfl (by kernel_rfl) (by kernel_rfl) (by kernel_rfl) (fun _ _ _ h => h) (by rfl) hS ?_ ?_ ?_
  rotate_left 2
  · intro W hSW; exact run_loadR rfl rfl (HRq4.out.below hSW).tail.tail.head Try.underlying22 rfl (arr32_info Ha.out)
  · simp only [List.set_cons_succ, List.set_cons_zero]; rfl
  refine' take_at 27 rfl (by kernel_rfl) (by kernel_rfl) (by kernel_rfl) (fun _ _ _ h => h) (by rfl) hS ?_ ?_ ?_
  rotate_left 2
  · intro W hSW; exact run_loadR rfl rfl (HRq4.out.below hSW).tail.head Try.underlying22 rfl (arr32_info Hb.out)
  · simp only [List.set_cons_succ, List.set_cons_zero]; rfl
  refine call_at 28 rfl (by kernel_rfl) (by rfl) (fun K hK => ?_)
  go_simp
  with_reducible refine ((wide11_any a b Ha.out Hb.out) _).mono ?_
  rintro e vq14 ⟨rfl, hbq14⟩
  have kbq14 := below_next kbq13 hbq14
  clear hS hbq14
  refine hK.out _ _ (by exact kbq14) (fun hS => ?_)
  clear hK K
  refine call_at 29 rfl (by kernel_rfl) (by rfl) (fun K hK => ?_)
  go_simp
  obtain ⟨n15, hn15⟩ : ∃ x : Nat, (na + 256 ^ 32 * nb) % LL = x := ⟨_, rfl⟩
  have Hn15 := Lib.hid hn15
  have HLn15 : Hid (n15 < LL) := Lib.hid (by rw [← hn15]; exact Nat.mod_lt _ (by decide))
  clear hn15
  have kq16 := fun W : World => (C.reduce (a ++ b) (app64 Ha.out Hb.out)) W
  rw [leN_app, Ha.out, HNa.out, HNb.out, Hn15.out] at kq16
  have Kq16 := Lib.hid kq16
  clear kq16
  with_reducible refine (Kq16.out _).mono ?_
  rintro e vq16 ⟨rfl, hbq16⟩
  have kbq16 := below_next kbq14 hbq16
  clear hS hbq16
  refine hK.out _ _ (by exact kbq16) (fun hS => ?_)
  clear hK K
  refine call_at 30 rfl (by kernel_rfl) (by rfl) (fun K hK => ?_)
  go_simp
  have kq17 := fun W : World => (C.can (leB 32 n15) (leB_len 32 n15)) W
  rw [byt_fold n15, leN_byt HLn15.out, decide_eq_true HLn15.out] at kq17
  have Kq17 := Lib.hid kq17
  clear kq17
  with_reducible refine (Kq17.out _).mono ?_
  rintro e vq17 ⟨rfl, hbq17⟩
  have kbq17 := below_next kbq16 hbq17
  clear hS hbq17
  refine hK.out _ _ (by exact kbq17) (fun hS => ?_)
  clear hK K
  refine' take_at 31 rfl (by kernel_rfl) (by kernel_rfl) (by kernel_rfl) (fun _ _ _ h => h) (by rfl) hS ?_ ?_ ?_
  rotate_left 2
  · intro W hSW; go_simp; try with_reducible rfl
  · simp only [List.set_cons_succ, List.set_cons_zero]; rfl
  refine' take_at 32 rfl (by kernel_rfl) (by kernel_rfl) (by kernel_rfl) (fun _ _ _ h => h) (by rfl) hS ?_ ?_ ?_
  rotate_left 2
  · intro W hSW; go_simp; try with_reducible rfl
  · simp only [List.set_cons_succ, List.set_cons_zero]; rfl
  refine' take_at 33 rfl (by kernel_rfl) (by kernel_rfl) (by kernel_rfl) (fun _ _ _ h => h) (by rfl) hS ?_ ?_ ?_
  rotate_left 2
  · intro W hSW; exact run_loadR rfl rfl (HRq4.out.below hSW).head Try.underlying22 rfl (bytT_info _)
  · simp only [List.set_cons_succ, List.set_cons_zero]; rfl
  refine' take_at 35 rfl (by kernel_rfl) (by kernel_rfl) (by kernel_rfl) (fun _ _ _ h => h) (by rfl) hS ?_ ?_ ?_
  rotate_left 2
  · intro W hSW; exact run_loadR rfl rfl (HRq4.out.below hSW).tail.tail.head Try.underlying22 rfl (arr32_info Ha.out)
  · simp only [List.set_cons_succ, List.set_cons_zero]; rfl
  refine' take_at 36 rfl (by kernel_rfl) (by kernel_rfl) (by kernel_rfl) (fun _ _ _ h => h) (by rfl) hS ?_ ?_ ?_
  rotate_left 2
  · intro W hSW; exact run_build0 rfl W
  · simp only [List.set_cons_succ, List.set_cons_zero]; rfl
  refine call_at 34 rfl (by kernel_rfl) (by rfl) (fun K hK => ?_)
  go_simp
  obtain ⟨n18, hn18⟩ : ∃ x : Nat, (LL - n2 % LL) % LL = x := ⟨_, rfl⟩
  have Hn18 := Lib.hid hn18
  have HLn18 : Hid (n18 < LL) := Lib.hid (by rw [← hn18]; exact Nat.mod_lt _ (by decide))
  clear hn18
  have kq19 := fun W : World => (C.neg (leB 32 n2) (leB_len 32 n2)) W
  rw [byt_fold n2, leN_byt HLn2.out, Hn18.out] at kq19
  have Kq19 := Lib.hid kq19
  clear kq19
  with_reducible refine (Kq19.out _).mono ?_
  rintro e vq19 ⟨rfl, hbq19⟩
  have kbq19 := below_next kbq17 hbq19
  clear hS hbq19
  refine hK.out _ _ (by exact kbq19) (fun hS => ?_)
  clear hK K
  refine call_at 37 rfl (by kernel_rfl) (by rfl) (fun K hK => ?_)
  go_simp
  obtain ⟨n20, hn20⟩ : ∃ x : Nat, (na + 0) % LL = x := ⟨_, rfl⟩
  have Hn20 := Lib.hid hn20
  have HLn20 : Hid (n20 < LL) := Lib.hid (by rw [← hn20]; exact Nat.mod_lt _ (by decide))
  clear hn20
  have kq21 := fun W : World => (C.add a (leB 32 0) Ha.out (leB_len 32 0)) W
  rw [byt_fold 0, HNa.out, leN_byt (show 0 < LL by decide), Hn20.out] at kq21
  have Kq21 := Lib.hid kq21
  clear kq21
  with_reducible refine (Kq21.out _).mono ?_
  rintro e vq21 ⟨rfl, hbq21⟩
  have kbq21 := below_next kbq19 hbq21
  clear hS hbq21
  refine hK.out _ _ (by exact kbq21) (fun hS => ?_)
  clear hK K
  refine' take_at 38 rfl (by kernel_rfl) (by kernel_rfl) (by kernel_rfl) (fun _ _ _ h => h) (by rfl) hS ?_ ?_ ?_
  rotate_left 2
  · intro W hSW; exact run_eql2 rfl rfl rfl guardB (by rw [show n18 = n20 from (by rw [← Hn18.out, ← Hn2.out, ← Hn20.out]; exact sc_neg2 _)]; exact eqBytT n20 W)
  · simp only [List.set_cons_succ, List.set_cons_zero]; rfl
  refine' take_at 39 rfl (by kernel_rfl) (by kernel_rfl) (by kernel_rfl) (fun _ _ _ h => h) (by rfl) hS ?_ ?_ ?_
  rotate_left 2
  · intro W hSW; go_simp; try with_reducible rfl
  · simp only [List.set_cons_succ, List.set_cons_zero]; rfl
  refine' take_at 40 rfl (by kernel_rfl) (by kernel_rfl) (by kernel_rfl) (fun _ _ _ h => h) (by rfl) hS ?_ ?_ ?_
  rotate_left 2
  · intro W hSW; go_simp; try with_reducible rfl
  · simp only [List.set_cons_succ, List.set_cons_zero]; rfl
  refine call_at 41 rfl (by kernel_rfl) (by rfl) (fun K hK => ?_)
  go_simp
  with_reducible refine (C.order _).mono ?_
  rintro e vq22 ⟨rfl, hbq22⟩
  have kbq22 := below_next kbq21 hbq22
  clear hS hbq22
  refine hK.out _ _ (by exact kbq22) (fun hS => ?_)
  clear hK K
  refine call_at 42 rfl (by kernel_rfl) (by rfl) (fun K hK => ?_)
  go_simp
  have kq23 := fun W : World => (C.can (leB 32 LL) (leB_len 32 LL)) W
  rw [byt_fold LL, leN_LL, decide_eq_false (Nat.lt_irrefl LL)] at kq23
  have Kq23 := Lib.hid kq23
  clear kq23
  with_reducible refine (Kq23.out _).mono ?_
  rintro e vq23 ⟨rfl, hbq23⟩
  have kbq23 := below_next kbq22 hbq23
  clear hS hbq23
  refine hK.out _ _ (by exact kbq23) (fun hS => ?_)
  clear hK K
  refine' take_at 43 rfl (by kernel_rfl) (by kernel_rfl) (by kernel_rfl) (fun _ _ _ h => h) (by rfl) hS ?_ ?_ ?_
  rotate_left 2
  · intro W hSW; go_simp; try with_reducible rfl
  · simp only [List.set_cons_succ, List.set_cons_zero]; rfl
  refine' take_at 44 rfl (by kernel_rfl) (by kernel_rfl) (by kernel_rfl) (fun _ _ _ h => h) (by rfl) hS ?_ ?_ ?_
  rotate_left 2
  · intro W hSW; go_simp; try with_reducible rfl
  · simp only [List.set_cons_succ, List.set_cons_zero]; rfl
  refine' take_at 45 rfl (by kernel_rfl) (by kernel_rfl) (by kernel_rfl) (fun _ _ _ h => h) (by rfl) hS ?_ ?_ ?_
  rotate_left 2
  · intro W hSW; go_simp; try with_reducible rfl
  · simp only [List.set_cons_succ, List.set_cons_zero]; rfl
  refine' take_at 46 rfl (by kernel_rfl) (by kernel_rfl) (by kernel_rfl) (fun _ _ _ h => h) (by rfl) hS ?_ ?_ ?_
  rotate_left 2
  · intro W hSW; exact run_loadR rfl rfl (HRq4.out.below hSW).tail.tail.head Try.underlying22 rfl (arr32_info Ha.out)
  · simp only [List.set_cons_succ, List.set_cons_zero]; rfl
  refine' take_at 49 rfl (by kernel_rfl) (by kernel_rfl) (by kernel_rfl) (fun _ _ _ h => h) (by rfl) hS ?_ ?_ ?_
  rotate_left 2
  · intro W hSW; exact run_loadR rfl rfl (HRq4.out.below hSW).tail.tail.head Try.underlying22 rfl (arr32_info Ha.out)
  · simp only [List.set_cons_succ, List.set_cons_zero]; rfl
  refine' take_at 50 rfl (by kernel_rfl) (by kernel_rfl) (by kernel_rfl) (fun _ _ _ h => h) (by rfl) hS ?_ ?_ ?_
  rotate_left 2
  · intro W hSW; exact run_build0 rfl W
  · simp only [List.set_cons_succ, List.set_cons_zero]; rfl
  refine call_at 47 rfl (by kernel_rfl) (by rfl) (fun K hK => ?_)
  go_simp
  with_reducible refine (C.order _).mono ?_
  rintro e vq24 ⟨rfl, hbq24⟩
  have kbq24 := below_next kbq23 hbq24
  clear hS hbq24
  refine hK.out _ _ (by exact kbq24) (fun hS => ?_)
  clear hK K
  refine call_at 48 rfl (by kernel_rfl) (by rfl) (fun K hK => ?_)
  go_simp
  obtain ⟨n25, hn25⟩ : ∃ x : Nat, (na + LL) % LL = x := ⟨_, rfl⟩
  have Hn25 := Lib.hid hn25
  have HLn25 : Hid (n25 < LL) := Lib.hid (by rw [← hn25]; exact Nat.mod_lt _ (by decide))
  clear hn25
  have kq26 := fun W : World => (C.add a (leB 32 LL) Ha.out (leB_len 32 LL)) W
  rw [byt_fold LL, HNa.out, leN_LL, Hn25.out] at kq26
  have Kq26 := Lib.hid kq26
  clear kq26
  with_reducible refine (Kq26.out _).mono ?_
  rintro e vq26 ⟨rfl, hbq26⟩
  have kbq26 := below_next kbq24 hbq26
  clear hS hbq26
  refine hK.out _ _ (by exact kbq26) (fun hS => ?_)
  clear hK K
  refine call_at 51 rfl (by kernel_rfl) (by rfl) (fun K hK => ?_)
  go_simp
  have kq27 := fun W : World => (C.add a (leB 32 0) Ha.out (leB_len 32 0)) W
  rw [byt_fold 0, HNa.out, leN_byt (show 0 < LL by decide), Hn20.out] at kq27
  have Kq27 := Lib.hid kq27
  clear kq27
  with_reducible refine (Kq27.out _).mono ?_
  rintro e vq27 ⟨rfl, hbq27⟩
  have kbq27 := below_next kbq26 hbq27
  clear hS hbq27
  refine hK.out _ _ (by exact kbq27) (fun hS => ?_)
  clear hK K
  refine' take_at 52 rfl (by kernel_rfl) (by kernel_rfl) (by kernel_rfl) (fun _ _ _ h => h) (by rfl) hS ?_ ?_ ?_
  rotate_left 2
  · intro W hSW; exact run_eql2 rfl rfl rfl guardB (by rw [show n25 = n20 from (by rw [← Hn25.out, ← Hn20.out]; exact sc_ord _)]; exact eqBytT n20 W)
  · simp only [List.set_cons_succ, List.set_cons_zero]; rfl
  refine' take_at 53 rfl (by kernel_rfl) (by kernel_rfl) (by kernel_rfl) (fun _ _ _ h => h) (by rfl) hS ?_ ?_ ?_
  rotate_left 2
  · intro W hSW; go_simp; try with_reducible rfl
  · simp only [List.set_cons_succ, List.set_cons_zero]; rfl
  refine' take_at 54 rfl (by kernel_rfl) (by kernel_rfl) (by kernel_rfl) (fun _ _ _ h => h) (by rfl) hS ?_ ?_ ?_
  rotate_left 2
  · intro W hSW; go_simp; try with_reducible rfl
  · simp only [List.set_cons_succ, List.set_cons_zero]; rfl
  refine wpAnyH_done (by kernel_rfl) ?_ _
  refine NoPanic.normal ?_
  clear hS
  (try simp only [Act.put])
  have HRq28 := Lib.hid (HRq4.out.below kbq27)
  have HBq28 := Lib.hid (below_next HBq4.out kbq27)
  go_wp2_with fail
  go_ret
  exact ⟨rfl, HBq28.out⟩
end Go.Proofs.Ytmmfbbbljhifjaa

