/- The walk of ScalarTells. Written by wip/tools. -/
import Derived.Test.YtmmfbbbljhifjaaLaw11Alive
namespace Go.Proofs.Ytmmfbbbljhifjaa
open Go.RowKit
set_option linter.unusedVariables false
set_option maxRecDepth 100000

theorem byt_size (x y : Nat) : (bytT x).size = (bytT y).size := by unfold bytT; rw [arrB_size, arrB_size, leB_len, leB_len]

set_option maxHeartbeats 6400000 in
theorem law11Tells (C : ScC) (a : List UInt8) (ha : a.length = 32) (b : List UInt8) (hb : b.length = 32) (c : List UInt8) (hc : c.length = 32) (i : Int) (hi1 : -9223372036854775808 ≤ i) (hi2 : i ≤ 9223372036854775807) (w : World) : Calls Try.prog 3 #[.agg (arrB a), .agg (arrB b), .agg (arrB c), .int .i64 i] w fun e w' => e = .returned (.bool true) ∧ Below w.heap.size w w' := by
  have HAL : Hid (∀ W : World, Calls Try.prog 8 #[] W fun e w' => e = .returned (.bool true) ∧ Below W.heap.size W w') := Lib.hid (fun W => alive11_any C W)
  have hz32 : ∀ u, (zeroValue 22).run Try.prog u = .ok (.agg (bytT 0)) u := fun u => zero32_zero u
  have HI1 := Lib.hid hi1
  have HI2 := Lib.hid hi2
  clear hi1 hi2
  have Ha := Lib.hid ha
  have Hb := Lib.hid hb
  have Hc := Lib.hid hc
  clear ha hb hc
  go_enter Try.func3, Try.ntmps3
  go_wp2_with fail
  have HR0 := Lib.hid ((((RowsW.nil w).box (arrB a) 22).box (arrB b) 22).box (arrB c) 22)
  have HB0 := Lib.hid (below_box (below_box (below_box (Below.refl w.heap.size w) (arrB a) 22) (arrB b) 22) (arrB c) 22)
  rw [World.size_alloc] at HR0
  rw [World.size_alloc] at HR0
  obtain ⟨W0, hW0⟩ : ∃ W, (((w.alloc (.cells (arrB a) 22)).alloc (.cells (arrB b) 22)).alloc (.cells (arrB c) 22)) = W := ⟨_, rfl⟩
  obtain ⟨g0, hg0⟩ : ∃ g, w.heap.size = g := ⟨_, rfl⟩
  rw [hW0] at HR0 HB0
  rw [hg0] at HR0
  rw [hW0, hg0]
  have HG0 := Lib.hid hg0
  clear hW0 hg0
  obtain ⟨na, hna⟩ : ∃ x : Nat, leN a = x := ⟨_, rfl⟩
  have HNa := Lib.hid hna
  clear hna
  obtain ⟨nb, hnb⟩ : ∃ x : Nat, leN b = x := ⟨_, rfl⟩
  have HNb := Lib.hid hnb
  clear hnb
  obtain ⟨nc, hnc⟩ : ∃ x : Nat, leN c = x := ⟨_, rfl⟩
  have HNc := Lib.hid hnc
  clear hnc
  with_reducible refine (HAL.out _).mono ?_
  rintro e v1 ⟨rfl, hb1⟩
  have HR1 := Lib.hid (HR0.out.below hb1)
  have HB1 := Lib.hid (below_next HB0.out hb1)
  clear hb1
  go_upto_region 2 with fail
  refine wp_region_noPanic ?_
  refine wp_region_held_drew (S := fun W => Below v1.heap.size v1 W) (by kernel_rfl) (by exact (Below.refl _ _).drew) (fun hS => ?_)
  refine' take_at 0 rfl (by kernel_rfl) (by kernel_rfl) (by kernel_rfl) (fun _ _ _ h => h) (by rfl) hS ?_ ?_ ?_
  rotate_left 2
  · intro W hSW; go_simp; try with_reducible rfl
  · simp only [List.set_cons_succ, List.set_cons_zero]; rfl
  refine' take_at 1 rfl (by kernel_rfl) (by kernel_rfl) (by kernel_rfl) (fun _ _ _ h => h) (by rfl) hS ?_ ?_ ?_
  rotate_left 2
  · intro W hSW; go_simp; try with_reducible rfl
  · simp only [List.set_cons_succ, List.set_cons_zero]; rfl
  refine call_at 2 rfl (by kernel_rfl) (by rfl) (fun K hK => ?_)
  go_simp
  with_reducible refine (C.order _).mono ?_
  rintro e vq1 ⟨rfl, hbq1⟩
  have kbq1 := below_next hS hbq1
  clear hS hbq1
  refine hK.out _ _ (by exact kbq1) (fun hS => ?_)
  clear hK K
  refine call_at 3 rfl (by kernel_rfl) (by rfl) (fun K hK => ?_)
  go_simp
  with_reducible refine (rorderS _).mono ?_
  rintro e vq2 ⟨rfl, hbq2⟩
  have kbq2 := below_next kbq1 hbq2
  clear hS hbq2
  refine hK.out _ _ (by exact kbq2) (fun hS => ?_)
  clear hK K
  refine' take_at 4 rfl (by kernel_rfl) (by kernel_rfl) (by kernel_rfl) (fun _ _ _ h => h) (by rfl) hS ?_ ?_ ?_
  rotate_left 2
  · intro W hSW; exact run_eql2 rfl rfl rfl guardB (eqBytT LL W)
  · simp only [List.set_cons_succ, List.set_cons_zero]; rfl
  refine' take_at 5 rfl (by kernel_rfl) (by kernel_rfl) (by kernel_rfl) (fun _ _ _ h => h) (by rfl) hS ?_ ?_ ?_
  rotate_left 2
  · intro W hSW; go_simp; try with_reducible rfl
  · simp only [List.set_cons_succ, List.set_cons_zero]; rfl
  refine' take_at 6 rfl (by kernel_rfl) (by kernel_rfl) (by kernel_rfl) (fun _ _ _ h => h) (by rfl) hS ?_ ?_ ?_
  rotate_left 2
  · intro W hSW; go_simp; try with_reducible rfl
  · simp only [List.set_cons_succ, List.set_cons_zero]; rfl
  refine' take_at 7 rfl (by kernel_rfl) (by kernel_rfl) (by kernel_rfl) (fun _ _ _ h => h) (by rfl) hS ?_ ?_ ?_
  rotate_left 2
  · intro W hSW; exact run_loadR rfl rfl (HR1.out.below hSW).tail.tail.head Try.underlying22 rfl (arr32_info Ha.out)
  · simp only [List.set_cons_succ, List.set_cons_zero]; rfl
  refine' take_at 9 rfl (by kernel_rfl) (by kernel_rfl) (by kernel_rfl) (fun _ _ _ h => h) (by rfl) hS ?_ ?_ ?_
  rotate_left 2
  · intro W hSW; exact run_loadR rfl rfl (HR1.out.below hSW).tail.tail.head Try.underlying22 rfl (arr32_info Ha.out)
  · simp only [List.set_cons_succ, List.set_cons_zero]; rfl
  refine call_at 8 rfl (by kernel_rfl) (by rfl) (fun K hK => ?_)
  go_simp
  obtain ⟨b3, hb3⟩ : ∃ x_ : Bool, decide (na < LL) = x_ := ⟨_, rfl⟩
  have Hb3 := Lib.hid hb3
  clear hb3
  have kq4 := fun W : World => (C.can a Ha.out) W
  rw [HNa.out, Hb3.out] at kq4
  have Kq4 := Lib.hid kq4
  clear kq4
  with_reducible refine (Kq4.out _).mono ?_
  rintro e vq4 ⟨rfl, hbq4⟩
  have kbq4 := below_next kbq2 hbq4
  clear hS hbq4
  refine hK.out _ _ (by exact kbq4) (fun hS => ?_)
  clear hK K
  refine call_at 10 rfl (by kernel_rfl) (by rfl) (fun K hK => ?_)
  go_simp
  have kq5 := fun W : World => (risS a Ha.out) W
  rw [HNa.out, Hb3.out] at kq5
  have Kq5 := Lib.hid kq5
  clear kq5
  with_reducible refine (Kq5.out _).mono ?_
  rintro e vq5 ⟨rfl, hbq5⟩
  have kbq5 := below_next kbq4 hbq5
  clear hS hbq5
  refine hK.out _ _ (by exact kbq5) (fun hS => ?_)
  clear hK K
  refine' take_at 11 rfl (by kernel_rfl) (by kernel_rfl) (by kernel_rfl) (fun _ _ _ h => h) (by rfl) hS ?_ ?_ ?_
  rotate_left 2
  · intro W hSW; go_simp; try with_reducible rfl
  · simp only [List.set_cons_succ, List.set_cons_zero]; rfl
  refine' take_at 12 rfl (by kernel_rfl) (by kernel_rfl) (by kernel_rfl) (fun _ _ _ h => h) (by rfl) hS ?_ ?_ ?_
  rotate_left 2
  · intro W hSW; go_simp; try with_reducible rfl
  · simp only [List.set_cons_succ, List.set_cons_zero]; rfl
  refine' take_at 13 rfl (by kernel_rfl) (by kernel_rfl) (by kernel_rfl) (fun _ _ _ h => h) (by rfl) hS ?_ ?_ ?_
  rotate_left 2
  · intro W hSW; go_simp; try with_reducible rfl
  · simp only [List.set_cons_succ, List.set_cons_zero]; rfl
  refine' take_at 14 rfl (by kernel_rfl) (by kernel_rfl) (by kernel_rfl) (fun _ _ _ h => h) (by rfl) hS ?_ ?_ ?_
  rotate_left 2
  · intro W hSW; exact run_loadR rfl rfl (HR1.out.below hSW).tail.tail.head Try.underlying22 rfl (arr32_info Ha.out)
  · simp only [List.set_cons_succ, List.set_cons_zero]; rfl
  refine' take_at 15 rfl (by kernel_rfl) (by kernel_rfl) (by kernel_rfl) (fun _ _ _ h => h) (by rfl) hS ?_ ?_ ?_
  rotate_left 2
  · intro W hSW; exact run_loadR rfl rfl (HR1.out.below hSW).tail.head Try.underlying22 rfl (arr32_info Hb.out)
  · simp only [List.set_cons_succ, List.set_cons_zero]; rfl
  refine' take_at 18 rfl (by kernel_rfl) (by kernel_rfl) (by kernel_rfl) (fun _ _ _ h => h) (by rfl) hS ?_ ?_ ?_
  rotate_left 2
  · intro W hSW; exact run_loadR rfl rfl (HR1.out.below hSW).tail.tail.head Try.underlying22 rfl (arr32_info Ha.out)
  · simp only [List.set_cons_succ, List.set_cons_zero]; rfl
  refine' take_at 19 rfl (by kernel_rfl) (by kernel_rfl) (by kernel_rfl) (fun _ _ _ h => h) (by rfl) hS ?_ ?_ ?_
  rotate_left 2
  · intro W hSW; exact run_loadR rfl rfl (HR1.out.below hSW).tail.head Try.underlying22 rfl (arr32_info Hb.out)
  · simp only [List.set_cons_succ, List.set_cons_zero]; rfl
  refine call_at 16 rfl (by kernel_rfl) (by rfl) (fun K hK => ?_)
  go_simp
  with_reducible refine ((wide11_any a b Ha.out Hb.out) _).mono ?_
  rintro e vq6 ⟨rfl, hbq6⟩
  have kbq6 := below_next kbq5 hbq6
  clear hS hbq6
  refine hK.out _ _ (by exact kbq6) (fun hS => ?_)
  clear hK K
  refine call_at 17 rfl (by kernel_rfl) (by rfl) (fun K hK => ?_)
  go_simp
  obtain ⟨n7, hn7⟩ : ∃ x : Nat, (na + 256 ^ 32 * nb) % LL = x := ⟨_, rfl⟩
  have Hn7 := Lib.hid hn7
  have HLn7 : Hid (n7 < LL) := Lib.hid (by rw [← hn7]; exact Nat.mod_lt _ (by decide))
  clear hn7
  have kq8 := fun W : World => (C.reduce (a ++ b) (app64 Ha.out Hb.out)) W
  rw [leN_app, Ha.out, HNa.out, HNb.out, Hn7.out] at kq8
  have Kq8 := Lib.hid kq8
  clear kq8
  with_reducible refine (Kq8.out _).mono ?_
  rintro e vq8 ⟨rfl, hbq8⟩
  have kbq8 := below_next kbq6 hbq8
  clear hS hbq8
  refine hK.out _ _ (by exact kbq8) (fun hS => ?_)
  clear hK K
  refine call_at 20 rfl (by kernel_rfl) (by rfl) (fun K hK => ?_)
  go_simp
  with_reducible refine ((wide11_any a b Ha.out Hb.out) _).mono ?_
  rintro e vq9 ⟨rfl, hbq9⟩
  have kbq9 := below_next kbq8 hbq9
  clear hS hbq9
  refine hK.out _ _ (by exact kbq9) (fun hS => ?_)
  clear hK K
  refine call_at 21 rfl (by kernel_rfl) (by rfl) (fun K hK => ?_)
  go_simp
  have kq10 := fun W : World => (rreduceS (a ++ b) (app64 Ha.out Hb.out)) W
  rw [leN_app, Ha.out, HNa.out, HNb.out, Hn7.out] at kq10
  have Kq10 := Lib.hid kq10
  clear kq10
  with_reducible refine (Kq10.out _).mono ?_
  rintro e vq10 ⟨rfl, hbq10⟩
  have kbq10 := below_next kbq9 hbq10
  clear hS hbq10
  refine hK.out _ _ (by exact kbq10) (fun hS => ?_)
  clear hK K
  refine' take_at 22 rfl (by kernel_rfl) (by kernel_rfl) (by kernel_rfl) (fun _ _ _ h => h) (by rfl) hS ?_ ?_ ?_
  rotate_left 2
  · intro W hSW; exact run_eql2 rfl rfl rfl guardB (eqBytT n7 W)
  · simp only [List.set_cons_succ, List.set_cons_zero]; rfl
  refine' take_at 23 rfl (by kernel_rfl) (by kernel_rfl) (by kernel_rfl) (fun _ _ _ h => h) (by rfl) hS ?_ ?_ ?_
  rotate_left 2
  · intro W hSW; go_simp; try with_reducible rfl
  · simp only [List.set_cons_succ, List.set_cons_zero]; rfl
  refine' take_at 24 rfl (by kernel_rfl) (by kernel_rfl) (by kernel_rfl) (fun _ _ _ h => h) (by rfl) hS ?_ ?_ ?_
  rotate_left 2
  · intro W hSW; go_simp; try with_reducible rfl
  · simp only [List.set_cons_succ, List.set_cons_zero]; rfl
  refine' take_at 25 rfl (by kernel_rfl) (by kernel_rfl) (by kernel_rfl) (fun _ _ _ h => h) (by rfl) hS ?_ ?_ ?_
  rotate_left 2
  · intro W hSW; exact run_loadR rfl rfl (HR1.out.below hSW).tail.tail.head Try.underlying22 rfl (arr32_info Ha.out)
  · simp only [List.set_cons_succ, List.set_cons_zero]; rfl
  refine' take_at 26 rfl (by kernel_rfl) (by kernel_rfl) (by kernel_rfl) (fun _ _ _ h => h) (by rfl) hS ?_ ?_ ?_
  rotate_left 2
  · intro W hSW; exact run_loadR rfl rfl (HR1.out.below hSW).tail.head Try.underlying22 rfl (arr32_info Hb.out)
  · simp only [List.set_cons_succ, List.set_cons_zero]; rfl
  refine' take_at 28 rfl (by kernel_rfl) (by kernel_rfl) (by kernel_rfl) (fun _ _ _ h => h) (by rfl) hS ?_ ?_ ?_
  rotate_left 2
  · intro W hSW; exact run_loadR rfl rfl (HR1.out.below hSW).tail.tail.head Try.underlying22 rfl (arr32_info Ha.out)
  · simp only [List.set_cons_succ, List.set_cons_zero]; rfl
  refine' take_at 29 rfl (by kernel_rfl) (by kernel_rfl) (by kernel_rfl) (fun _ _ _ h => h) (by rfl) hS ?_ ?_ ?_
  rotate_left 2
  · intro W hSW; exact run_loadR rfl rfl (HR1.out.below hSW).tail.head Try.underlying22 rfl (arr32_info Hb.out)
  · simp only [List.set_cons_succ, List.set_cons_zero]; rfl
  refine call_at 27 rfl (by kernel_rfl) (by rfl) (fun K hK => ?_)
  go_simp
  obtain ⟨n11, hn11⟩ : ∃ x : Nat, (na + nb) % LL = x := ⟨_, rfl⟩
  have Hn11 := Lib.hid hn11
  have HLn11 : Hid (n11 < LL) := Lib.hid (by rw [← hn11]; exact Nat.mod_lt _ (by decide))
  clear hn11
  have kq12 := fun W : World => (C.add a b Ha.out Hb.out) W
  rw [HNa.out, HNb.out, Hn11.out] at kq12
  have Kq12 := Lib.hid kq12
  clear kq12
  with_reducible refine (Kq12.out _).mono ?_
  rintro e vq12 ⟨rfl, hbq12⟩
  have kbq12 := below_next kbq10 hbq12
  clear hS hbq12
  refine hK.out _ _ (by exact kbq12) (fun hS => ?_)
  clear hK K
  refine call_at 30 rfl (by kernel_rfl) (by rfl) (fun K hK => ?_)
  go_simp
  have kq13 := fun W : World => (rsumS a b Ha.out Hb.out) W
  rw [HNa.out, HNb.out, Hn11.out] at kq13
  have Kq13 := Lib.hid kq13
  clear kq13
  with_reducible refine (Kq13.out _).mono ?_
  rintro e vq13 ⟨rfl, hbq13⟩
  have kbq13 := below_next kbq12 hbq13
  clear hS hbq13
  refine hK.out _ _ (by exact kbq13) (fun hS => ?_)
  clear hK K
  refine' take_at 31 rfl (by kernel_rfl) (by kernel_rfl) (by kernel_rfl) (fun _ _ _ h => h) (by rfl) hS ?_ ?_ ?_
  rotate_left 2
  · intro W hSW; exact run_eql2 rfl rfl rfl guardB (eqBytT n11 W)
  · simp only [List.set_cons_succ, List.set_cons_zero]; rfl
  refine' take_at 32 rfl (by kernel_rfl) (by kernel_rfl) (by kernel_rfl) (fun _ _ _ h => h) (by rfl) hS ?_ ?_ ?_
  rotate_left 2
  · intro W hSW; go_simp; try with_reducible rfl
  · simp only [List.set_cons_succ, List.set_cons_zero]; rfl
  refine' take_at 33 rfl (by kernel_rfl) (by kernel_rfl) (by kernel_rfl) (fun _ _ _ h => h) (by rfl) hS ?_ ?_ ?_
  rotate_left 2
  · intro W hSW; go_simp; try with_reducible rfl
  · simp only [List.set_cons_succ, List.set_cons_zero]; rfl
  refine' take_at 34 rfl (by kernel_rfl) (by kernel_rfl) (by kernel_rfl) (fun _ _ _ h => h) (by rfl) hS ?_ ?_ ?_
  rotate_left 2
  · intro W hSW; exact run_loadR rfl rfl (HR1.out.below hSW).tail.tail.head Try.underlying22 rfl (arr32_info Ha.out)
  · simp only [List.set_cons_succ, List.set_cons_zero]; rfl
  refine' take_at 36 rfl (by kernel_rfl) (by kernel_rfl) (by kernel_rfl) (fun _ _ _ h => h) (by rfl) hS ?_ ?_ ?_
  rotate_left 2
  · intro W hSW; exact run_loadR rfl rfl (HR1.out.below hSW).tail.tail.head Try.underlying22 rfl (arr32_info Ha.out)
  · simp only [List.set_cons_succ, List.set_cons_zero]; rfl
  refine call_at 35 rfl (by kernel_rfl) (by rfl) (fun K hK => ?_)
  go_simp
  obtain ⟨n14, hn14⟩ : ∃ x : Nat, (LL - na % LL) % LL = x := ⟨_, rfl⟩
  have Hn14 := Lib.hid hn14
  have HLn14 : Hid (n14 < LL) := Lib.hid (by rw [← hn14]; exact Nat.mod_lt _ (by decide))
  clear hn14
  have kq15 := fun W : World => (C.neg a Ha.out) W
  rw [HNa.out, Hn14.out] at kq15
  have Kq15 := Lib.hid kq15
  clear kq15
  with_reducible refine (Kq15.out _).mono ?_
  rintro e vq15 ⟨rfl, hbq15⟩
  have kbq15 := below_next kbq13 hbq15
  clear hS hbq15
  refine hK.out _ _ (by exact kbq15) (fun hS => ?_)
  clear hK K
  refine call_at 37 rfl (by kernel_rfl) (by rfl) (fun K hK => ?_)
  go_simp
  have kq16 := fun W : World => (rminusS a Ha.out) W
  rw [HNa.out, Hn14.out] at kq16
  have Kq16 := Lib.hid kq16
  clear kq16
  with_reducible refine (Kq16.out _).mono ?_
  rintro e vq16 ⟨rfl, hbq16⟩
  have kbq16 := below_next kbq15 hbq16
  clear hS hbq16
  refine hK.out _ _ (by exact kbq16) (fun hS => ?_)
  clear hK K
  refine' take_at 38 rfl (by kernel_rfl) (by kernel_rfl) (by kernel_rfl) (fun _ _ _ h => h) (by rfl) hS ?_ ?_ ?_
  rotate_left 2
  · intro W hSW; exact run_eql2 rfl rfl rfl guardB (eqBytT n14 W)
  · simp only [List.set_cons_succ, List.set_cons_zero]; rfl
  refine' take_at 39 rfl (by kernel_rfl) (by kernel_rfl) (by kernel_rfl) (fun _ _ _ h => h) (by rfl) hS ?_ ?_ ?_
  rotate_left 2
  · intro W hSW; go_simp; try with_reducible rfl
  · simp only [List.set_cons_succ, List.set_cons_zero]; rfl
  refine' take_at 40 rfl (by kernel_rfl) (by kernel_rfl) (by kernel_rfl) (fun _ _ _ h => h) (by rfl) hS ?_ ?_ ?_
  rotate_left 2
  · intro W hSW; go_simp; try with_reducible rfl
  · simp only [List.set_cons_succ, List.set_cons_zero]; rfl
  refine' take_at 41 rfl (by kernel_rfl) (by kernel_rfl) (by kernel_rfl) (fun _ _ _ h => h) (by rfl) hS ?_ ?_ ?_
  rotate_left 2
  · intro W hSW; exact run_loadR rfl rfl (HR1.out.below hSW).tail.tail.head Try.underlying22 rfl (arr32_info Ha.out)
  · simp only [List.set_cons_succ, List.set_cons_zero]; rfl
  refine' take_at 42 rfl (by kernel_rfl) (by kernel_rfl) (by kernel_rfl) (fun _ _ _ h => h) (by rfl) hS ?_ ?_ ?_
  rotate_left 2
  · intro W hSW; exact run_loadR rfl rfl (HR1.out.below hSW).tail.head Try.underlying22 rfl (arr32_info Hb.out)
  · simp only [List.set_cons_succ, List.set_cons_zero]; rfl
  refine' take_at 43 rfl (by kernel_rfl) (by kernel_rfl) (by kernel_rfl) (fun _ _ _ h => h) (by rfl) hS ?_ ?_ ?_
  rotate_left 2
  · intro W hSW; exact run_loadR rfl rfl (HR1.out.below hSW).head Try.underlying22 rfl (arr32_info Hc.out)
  · simp only [List.set_cons_succ, List.set_cons_zero]; rfl
  refine' take_at 45 rfl (by kernel_rfl) (by kernel_rfl) (by kernel_rfl) (fun _ _ _ h => h) (by rfl) hS ?_ ?_ ?_
  rotate_left 2
  · intro W hSW; exact run_loadR rfl rfl (HR1.out.below hSW).tail.tail.head Try.underlying22 rfl (arr32_info Ha.out)
  · simp only [List.set_cons_succ, List.set_cons_zero]; rfl
  refine' take_at 46 rfl (by kernel_rfl) (by kernel_rfl) (by kernel_rfl) (fun _ _ _ h => h) (by rfl) hS ?_ ?_ ?_
  rotate_left 2
  · intro W hSW; exact run_loadR rfl rfl (HR1.out.below hSW).tail.head Try.underlying22 rfl (arr32_info Hb.out)
  · simp only [List.set_cons_succ, List.set_cons_zero]; rfl
  refine' take_at 47 rfl (by kernel_rfl) (by kernel_rfl) (by kernel_rfl) (fun _ _ _ h => h) (by rfl) hS ?_ ?_ ?_
  rotate_left 2
  · intro W hSW; exact run_loadR rfl rfl (HR1.out.below hSW).head Try.underlying22 rfl (arr32_info Hc.out)
  · simp only [List.set_cons_succ, List.set_cons_zero]; rfl
  refine call_at 44 rfl (by kernel_rfl) (by rfl) (fun K hK => ?_)
  go_simp
  obtain ⟨n17, hn17⟩ : ∃ x : Nat, (na * nb + nc) % LL = x := ⟨_, rfl⟩
  have Hn17 := Lib.hid hn17
  have HLn17 : Hid (n17 < LL) := Lib.hid (by rw [← hn17]; exact Nat.mod_lt _ (by decide))
  clear hn17
  have kq18 := fun W : World => (C.mulAdd a b c Ha.out Hb.out Hc.out) W
  rw [HNa.out, HNb.out, HNc.out, Hn17.out] at kq18
  have Kq18 := Lib.hid kq18
  clear kq18
  with_reducible refine (Kq18.out _).mono ?_
  rintro e vq18 ⟨rfl, hbq18⟩
  have kbq18 := below_next kbq16 hbq18
  clear hS hbq18
  refine hK.out _ _ (by exact kbq18) (fun hS => ?_)
  clear hK K
  refine call_at 48 rfl (by kernel_rfl) (by rfl) (fun K hK => ?_)
  go_simp
  have kq19 := fun W : World => (rmuladdS a b c Ha.out Hb.out Hc.out) W
  rw [HNa.out, HNb.out, HNc.out, Hn17.out] at kq19
  have Kq19 := Lib.hid kq19
  clear kq19
  with_reducible refine (Kq19.out _).mono ?_
  rintro e vq19 ⟨rfl, hbq19⟩
  have kbq19 := below_next kbq18 hbq19
  clear hS hbq19
  refine hK.out _ _ (by exact kbq19) (fun hS => ?_)
  clear hK K
  refine' take_at 49 rfl (by kernel_rfl) (by kernel_rfl) (by kernel_rfl) (fun _ _ _ h => h) (by rfl) hS ?_ ?_ ?_
  rotate_left 2
  · intro W hSW; exact run_eql2 rfl rfl rfl guardB (eqBytT n17 W)
  · simp only [List.set_cons_succ, List.set_cons_zero]; rfl
  refine' take_at 50 rfl (by kernel_rfl) (by kernel_rfl) (by kernel_rfl) (fun _ _ _ h => h) (by rfl) hS ?_ ?_ ?_
  rotate_left 2
  · intro W hSW; go_simp; try with_reducible rfl
  · simp only [List.set_cons_succ, List.set_cons_zero]; rfl
  refine' take_at 51 rfl (by kernel_rfl) (by kernel_rfl) (by kernel_rfl) (fun _ _ _ h => h) (by rfl) hS ?_ ?_ ?_
  rotate_left 2
  · intro W hSW; go_simp; try with_reducible rfl
  · simp only [List.set_cons_succ, List.set_cons_zero]; rfl
  refine' take_at 52 rfl (by kernel_rfl) (by kernel_rfl) (by kernel_rfl) (fun _ _ _ h => h) (by rfl) hS ?_ ?_ ?_
  rotate_left 2
  · intro W hSW; exact run_loadR rfl rfl (HR1.out.below hSW).tail.tail.head Try.underlying22 rfl (arr32_info Ha.out)
  · simp only [List.set_cons_succ, List.set_cons_zero]; rfl
  refine' take_at 53 rfl (by kernel_rfl) (by kernel_rfl) (by kernel_rfl) (fun _ _ _ h => h) (by rfl) hS ?_ ?_ ?_
  rotate_left 2
  · intro W hSW; go_simp; try with_reducible rfl
  · simp only [List.set_cons_succ, List.set_cons_zero]; rfl
  refine' take_at 55 rfl (by kernel_rfl) (by kernel_rfl) (by kernel_rfl) (fun _ _ _ h => h) (by rfl) hS ?_ ?_ ?_
  rotate_left 2
  · intro W hSW; exact run_loadR rfl rfl (HR1.out.below hSW).tail.tail.head Try.underlying22 rfl (arr32_info Ha.out)
  · simp only [List.set_cons_succ, List.set_cons_zero]; rfl
  refine' take_at 56 rfl (by kernel_rfl) (by kernel_rfl) (by kernel_rfl) (fun _ _ _ h => h) (by rfl) hS ?_ ?_ ?_
  rotate_left 2
  · intro W hSW; go_simp; try with_reducible rfl
  · simp only [List.set_cons_succ, List.set_cons_zero]; rfl
  refine call_at 54 rfl (by kernel_rfl) (by rfl) (fun K hK => ?_)
  go_simp
  obtain ⟨z20, hz20⟩ : ∃ x : Int, bitZ a i = x := ⟨_, rfl⟩
  have Hz20 := Lib.hid hz20
  clear hz20
  have kq21 := fun W : World => (C.bit a Ha.out i HI1.out HI2.out) W
  rw [Hz20.out] at kq21
  have Kq21 := Lib.hid kq21
  clear kq21
  with_reducible refine (Kq21.out _).mono ?_
  rintro e vq21 ⟨rfl, hbq21⟩
  have kbq21 := below_next kbq19 hbq21
  clear hS hbq21
  refine hK.out _ _ (by exact kbq21) (fun hS => ?_)
  clear hK K
  refine call_at 57 rfl (by kernel_rfl) (by rfl) (fun K hK => ?_)
  go_simp
  have kq22 := fun W : World => (rbitS a Ha.out i HI1.out HI2.out) W
  rw [Hz20.out] at kq22
  have Kq22 := Lib.hid kq22
  clear kq22
  with_reducible refine (Kq22.out _).mono ?_
  rintro e vq22 ⟨rfl, hbq22⟩
  have kbq22 := below_next kbq21 hbq22
  clear hS hbq22
  refine hK.out _ _ (by exact kbq22) (fun hS => ?_)
  clear hK K
  refine' take_at 58 rfl (by kernel_rfl) (by kernel_rfl) (by kernel_rfl) (fun _ _ _ h => h) (by rfl) hS ?_ ?_ ?_
  rotate_left 2
  · intro W hSW; go_simp; try with_reducible rfl
  · simp only [List.set_cons_succ, List.set_cons_zero]; rfl
  refine' take_at 59 rfl (by kernel_rfl) (by kernel_rfl) (by kernel_rfl) (fun _ _ _ h => h) (by rfl) hS ?_ ?_ ?_
  rotate_left 2
  · intro W hSW; go_simp; try with_reducible rfl
  · simp only [List.set_cons_succ, List.set_cons_zero]; rfl
  refine' take_at 60 rfl (by kernel_rfl) (by kernel_rfl) (by kernel_rfl) (fun _ _ _ h => h) (by rfl) hS ?_ ?_ ?_
  rotate_left 2
  · intro W hSW; go_simp; try with_reducible rfl
  · simp only [List.set_cons_succ, List.set_cons_zero]; rfl
  refine wpAnyH_done (by kernel_rfl) ?_ _
  refine NoPanic.normal ?_
  clear hS
  (try simp only [Act.put])
  have HRq23 := Lib.hid (HR1.out.below kbq22)
  have HBq23 := Lib.hid (below_next HB1.out kbq22)
  go_wp2_with fail
  go_ret
  exact ⟨rfl, HBq23.out⟩
end Go.Proofs.Ytmmfbbbljhifjaa

