/- The walk of ScalarWide. Written by wip/tools. -/
import Derived.Test.YtmmfbbbljhifjaaLaw11Tells
namespace Go.Proofs.Ytmmfbbbljhifjaa
open Go.RowKit
set_option linter.unusedVariables false
set_option maxRecDepth 100000

theorem sc_mm (x c : Nat) : (x % LL * c) % LL = (x * c) % LL := by rw [Nat.mul_mod, Nat.mod_mod, ← Nat.mul_mod]
theorem sc_mm2 (x c : Nat) : (c * (x % LL)) % LL = (c * x) % LL := by rw [Nat.mul_mod, Nat.mod_mod, ← Nat.mul_mod]
theorem sc_am (x c : Nat) : (x % LL + c) % LL = (x + c) % LL := Nat.mod_add_mod _ _ _
theorem sc_wide (x y : Nat) : (x + 256 ^ 32 * y) % LL = (y * ((0 + 256 ^ 32 * 1) % LL) + x) % LL := by
  rw [Nat.zero_add, Nat.mul_one, ← sc_am (y * (256 ^ 32 % LL)), sc_mm2, sc_am, Nat.mul_comm y, Nat.add_comm]

set_option maxHeartbeats 6400000 in
theorem law11Wide (C : ScC) (a : List UInt8) (ha : a.length = 32) (b : List UInt8) (hb : b.length = 32) (w : World) : Calls Try.prog 6 #[.agg (arrB a), .agg (arrB b)] w fun e w' => e = .returned (.bool true) ∧ Below w.heap.size w w' := by
  have HAL : Hid (∀ W : World, Calls Try.prog 8 #[] W fun e w' => e = .returned (.bool true) ∧ Below W.heap.size W w') := Lib.hid (fun W => alive11_any C W)
  have hz32 : ∀ u, (zeroValue 22).run Try.prog u = .ok (.agg (bytT 0)) u := fun u => zero32_zero u
  have Ha := Lib.hid ha
  have Hb := Lib.hid hb
  clear ha hb
  go_enter Try.func6, Try.ntmps6
  go_wp2_with fail
  have HR0 := Lib.hid (((RowsW.nil w).box (arrB a) 22).box (arrB b) 22)
  have HB0 := Lib.hid (below_box (below_box (Below.refl w.heap.size w) (arrB a) 22) (arrB b) 22)
  rw [World.size_alloc] at HR0
  obtain ⟨W0, hW0⟩ : ∃ W, ((w.alloc (.cells (arrB a) 22)).alloc (.cells (arrB b) 22)) = W := ⟨_, rfl⟩
  obtain ⟨g0, hg0⟩ : ∃ g, w.heap.size = g := ⟨_, rfl⟩
  rw [hW0] at HR0 HB0
  rw [hg0] at HR0
  rw [hW0, hg0]
  have HG0 := Lib.hid hg0
  clear hW0 hg0
  obtain ⟨na, hna⟩ : ∃ x : Nat, leN a = x := ⟨_, rfl⟩
  have HNa := Lib.hid hna
  clear hna
  obtain ⟨nb, hnb⟩ : ∃ x : Nat, leN b = x := ⟨_, rfl⟩
  have HNb := Lib.hid hnb
  clear hnb
  with_reducible refine (HAL.out _).mono ?_
  rintro e v1 ⟨rfl, hb1⟩
  have HR1 := Lib.hid (HR0.out.below hb1)
  have HB1 := Lib.hid (below_next HB0.out hb1)
  clear hb1
  go_upto_region 2 with fail
  go_wp2_with (first
      | (refine wpList_runsV (o := ⟨some 8, _, _, _, _, _⟩) rfl (.agg (bytT 0)) (by kernel_rfl) ?_)
      | (refine wpList_runsV (o := ⟨some 9, _, _, _, _, _⟩) rfl (.agg (bytT 1)) (by kernel_rfl) ?_))
  have kq1 := fun W : World => (wide11_any (leB 32 0) (leB 32 1) (leB_len 32 0) (leB_len 32 1)) W
  rw [byt_fold 0, byt_fold 1] at kq1
  have Kq1 := Lib.hid kq1
  clear kq1
  with_reducible refine (Kq1.out _).mono ?_
  rintro e vq1 ⟨rfl, hbq1⟩
  have HRq1 := Lib.hid (HR1.out.below hbq1)
  have HBq1 := Lib.hid (below_next HB1.out hbq1)
  clear hbq1
  go_wp2_with fail
  obtain ⟨n2, hn2⟩ : ∃ x : Nat, (0 + 256 ^ 32 * 1) % LL = x := ⟨_, rfl⟩
  have Hn2 := Lib.hid hn2
  have HLn2 : Hid (n2 < LL) := Lib.hid (by rw [← hn2]; exact Nat.mod_lt _ (by decide))
  clear hn2
  have kq3 := fun W : World => (C.reduce ((leB 32 0) ++ (leB 32 1)) (app64 (leB_len 32 0) (leB_len 32 1))) W
  rw [leN_app, leB_len 32 0, leN_byt (show 0 < LL by decide), leN_byt (show 1 < LL by decide), Hn2.out] at kq3
  have Kq3 := Lib.hid kq3
  clear kq3
  with_reducible refine (Kq3.out _).mono ?_
  rintro e vq3 ⟨rfl, hbq3⟩
  have HRq3 := Lib.hid (HRq1.out.below hbq3)
  have HBq3 := Lib.hid (below_next HBq1.out hbq3)
  clear hbq3
  have h0q4 : (vq3.alloc (.cells (bytT 0) 22)).heap[vq3.heap.size]? = some (.cells (bytT 0) 22 (0, 0)) := heap_alloc_new _ _
  have HRq4 := Lib.hid (HRq3.out.new (bytT 0) (bytT n2) 22)
  have HBq4 := Lib.hid (below_new HBq3.out (bytT 0) (bytT n2) 22)
  have HNq4 := Lib.hid HRq3.out.ne
  have HGq4 := Lib.hid HBq3.out.size
  go_upto_region 3 with (refine wpList_store_row rfl 22 (.tmp 6) (.tmp 11) rfl vq3.heap.size (bytT n2) rfl rfl 22 (bytT 0) h0q4 (bytT_info _) (byt_size 0 n2) (bytT_one _) ?_)
  obtain ⟨Wq4, hWq4⟩ : ∃ W, (vq3.alloc (.cells (bytT 0) 22)).setRow vq3.heap.size (bytT n2) = W := ⟨_, rfl⟩
  obtain ⟨gq4, hgq4⟩ : ∃ g, vq3.heap.size = g := ⟨_, rfl⟩
  rw [hWq4, hgq4] at HRq4
  rw [hWq4] at HBq4
  rw [hgq4] at HNq4 HGq4
  rw [hWq4, hgq4]
  clear hWq4 hgq4 h0q4
  have NEq4_0 : Hid (g0 ≠ gq4) := Lib.hid (HNq4.out (g0, (arrB a), 22) (by simp))
  have NEq4_1 : Hid ((g0 + 1) ≠ gq4) := Lib.hid (HNq4.out ((g0 + 1), (arrB b), 22) (by simp))
  refine wp_region_noPanic ?_
  refine wp_region_held_drew (S := fun W => Below Wq4.heap.size Wq4 W) (by kernel_rfl) (by exact (Below.refl _ _).drew) (fun hS => ?_)
  refine' take_at 0 rfl (by kernel_rfl) (by kernel_rfl) (by kernel_rfl) (fun _ _ _ h => h) (by rfl) hS ?_ ?_ ?_
  rotate_left 2
  · intro W hSW; go_simp; try with_reducible rfl
  · simp only [List.set_cons_succ, List.set_cons_zero]; rfl
  refine' take_at 1 rfl (by kernel_rfl) (by kernel_rfl) (by kernel_rfl) (fun _ _ _ h => h) (by rfl) hS ?_ ?_ ?_
  rotate_left 2
  · intro W hSW; go_simp; try with_reducible rfl
  · simp only [List.set_cons_succ, List.set_cons_zero]; rfl
  refine' take_at 2 rfl (by kernel_rfl) (by kernel_rfl) (by kernel_rfl) (fun _ _ _ h => h) (by rfl) hS ?_ ?_ ?_
  rotate_left 2
  · intro W hSW; exact run_loadR rfl rfl (HRq4.out.below hSW).tail.tail.head Try.underlying22 rfl (arr32_info Ha.out)
  · simp only [List.set_cons_succ, List.set_cons_zero]; rfl
  refine' take_at 3 rfl (by kernel_rfl) (by kernel_rfl) (by kernel_rfl) (fun _ _ _ h => h) (by rfl) hS ?_ ?_ ?_
  rotate_left 2
  · intro W hSW; exact run_loadR rfl rfl (HRq4.out.below hSW).tail.head Try.underlying22 rfl (arr32_info Hb.out)
  · simp only [List.set_cons_succ, List.set_cons_zero]; rfl
  refine' take_at 6 rfl (by kernel_rfl) (by kernel_rfl) (by kernel_rfl) (fun _ _ _ h => h) (by rfl) hS ?_ ?_ ?_
  rotate_left 2
  · intro W hSW; exact run_loadR rfl rfl (HRq4.out.below hSW).tail.head Try.underlying22 rfl (arr32_info Hb.out)
  · simp only [List.set_cons_succ, List.set_cons_zero]; rfl
  refine' take_at 7 rfl (by kernel_rfl) (by kernel_rfl) (by kernel_rfl) (fun _ _ _ h => h) (by rfl) hS ?_ ?_ ?_
  rotate_left 2
  · intro W hSW; exact run_loadR rfl rfl (HRq4.out.below hSW).head Try.underlying22 rfl (bytT_info _)
  · simp only [List.set_cons_succ, List.set_cons_zero]; rfl
  refine' take_at 8 rfl (by kernel_rfl) (by kernel_rfl) (by kernel_rfl) (fun _ _ _ h => h) (by rfl) hS ?_ ?_ ?_
  rotate_left 2
  · intro W hSW; exact run_loadR rfl rfl (HRq4.out.below hSW).tail.tail.head Try.underlying22 rfl (arr32_info Ha.out)
  · simp only [List.set_cons_succ, List.set_cons_zero]; rfl
  refine call_at 4 rfl (by kernel_rfl) (by rfl) (fun K hK => ?_)
  go_simp
  with_reducible refine ((wide11_any a b Ha.out Hb.out) _).mono ?_
  rintro e vq5 ⟨rfl, hbq5⟩
  have kbq5 := below_next hS hbq5
  clear hS hbq5
  refine hK.out _ _ (by exact kbq5) (fun hS => ?_)
  clear hK K
  refine call_at 5 rfl (by kernel_rfl) (by rfl) (fun K hK => ?_)
  go_simp
  obtain ⟨n6, hn6⟩ : ∃ x : Nat, (na + 256 ^ 32 * nb) % LL = x := ⟨_, rfl⟩
  have Hn6 := Lib.hid hn6
  have HLn6 : Hid (n6 < LL) := Lib.hid (by rw [← hn6]; exact Nat.mod_lt _ (by decide))
  clear hn6
  have kq7 := fun W : World => (C.reduce (a ++ b) (app64 Ha.out Hb.out)) W
  rw [leN_app, Ha.out, HNa.out, HNb.out, Hn6.out] at kq7
  have Kq7 := Lib.hid kq7
  clear kq7
  with_reducible refine (Kq7.out _).mono ?_
  rintro e vq7 ⟨rfl, hbq7⟩
  have kbq7 := below_next kbq5 hbq7
  clear hS hbq7
  refine hK.out _ _ (by exact kbq7) (fun hS => ?_)
  clear hK K
  refine call_at 9 rfl (by kernel_rfl) (by rfl) (fun K hK => ?_)
  go_simp
  obtain ⟨n8, hn8⟩ : ∃ x : Nat, (nb * n2 + na) % LL = x := ⟨_, rfl⟩
  have Hn8 := Lib.hid hn8
  have HLn8 : Hid (n8 < LL) := Lib.hid (by rw [← hn8]; exact Nat.mod_lt _ (by decide))
  clear hn8
  have kq9 := fun W : World => (C.mulAdd b (leB 32 n2) a Hb.out (leB_len 32 n2) Ha.out) W
  rw [byt_fold n2, HNb.out, leN_byt HLn2.out, HNa.out, Hn8.out] at kq9
  have Kq9 := Lib.hid kq9
  clear kq9
  with_reducible refine (Kq9.out _).mono ?_
  rintro e vq9 ⟨rfl, hbq9⟩
  have kbq9 := below_next kbq7 hbq9
  clear hS hbq9
  refine hK.out _ _ (by exact kbq9) (fun hS => ?_)
  clear hK K
  refine' take_at 10 rfl (by kernel_rfl) (by kernel_rfl) (by kernel_rfl) (fun _ _ _ h => h) (by rfl) hS ?_ ?_ ?_
  rotate_left 2
  · intro W hSW; exact run_eql2 rfl rfl rfl guardB (by rw [show n6 = n8 from (by rw [← Hn6.out, ← Hn8.out, ← Hn2.out]; exact sc_wide _ _)]; exact eqBytT n8 W)
  · simp only [List.set_cons_succ, List.set_cons_zero]; rfl
  refine' take_at 11 rfl (by kernel_rfl) (by kernel_rfl) (by kernel_rfl) (fun _ _ _ h => h) (by rfl) hS ?_ ?_ ?_
  rotate_left 2
  · intro W hSW; go_simp; try with_reducible rfl
  · simp only [List.set_cons_succ, List.set_cons_zero]; rfl
  refine' take_at 12 rfl (by kernel_rfl) (by kernel_rfl) (by kernel_rfl) (fun _ _ _ h => h) (by rfl) hS ?_ ?_ ?_
  rotate_left 2
  · intro W hSW; go_simp; try with_reducible rfl
  · simp only [List.set_cons_succ, List.set_cons_zero]; rfl
  refine wpAnyH_done (by kernel_rfl) ?_ _
  refine NoPanic.normal ?_
  clear hS
  (try simp only [Act.put])
  have HRq10 := Lib.hid (HRq4.out.below kbq9)
  have HBq10 := Lib.hid (below_next HBq4.out kbq9)
  go_wp2_with fail
  go_ret
  exact ⟨rfl, HBq10.out⟩
end Go.Proofs.Ytmmfbbbljhifjaa

