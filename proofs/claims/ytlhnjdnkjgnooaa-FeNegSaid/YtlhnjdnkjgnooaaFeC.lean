/- The contract of the developers' narrowed. -/
import Derived.Test.YtlhnjdnkjgnooaaFeB
import Derived.Test.YtlhnjdnkjgnooaaHeldTail
namespace Go.Proofs.Ytlhnjdnkjgnooaa
open Go.RowKit
set_option linter.unusedVariables false
set_option maxRecDepth 100000

set_option maxHeartbeats 3200000 in
theorem narrowed_any (v0 v1 v2 v3 v4 : Nat) (b0 : v0 < 1298074214633706907132624082305024) (b1 : v1 < 1298074214633706907132624082305024) (b2 : v2 < 1298074214633706907132624082305024) (b3 : v3 < 1298074214633706907132624082305024) (b4 : v4 < 1298074214633706907132624082305024) (W : World) :
    Calls Try.prog 37 #[.agg (wide2 v0), .agg (wide2 v1), .agg (wide2 v2), .agg (wide2 v3), .agg (wide2 v4)] W (RetFe feR W (val5 v0 v1 v2 v3 v4 % PP)) := by
  have HL0 : Hid (∀ W' : World, Calls Try.prog 41 #[.agg (wide2 v0)] W' (RetV W' (.int .u64 ((v0 % M51 : Nat) : Int)))) := Lib.hid fun W' => limb_any v0 W'
  have HQ0 : Hid (∀ W' : World, Calls Try.prog 42 #[.agg (wide2 v0)] W' (RetV W' (.int .u64 ((v0 / M51 : Nat) : Int)))) := Lib.hid fun W' => carry_any v0 (by omega) W'
  have r0 : v0 % M51 < 2251799813685248 := Nat.mod_lt _ (by decide)
  have q0 : v0 / M51 < 576460752303423488 := by unfold M51; omega
  have i0 := wide2_info v0
  have HL1 : Hid (∀ W' : World, Calls Try.prog 41 #[.agg (wide2 v1)] W' (RetV W' (.int .u64 ((v1 % M51 : Nat) : Int)))) := Lib.hid fun W' => limb_any v1 W'
  have HQ1 : Hid (∀ W' : World, Calls Try.prog 42 #[.agg (wide2 v1)] W' (RetV W' (.int .u64 ((v1 / M51 : Nat) : Int)))) := Lib.hid fun W' => carry_any v1 (by omega) W'
  have r1 : v1 % M51 < 2251799813685248 := Nat.mod_lt _ (by decide)
  have q1 : v1 / M51 < 576460752303423488 := by unfold M51; omega
  have i1 := wide2_info v1
  have HL2 : Hid (∀ W' : World, Calls Try.prog 41 #[.agg (wide2 v2)] W' (RetV W' (.int .u64 ((v2 % M51 : Nat) : Int)))) := Lib.hid fun W' => limb_any v2 W'
  have HQ2 : Hid (∀ W' : World, Calls Try.prog 42 #[.agg (wide2 v2)] W' (RetV W' (.int .u64 ((v2 / M51 : Nat) : Int)))) := Lib.hid fun W' => carry_any v2 (by omega) W'
  have r2 : v2 % M51 < 2251799813685248 := Nat.mod_lt _ (by decide)
  have q2 : v2 / M51 < 576460752303423488 := by unfold M51; omega
  have i2 := wide2_info v2
  have HL3 : Hid (∀ W' : World, Calls Try.prog 41 #[.agg (wide2 v3)] W' (RetV W' (.int .u64 ((v3 % M51 : Nat) : Int)))) := Lib.hid fun W' => limb_any v3 W'
  have HQ3 : Hid (∀ W' : World, Calls Try.prog 42 #[.agg (wide2 v3)] W' (RetV W' (.int .u64 ((v3 / M51 : Nat) : Int)))) := Lib.hid fun W' => carry_any v3 (by omega) W'
  have r3 : v3 % M51 < 2251799813685248 := Nat.mod_lt _ (by decide)
  have q3 : v3 / M51 < 576460752303423488 := by unfold M51; omega
  have i3 := wide2_info v3
  have HL4 : Hid (∀ W' : World, Calls Try.prog 41 #[.agg (wide2 v4)] W' (RetV W' (.int .u64 ((v4 % M51 : Nat) : Int)))) := Lib.hid fun W' => limb_any v4 W'
  have HQ4 : Hid (∀ W' : World, Calls Try.prog 42 #[.agg (wide2 v4)] W' (RetV W' (.int .u64 ((v4 / M51 : Nat) : Int)))) := Lib.hid fun W' => carry_any v4 (by omega) W'
  have r4 : v4 % M51 < 2251799813685248 := Nat.mod_lt _ (by decide)
  have q4 : v4 / M51 < 576460752303423488 := by unfold M51; omega
  have i4 := wide2_info v4
  rw [← @val5_mod v0 v1 v2 v3 v4]
  generalize wide2 v0 = V0 at *
  generalize v0 % M51 = r0n at *
  generalize v0 / M51 = q0n at *
  generalize wide2 v1 = V1 at *
  generalize v1 % M51 = r1n at *
  generalize v1 / M51 = q1n at *
  generalize wide2 v2 = V2 at *
  generalize v2 % M51 = r2n at *
  generalize v2 / M51 = q2n at *
  generalize wide2 v3 = V3 at *
  generalize v3 % M51 = r3n at *
  generalize v3 / M51 = q3n at *
  generalize wide2 v4 = V4 at *
  generalize v4 % M51 = r4n at *
  generalize v4 / M51 = q4n at *
  clear b0 b1 b2 b3 b4
  obtain ⟨p4, w5, w6⟩ : ∃ p : Nat, IntKind.u64.wrap (19 * (q4n : Int)) = (p : Int) ∧ p = 19 * q4n := ⟨19 * q4n, by rw [IntKind.wrap_u64]; omega, rfl⟩
  obtain ⟨s0, w0, n0, j0⟩ : ∃ s : Nat, IntKind.u64.wrap ((r0n : Int) + (p4 : Int)) = (s : Int) ∧ s < 18446744073709551616 ∧ s = r0n + 19 * q4n := ⟨r0n + 19 * q4n, by rw [IntKind.wrap_u64]; omega, by omega, rfl⟩
  obtain ⟨s1, w1, n1, j1⟩ : ∃ s : Nat, IntKind.u64.wrap ((r1n : Int) + (q0n : Int)) = (s : Int) ∧ s < 18446744073709551616 ∧ s = r1n + q0n := ⟨r1n + q0n, by rw [IntKind.wrap_u64]; omega, by omega, rfl⟩
  obtain ⟨s2, w2, n2, j2⟩ : ∃ s : Nat, IntKind.u64.wrap ((r2n : Int) + (q1n : Int)) = (s : Int) ∧ s < 18446744073709551616 ∧ s = r2n + q1n := ⟨r2n + q1n, by rw [IntKind.wrap_u64]; omega, by omega, rfl⟩
  obtain ⟨s3, w3, n3, j3⟩ : ∃ s : Nat, IntKind.u64.wrap ((r3n : Int) + (q2n : Int)) = (s : Int) ∧ s < 18446744073709551616 ∧ s = r3n + q2n := ⟨r3n + q2n, by rw [IntKind.wrap_u64]; omega, by omega, rfl⟩
  obtain ⟨s4, w4, n4, j4⟩ : ∃ s : Nat, IntKind.u64.wrap ((r4n : Int) + (q3n : Int)) = (s : Int) ∧ s < 18446744073709551616 ∧ s = r4n + q3n := ⟨r4n + q3n, by rw [IntKind.wrap_u64]; omega, by omega, rfl⟩
  rw [← j0, ← j1, ← j2, ← j3, ← j4]
  have hR : feR (limb5 (carr0 s0 s4) (carr1 s1 s0) (carr1 s2 s1) (carr1 s3 s2) (carr1 s4 s3)) (val5 s0 s1 s2 s3 s4 % PP) := feR_carr n0 n1 n2 n3 n4 rfl
  have HC : Hid (∀ W' : World, Calls Try.prog 33 #[.int .u64 (s0 : Int), .int .u64 (s1 : Int), .int .u64 (s2 : Int), .int .u64 (s3 : Int), .int .u64 (s4 : Int)] W' (RetV W' (.agg (limb5 (carr0 s0 s4) (carr1 s1 s0) (carr1 s2 s1) (carr1 s3 s2) (carr1 s4 s3))))) := Lib.hid fun W' => carried_any _ _ _ _ _ n0 n1 n2 n3 n4 W'
  clear j0 j1 j2 j3 j4 w6
  have x0 : IntKind.u64.wrap (s0 : Int) = (s0 : Int) := by rw [IntKind.wrap_u64]; omega
  have x1 : IntKind.u64.wrap (s1 : Int) = (s1 : Int) := by rw [IntKind.wrap_u64]; omega
  have x2 : IntKind.u64.wrap (s2 : Int) = (s2 : Int) := by rw [IntKind.wrap_u64]; omega
  have x3 : IntKind.u64.wrap (s3 : Int) = (s3 : Int) := by rw [IntKind.wrap_u64]; omega
  have x4 : IntKind.u64.wrap (s4 : Int) = (s4 : Int) := by rw [IntKind.wrap_u64]; omega
  obtain ⟨S, hS⟩ : ∃ S, limb5 (carr0 s0 s4) (carr1 s1 s0) (carr1 s2 s1) (carr1 s3 s2) (carr1 s4 s3) = S := ⟨_, rfl⟩
  rw [hS] at HC hR
  have iS : (Try.prog.info? 26).map (·.size) = some S.size := by rw [← hS]; exact limb5_info _ _ _ _ _
  have sS : (#[.int .u64 0, .int .u64 0, .int .u64 0, .int .u64 0, .int .u64 0] : Array Value).size = S.size := by rw [← hS]; rfl
  have oS : S.all (·.oneCell') = true := by rw [← hS]; exact limb5_one _ _ _ _ _
  obtain ⟨n, hn⟩ : ∃ n, val5 s0 s1 s2 s3 s4 % PP = n := ⟨_, rfl⟩
  rw [hn] at hR ⊢
  have HP : Hid (∀ w', Below W.heap.size W w' → RetFe feR W n (.returned (.agg S)) w') := Lib.hid fun w' hb => ⟨S, rfl, hR, hb⟩
  clear hS hR hn
  clear r0 r1 r2 r3 r4 q0 q1 q2 q3 q4 n0 n1 n2 n3 n4
  have hrr : RowsW ((((((W.alloc (.cells V0 54)).alloc (.cells V1 54)).alloc (.cells V2 54)).alloc (.cells V3 54)).alloc (.cells V4 54)).alloc (.cells #[.int .u64 0, .int .u64 0, .int .u64 0, .int .u64 0, .int .u64 0] 26)) [(W.heap.size + 1 + 1 + 1 + 1 + 1, #[.int .u64 0, .int .u64 0, .int .u64 0, .int .u64 0, .int .u64 0], 26), (W.heap.size + 1 + 1 + 1 + 1, V4, 54), (W.heap.size + 1 + 1 + 1, V3, 54), (W.heap.size + 1 + 1, V2, 54), (W.heap.size + 1, V1, 54), (W.heap.size, V0, 54)] := by have h := (RowsW.box (RowsW.box (RowsW.box (RowsW.box (RowsW.box (RowsW.box (RowsW.nil W) V0 54) V1 54) V2 54) V3 54) V4 54) #[.int .u64 0, .int .u64 0, .int .u64 0, .int .u64 0, .int .u64 0] 26); simp only [World.size_alloc] at h; exact h
  obtain ⟨W1, hW1⟩ : ∃ W1, ((((((W.alloc (.cells V0 54)).alloc (.cells V1 54)).alloc (.cells V2 54)).alloc (.cells V3 54)).alloc (.cells V4 54)).alloc (.cells #[.int .u64 0, .int .u64 0, .int .u64 0, .int .u64 0, .int .u64 0] 26)) = W1 := ⟨_, rfl⟩
  rw [hW1] at hrr
  have hb1 : Below W.heap.size W W1 := by rw [← hW1]; exact below_alloc (below_alloc (below_alloc (below_alloc (below_alloc (below_alloc (Below.refl _ _) _) _) _) _) _) _
  have HR := Lib.hid hrr
  have HB1 := Lib.hid hb1
  have HW1 := Lib.hid hW1
  clear hrr hb1 hW1
  go_enter Try.func37, Try.ntmps37
  go_upto_region 1 with fail
  rw [HW1.out]
  refine wp_region_noPanic ?_
  refine wp_region_held_tail (S := fun W => Below W1.heap.size W1 W) 26 (by kernel_rfl) ⟨by kernel_rfl, by kernel_rfl, by kernel_rfl, by kernel_rfl⟩ (by exact (Below.refl _ _).drew) (fun hT inv hS => ?_)
  refine' take_atT 0 hT inv rfl (by omega) (by kernel_rfl) (by kernel_rfl) (fun _ _ _ h => h) (by rfl) hS ?_ ?_ ?_
  rotate_left 2
  · intro W hSW; exact run_loadR rfl rfl (HR.out.below hSW).tail.tail.tail.tail.tail.head Try.underlying54 rfl i0
  · simp only [List.set_cons_succ, List.set_cons_zero]; rfl
  intro inv
  refine' take_atT 2 hT inv rfl (by omega) (by kernel_rfl) (by kernel_rfl) (fun _ _ _ h => h) (by rfl) hS ?_ ?_ ?_
  rotate_left 2
  · intro W hSW; exact run_loadR rfl rfl (HR.out.below hSW).tail.head Try.underlying54 rfl i4
  · simp only [List.set_cons_succ, List.set_cons_zero]; rfl
  intro inv
  refine' take_atT 6 hT inv rfl (by omega) (by kernel_rfl) (by kernel_rfl) (fun _ _ _ h => h) (by rfl) hS ?_ ?_ ?_
  rotate_left 2
  · intro W hSW; exact run_loadR rfl rfl (HR.out.below hSW).tail.tail.tail.tail.head Try.underlying54 rfl i1
  · simp only [List.set_cons_succ, List.set_cons_zero]; rfl
  intro inv
  refine' take_atT 8 hT inv rfl (by omega) (by kernel_rfl) (by kernel_rfl) (fun _ _ _ h => h) (by rfl) hS ?_ ?_ ?_
  rotate_left 2
  · intro W hSW; exact run_loadR rfl rfl (HR.out.below hSW).tail.tail.tail.tail.tail.head Try.underlying54 rfl i0
  · simp only [List.set_cons_succ, List.set_cons_zero]; rfl
  intro inv
  refine' take_atT 11 hT inv rfl (by omega) (by kernel_rfl) (by kernel_rfl) (fun _ _ _ h => h) (by rfl) hS ?_ ?_ ?_
  rotate_left 2
  · intro W hSW; exact run_loadR rfl rfl (HR.out.below hSW).tail.tail.tail.head Try.underlying54 rfl i2
  · simp only [List.set_cons_succ, List.set_cons_zero]; rfl
  intro inv
  refine' take_atT 13 hT inv rfl (by omega) (by kernel_rfl) (by kernel_rfl) (fun _ _ _ h => h) (by rfl) hS ?_ ?_ ?_
  rotate_left 2
  · intro W hSW; exact run_loadR rfl rfl (HR.out.below hSW).tail.tail.tail.tail.head Try.underlying54 rfl i1
  · simp only [List.set_cons_succ, List.set_cons_zero]; rfl
  intro inv
  refine' take_atT 16 hT inv rfl (by omega) (by kernel_rfl) (by kernel_rfl) (fun _ _ _ h => h) (by rfl) hS ?_ ?_ ?_
  rotate_left 2
  · intro W hSW; exact run_loadR rfl rfl (HR.out.below hSW).tail.tail.head Try.underlying54 rfl i3
  · simp only [List.set_cons_succ, List.set_cons_zero]; rfl
  intro inv
  refine' take_atT 18 hT inv rfl (by omega) (by kernel_rfl) (by kernel_rfl) (fun _ _ _ h => h) (by rfl) hS ?_ ?_ ?_
  rotate_left 2
  · intro W hSW; exact run_loadR rfl rfl (HR.out.below hSW).tail.tail.tail.head Try.underlying54 rfl i2
  · simp only [List.set_cons_succ, List.set_cons_zero]; rfl
  intro inv
  refine' take_atT 21 hT inv rfl (by omega) (by kernel_rfl) (by kernel_rfl) (fun _ _ _ h => h) (by rfl) hS ?_ ?_ ?_
  rotate_left 2
  · intro W hSW; exact run_loadR rfl rfl (HR.out.below hSW).tail.head Try.underlying54 rfl i4
  · simp only [List.set_cons_succ, List.set_cons_zero]; rfl
  intro inv
  refine' take_atT 23 hT inv rfl (by omega) (by kernel_rfl) (by kernel_rfl) (fun _ _ _ h => h) (by rfl) hS ?_ ?_ ?_
  rotate_left 2
  · intro W hSW; exact run_loadR rfl rfl (HR.out.below hSW).tail.tail.head Try.underlying54 rfl i3
  · simp only [List.set_cons_succ, List.set_cons_zero]; rfl
  intro inv
  refine call_atT 1 inv rfl (by omega) (by kernel_rfl) (by rfl) (fun K hK => ?_)
  go_simp
  with_reducible refine (HL0.out _).mono ?_
  rintro e u1 ⟨rfl, hb1⟩
  have kb1 := below_next hS hb1
  clear hS hb1
  refine hK.out _ _ (by exact kb1) (fun inv hS => ?_)
  clear hK K
  refine call_atT 3 inv rfl (by omega) (by kernel_rfl) (by rfl) (fun K hK => ?_)
  go_simp
  with_reducible refine (HQ4.out _).mono ?_
  rintro e u2 ⟨rfl, hb2⟩
  have kb2 := below_next hS hb2
  clear hS hb2
  refine hK.out _ _ (by exact kb2) (fun inv hS => ?_)
  clear hK K
  refine' take_atT 4 hT inv rfl (by omega) (by kernel_rfl) (by kernel_rfl) (fun _ _ _ h => h) (by rfl) hS ?_ ?_ ?_
  rotate_left 2
  · intro W hSW; go_simp; try with_reducible rfl
  · simp only [List.set_cons_succ, List.set_cons_zero]; rfl
  intro inv
  refine' take_atT 5 hT inv rfl (by omega) (by kernel_rfl) (by kernel_rfl) (fun _ _ _ h => h) (by rfl) hS ?_ ?_ ?_
  rotate_left 2
  · intro W hSW; go_simp; try with_reducible rfl
  · simp only [List.set_cons_succ, List.set_cons_zero]; rfl
  intro inv
  refine call_atT 7 inv rfl (by omega) (by kernel_rfl) (by rfl) (fun K hK => ?_)
  go_simp
  with_reducible refine (HL1.out _).mono ?_
  rintro e u3 ⟨rfl, hb3⟩
  have kb3 := below_next hS hb3
  clear hS hb3
  refine hK.out _ _ (by exact kb3) (fun inv hS => ?_)
  clear hK K
  refine call_atT 9 inv rfl (by omega) (by kernel_rfl) (by rfl) (fun K hK => ?_)
  go_simp
  with_reducible refine (HQ0.out _).mono ?_
  rintro e u4 ⟨rfl, hb4⟩
  have kb4 := below_next hS hb4
  clear hS hb4
  refine hK.out _ _ (by exact kb4) (fun inv hS => ?_)
  clear hK K
  refine' take_atT 10 hT inv rfl (by omega) (by kernel_rfl) (by kernel_rfl) (fun _ _ _ h => h) (by rfl) hS ?_ ?_ ?_
  rotate_left 2
  · intro W hSW; go_simp; try with_reducible rfl
  · simp only [List.set_cons_succ, List.set_cons_zero]; rfl
  intro inv
  refine call_atT 12 inv rfl (by omega) (by kernel_rfl) (by rfl) (fun K hK => ?_)
  go_simp
  with_reducible refine (HL2.out _).mono ?_
  rintro e u5 ⟨rfl, hb5⟩
  have kb5 := below_next hS hb5
  clear hS hb5
  refine hK.out _ _ (by exact kb5) (fun inv hS => ?_)
  clear hK K
  refine call_atT 14 inv rfl (by omega) (by kernel_rfl) (by rfl) (fun K hK => ?_)
  go_simp
  with_reducible refine (HQ1.out _).mono ?_
  rintro e u6 ⟨rfl, hb6⟩
  have kb6 := below_next hS hb6
  clear hS hb6
  refine hK.out _ _ (by exact kb6) (fun inv hS => ?_)
  clear hK K
  refine' take_atT 15 hT inv rfl (by omega) (by kernel_rfl) (by kernel_rfl) (fun _ _ _ h => h) (by rfl) hS ?_ ?_ ?_
  rotate_left 2
  · intro W hSW; go_simp; try with_reducible rfl
  · simp only [List.set_cons_succ, List.set_cons_zero]; rfl
  intro inv
  refine call_atT 17 inv rfl (by omega) (by kernel_rfl) (by rfl) (fun K hK => ?_)
  go_simp
  with_reducible refine (HL3.out _).mono ?_
  rintro e u7 ⟨rfl, hb7⟩
  have kb7 := below_next hS hb7
  clear hS hb7
  refine hK.out _ _ (by exact kb7) (fun inv hS => ?_)
  clear hK K
  refine call_atT 19 inv rfl (by omega) (by kernel_rfl) (by rfl) (fun K hK => ?_)
  go_simp
  with_reducible refine (HQ2.out _).mono ?_
  rintro e u8 ⟨rfl, hb8⟩
  have kb8 := below_next hS hb8
  clear hS hb8
  refine hK.out _ _ (by exact kb8) (fun inv hS => ?_)
  clear hK K
  refine' take_atT 20 hT inv rfl (by omega) (by kernel_rfl) (by kernel_rfl) (fun _ _ _ h => h) (by rfl) hS ?_ ?_ ?_
  rotate_left 2
  · intro W hSW; go_simp; try with_reducible rfl
  · simp only [List.set_cons_succ, List.set_cons_zero]; rfl
  intro inv
  refine call_atT 22 inv rfl (by omega) (by kernel_rfl) (by rfl) (fun K hK => ?_)
  go_simp
  with_reducible refine (HL4.out _).mono ?_
  rintro e u9 ⟨rfl, hb9⟩
  have kb9 := below_next hS hb9
  clear hS hb9
  refine hK.out _ _ (by exact kb9) (fun inv hS => ?_)
  clear hK K
  refine call_atT 24 inv rfl (by omega) (by kernel_rfl) (by rfl) (fun K hK => ?_)
  go_simp
  with_reducible refine (HQ3.out _).mono ?_
  rintro e u10 ⟨rfl, hb10⟩
  have kb10 := below_next hS hb10
  clear hS hb10
  refine hK.out _ _ (by exact kb10) (fun inv hS => ?_)
  clear hK K
  refine' take_atT 25 hT inv rfl (by omega) (by kernel_rfl) (by kernel_rfl) (fun _ _ _ h => h) (by rfl) hS ?_ ?_ ?_
  rotate_left 2
  · intro W hSW; go_simp; try with_reducible rfl
  · simp only [List.set_cons_succ, List.set_cons_zero]; rfl
  intro inv
  refine done_atT (by kernel_rfl) ?_
  simp only [List.drop_succ_cons, List.drop_zero]
  clear hS
  (try simp only [Act.put])
  have HR2 := Lib.hid (HR.out.below kb10)
  have HB2 := Lib.hid (below_next HB1.out kb10)
  clear kb1 kb2 kb3 kb4 kb5 kb6 kb7 kb8 kb9 kb10
  go_wp2_with fail
  with_reducible refine (HC.out _).mono ?_
  rintro e w2 ⟨rfl, hb2⟩
  have hr2 := (HR2.out.below hb2).head
  have HE : Hid (Below W.heap.size W (w2.setRow (W.heap.size + 1 + 1 + 1 + 1 + 1) S)) := Lib.hid (below_row (below_next HB2.out hb2) (by omega))
  clear hb2
  go_wp2_with (refine wpList_store_row rfl 26 (.tmp 10) (.tmp 37) rfl (W.heap.size + 1 + 1 + 1 + 1 + 1) S rfl rfl 26 #[.int .u64 0, .int .u64 0, .int .u64 0, .int .u64 0, .int .u64 0] hr2 iS sS oS ?_)
  refine NoPanic.normal ?_
  go_wp2_with fail
  (try simp only [Exit.inBlock, Exit.then])
  refine bodyPost_ret (results_cell_row rfl _ _ (W.heap.size + 1 + 1 + 1 + 1 + 1) _ S _ _ rfl (setRow_heap w2 _ _ _ _ _ hr2) Try.underlying26 rfl iS) rfl ?_
  exact HP.out _ HE.out
end Go.Proofs.Ytlhnjdnkjgnooaa

