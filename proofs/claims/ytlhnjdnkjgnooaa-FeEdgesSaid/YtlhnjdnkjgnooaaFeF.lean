/- The contracts of the developers' reduced, Equal, IsZero, Odd. -/
import Derived.Test.YtlhnjdnkjgnooaaFeB
namespace Go.Proofs.Ytlhnjdnkjgnooaa
open Go.RowKit
set_option linter.unusedVariables false
set_option maxRecDepth 100000

theorem and1u (q : Nat) (h : q < 18446744073709551616) : bits .and .u64 (q : Int) 1 = ((q % 2 : Nat) : Int) := by
  have := u64_and_nat q 1 h (by omega)
  rwa [Nat.and_one_is_mod] at this

/-- a number's own limbs -/
def redA (x : Nat) : Array Value := limb5 (x % M51) (x / M51 % M51) (x / M102 % M51) (x / M153 % M51) (x / M204 % M51)
theorem redA_of {r0 r1 r2 r3 r4 x : Nat} (h0 : r0 < M51) (h1 : r1 < M51) (h2 : r2 < M51) (h3 : r3 < M51) (h4 : r4 < M51) (h : val5 r0 r1 r2 r3 r4 = x) : limb5 r0 r1 r2 r3 r4 = redA x := by
  have hx := val5_lim h0 h1 h2 h3 h4
  rw [h] at hx
  have hv := val5_bits x
  rw [Nat.mod_eq_of_lt hx, ← h] at hv
  rw [h] at hv
  have m := fun y : Nat => Nat.mod_lt y (show M51 > 0 by decide)
  obtain ⟨e0, e1, e2, e3, e4⟩ := val5_inj (m _) (m _) (m _) (m _) h0 h1 h2 h3 (hv.trans h.symm)
  unfold redA
  rw [e0, e1, e2, e3, e4]

set_option maxHeartbeats 3200000 in
theorem reduced_any {c : Array Value} {x : Nat} (hx : feR c x) (W : World) : Calls Try.prog 32 #[.agg c] W (RetV W (.agg (redA x))) := by
  obtain ⟨a0, a1, a2, a3, a4, rfl, ha0, ha1, ha2, ha3, ha4, rfl⟩ := hx
  have ja0 := ha0
  have ja1 := ha1
  have ja2 := ha2
  have ja3 := ha3
  have ja4 := ha4
  unfold L51 at ha0 ha1 ha2 ha3 ha4
  obtain ⟨k0, u0, v0, g0⟩ : ∃ k : Nat, (a0 : Int) + 19 = (k : Int) ∧ k < 4503599627370496 ∧ k = a0 + 19 := ⟨a0 + 19, by omega, by omega, rfl⟩
  obtain ⟨o1, p1, q1, g1o⟩ : ∃ o : Nat, (k0 : Int) / 2251799813685248 = (o : Int) ∧ o < 8192 ∧ o = (a0 + 19) / M51 := ⟨k0 / 2251799813685248, by omega, by omega, by rw [g0]⟩
  obtain ⟨k1, u1, v1, g1⟩ : ∃ k : Nat, (a1 : Int) + (o1 : Int) = (k : Int) ∧ k < 4503599627370496 ∧ k = a1 + o1 := ⟨a1 + o1, by omega, by omega, rfl⟩
  obtain ⟨o2, p2, q2, g2o⟩ : ∃ o : Nat, (k1 : Int) / 2251799813685248 = (o : Int) ∧ o < 8192 ∧ o = (a1 + o1) / M51 := ⟨k1 / 2251799813685248, by omega, by omega, by rw [g1]⟩
  obtain ⟨k2, u2, v2, g2⟩ : ∃ k : Nat, (a2 : Int) + (o2 : Int) = (k : Int) ∧ k < 4503599627370496 ∧ k = a2 + o2 := ⟨a2 + o2, by omega, by omega, rfl⟩
  obtain ⟨o3, p3, q3, g3o⟩ : ∃ o : Nat, (k2 : Int) / 2251799813685248 = (o : Int) ∧ o < 8192 ∧ o = (a2 + o2) / M51 := ⟨k2 / 2251799813685248, by omega, by omega, by rw [g2]⟩
  obtain ⟨k3, u3, v3, g3⟩ : ∃ k : Nat, (a3 : Int) + (o3 : Int) = (k : Int) ∧ k < 4503599627370496 ∧ k = a3 + o3 := ⟨a3 + o3, by omega, by omega, rfl⟩
  obtain ⟨o4, p4, q4, g4o⟩ : ∃ o : Nat, (k3 : Int) / 2251799813685248 = (o : Int) ∧ o < 8192 ∧ o = (a3 + o3) / M51 := ⟨k3 / 2251799813685248, by omega, by omega, by rw [g3]⟩
  obtain ⟨k4, u4, v4, g4⟩ : ∃ k : Nat, (a4 : Int) + (o4 : Int) = (k : Int) ∧ k < 4503599627370496 ∧ k = a4 + o4 := ⟨a4 + o4, by omega, by omega, rfl⟩
  obtain ⟨o5, p5, q5, g5o⟩ : ∃ o : Nat, (k4 : Int) / 2251799813685248 = (o : Int) ∧ o < 8192 ∧ o = (a4 + o4) / M51 := ⟨k4 / 2251799813685248, by omega, by omega, by rw [g4]⟩
  obtain ⟨m0, um, vm, gm⟩ : ∃ k : Nat, 19 * (o5 : Int) = (k : Int) ∧ k < 155649 ∧ k = 19 * o5 := ⟨19 * o5, by omega, by omega, rfl⟩
  obtain ⟨l0, x0, y0, z0⟩ : ∃ k : Nat, (a0 : Int) + (m0 : Int) = (k : Int) ∧ k < 4503599627370496 ∧ k = a0 + 19 * o5 := ⟨a0 + m0, by omega, by omega, by rw [gm]⟩
  obtain ⟨t0, s0, i0, j0⟩ : ∃ o : Nat, (l0 : Int) / 2251799813685248 = (o : Int) ∧ o < 8192 ∧ o = l0 / M51 := ⟨l0 / 2251799813685248, by omega, by omega, rfl⟩
  obtain ⟨l1, x1, y1, z1⟩ : ∃ k : Nat, (a1 : Int) + (t0 : Int) = (k : Int) ∧ k < 4503599627370496 ∧ k = a1 + l0 / M51 := ⟨a1 + t0, by omega, by omega, by rw [j0]⟩
  obtain ⟨t1, s1, i1, j1⟩ : ∃ o : Nat, (l1 : Int) / 2251799813685248 = (o : Int) ∧ o < 8192 ∧ o = l1 / M51 := ⟨l1 / 2251799813685248, by omega, by omega, rfl⟩
  obtain ⟨l2, x2, y2, z2⟩ : ∃ k : Nat, (a2 : Int) + (t1 : Int) = (k : Int) ∧ k < 4503599627370496 ∧ k = a2 + l1 / M51 := ⟨a2 + t1, by omega, by omega, by rw [j1]⟩
  obtain ⟨t2, s2, i2, j2⟩ : ∃ o : Nat, (l2 : Int) / 2251799813685248 = (o : Int) ∧ o < 8192 ∧ o = l2 / M51 := ⟨l2 / 2251799813685248, by omega, by omega, rfl⟩
  obtain ⟨l3, x3, y3, z3⟩ : ∃ k : Nat, (a3 : Int) + (t2 : Int) = (k : Int) ∧ k < 4503599627370496 ∧ k = a3 + l2 / M51 := ⟨a3 + t2, by omega, by omega, by rw [j2]⟩
  obtain ⟨t3, s3, i3, j3⟩ : ∃ o : Nat, (l3 : Int) / 2251799813685248 = (o : Int) ∧ o < 8192 ∧ o = l3 / M51 := ⟨l3 / 2251799813685248, by omega, by omega, rfl⟩
  obtain ⟨l4, x4, y4, z4⟩ : ∃ k : Nat, (a4 : Int) + (t3 : Int) = (k : Int) ∧ k < 4503599627370496 ∧ k = a4 + l3 / M51 := ⟨a4 + t3, by omega, by omega, by rw [j3]⟩
  have w0 := and51 l0 (by omega)
  have w1 := and51 l1 (by omega)
  have w2 := and51 l2 (by omega)
  have w3 := and51 l3 (by omega)
  have w4 := and51 l4 (by omega)
  have hv := reduced_val ja0 ja1 ja2 ja3 ja4 g1o g2o g3o g4o g5o z0 z1 z2 z3 z4
  have hm := fun y : Nat => Nat.mod_lt y (show M51 > 0 by decide)
  have hA := redA_of (hm l0) (hm l1) (hm l2) (hm l3) (hm l4) hv
  rw [← hA]
  unfold limb5
  have n0 := hm l0
  generalize l0 % M51 = r0 at *
  have n1 := hm l1
  generalize l1 % M51 = r1 at *
  have n2 := hm l2
  generalize l2 % M51 = r2 at *
  have n3 := hm l3
  generalize l3 % M51 = r3 at *
  have n4 := hm l4
  generalize l4 % M51 = r4 at *
  clear hA hv hm ja0 ja1 ja2 ja3 ja4 gm g0 g1 g2 g3 g4 g1o g2o g3o g4o g5o z0 z1 z2 z3 z4 j0 j1 j2 j3
  have W0' : Hid (bits .and .u64 (l0 : Int) 2251799813685247 = (r0 : Int)) := Lib.hid w0
  clear w0 n0
  have W1' : Hid (bits .and .u64 (l1 : Int) 2251799813685247 = (r1 : Int)) := Lib.hid w1
  clear w1 n1
  have W2' : Hid (bits .and .u64 (l2 : Int) 2251799813685247 = (r2 : Int)) := Lib.hid w2
  clear w2 n2
  have W3' : Hid (bits .and .u64 (l3 : Int) 2251799813685247 = (r3 : Int)) := Lib.hid w3
  clear w3 n3
  have W4' : Hid (bits .and .u64 (l4 : Int) 2251799813685247 = (r4 : Int)) := Lib.hid w4
  clear w4 n4
  have Hu0 := Lib.hid u0
  clear u0
  have Hv0 := Lib.hid v0
  clear v0
  have Hp1 := Lib.hid p1
  clear p1
  have Hq1 := Lib.hid q1
  clear q1
  have Hu1 := Lib.hid u1
  clear u1
  have Hv1 := Lib.hid v1
  clear v1
  have Hp2 := Lib.hid p2
  clear p2
  have Hq2 := Lib.hid q2
  clear q2
  have Hu2 := Lib.hid u2
  clear u2
  have Hv2 := Lib.hid v2
  clear v2
  have Hp3 := Lib.hid p3
  clear p3
  have Hq3 := Lib.hid q3
  clear q3
  have Hu3 := Lib.hid u3
  clear u3
  have Hv3 := Lib.hid v3
  clear v3
  have Hp4 := Lib.hid p4
  clear p4
  have Hq4 := Lib.hid q4
  clear q4
  have Hu4 := Lib.hid u4
  clear u4
  have Hv4 := Lib.hid v4
  clear v4
  have Hp5 := Lib.hid p5
  clear p5
  have Hq5 := Lib.hid q5
  clear q5
  have Hum := Lib.hid um
  clear um
  have Hvm := Lib.hid vm
  clear vm
  have Hx0 := Lib.hid x0
  clear x0
  have Hy0 := Lib.hid y0
  clear y0
  have Hs0 := Lib.hid s0
  clear s0
  have Hi0 := Lib.hid i0
  clear i0
  have Hx1 := Lib.hid x1
  clear x1
  have Hy1 := Lib.hid y1
  clear y1
  have Hs1 := Lib.hid s1
  clear s1
  have Hi1 := Lib.hid i1
  clear i1
  have Hx2 := Lib.hid x2
  clear x2
  have Hy2 := Lib.hid y2
  clear y2
  have Hs2 := Lib.hid s2
  clear s2
  have Hi2 := Lib.hid i2
  clear i2
  have Hx3 := Lib.hid x3
  clear x3
  have Hy3 := Lib.hid y3
  clear y3
  have Hs3 := Lib.hid s3
  clear s3
  have Hi3 := Lib.hid i3
  clear i3
  have Hx4 := Lib.hid x4
  clear x4
  have Hy4 := Lib.hid y4
  clear y4
  have Hha0 := Lib.hid ha0
  clear ha0
  have Hha1 := Lib.hid ha1
  clear ha1
  have Hha2 := Lib.hid ha2
  clear ha2
  have Hha3 := Lib.hid ha3
  clear ha3
  have Hha4 := Lib.hid ha4
  clear ha4
  go_enter Try.func32, Try.ntmps32
  go_upto_region 1 with fail
  have u0 := Hu0.out
  have v0 := Hv0.out
  have p1 := Hp1.out
  have q1 := Hq1.out
  have ha0 := Hha0.out
  go_upto_region 2 with fail
  clear u0 v0 p1 q1 ha0
  have u1 := Hu1.out
  have v1 := Hv1.out
  have p2 := Hp2.out
  have q2 := Hq2.out
  have ha1 := Hha1.out
  have q1 := Hq1.out
  go_upto_region 3 with fail
  clear u1 v1 p2 q2 ha1 q1
  have u2 := Hu2.out
  have v2 := Hv2.out
  have p3 := Hp3.out
  have q3 := Hq3.out
  have ha2 := Hha2.out
  have q2 := Hq2.out
  go_upto_region 4 with fail
  clear u2 v2 p3 q3 ha2 q2
  have u3 := Hu3.out
  have v3 := Hv3.out
  have p4 := Hp4.out
  have q4 := Hq4.out
  have ha3 := Hha3.out
  have q3 := Hq3.out
  go_upto_region 5 with fail
  clear u3 v3 p4 q4 ha3 q3
  have u4 := Hu4.out
  have v4 := Hv4.out
  have p5 := Hp5.out
  have q5 := Hq5.out
  have ha4 := Hha4.out
  have q4 := Hq4.out
  go_upto_region 6 with fail
  clear u4 v4 p5 q5 ha4 q4
  have um := Hum.out
  have vm := Hvm.out
  have x0 := Hx0.out
  have y0 := Hy0.out
  have q5 := Hq5.out
  have ha0 := Hha0.out
  go_upto_region 7 with fail
  clear um vm x0 y0 q5 ha0
  have s0 := Hs0.out
  have i0 := Hi0.out
  have x1 := Hx1.out
  have y1 := Hy1.out
  have ha1 := Hha1.out
  go_upto_region 8 with fail
  clear s0 i0 x1 y1 ha1
  have s1 := Hs1.out
  have i1 := Hi1.out
  have x2 := Hx2.out
  have y2 := Hy2.out
  have ha2 := Hha2.out
  go_upto_region 9 with fail
  clear s1 i1 x2 y2 ha2
  have s2 := Hs2.out
  have i2 := Hi2.out
  have x3 := Hx3.out
  have y3 := Hy3.out
  have ha3 := Hha3.out
  go_upto_region 10 with fail
  clear s2 i2 x3 y3 ha3
  have s3 := Hs3.out
  have i3 := Hi3.out
  have x4 := Hx4.out
  have y4 := Hy4.out
  have ha4 := Hha4.out
  go_upto_region 11 with fail
  clear s3 i3 x4 y4 ha4
  have w0 := W0'.out
  have w1 := W1'.out
  have w2 := W2'.out
  have w3 := W3'.out
  have w4 := W4'.out
  go_wp2
  refine bodyPost_ret (v := .agg #[.int .u64 (r0 : Int), .int .u64 (r1 : Int), .int .u64 (r2 : Int), .int .u64 (r3 : Int), .int .u64 (r4 : Int)]) (by simp [results, Try.results32, go_sem]) rfl ⟨rfl, ?_⟩
  exact ((Below.refl _ _).alloc (Nat.le_refl _) _).alloc (by simp) _

theorem eqL5 (a b c d e a' b' c' d' e' : Nat) (u : World) : (binOp .eql 26 (.agg (limb5 a b c d e)) (.agg (limb5 a' b' c' d' e'))).run Try.prog u = .ok (.bool (decide (a = a' ∧ b = b' ∧ c = c' ∧ d = d' ∧ e = e'))) u := by
  rw [run_eql_struct, run_equalIn_struct _ 9999 _ _ _ (by kernel_rfl) (by kernel_rfl)]
  unfold limb5
  go_simp
  by_cases h0 : a = a' <;> by_cases h1 : b = b' <;> by_cases h2 : c = c' <;> by_cases h3 : d = d' <;> by_cases h4 : e = e' <;> simp [h0, h1, h2, h3, h4, Int.natCast_inj]
theorem eqRed {x y : Nat} (hx : x < PP) (hy : y < PP) (u : World) : (binOp .eql 26 (.agg (redA x)) (.agg (redA y))).run Try.prog u = .ok (.bool (decide (x = y))) u := by
  unfold redA
  rw [eqL5]
  have e : (x % M51 = y % M51 ∧ x / M51 % M51 = y / M51 % M51 ∧ x / M102 % M51 = y / M102 % M51 ∧ x / M153 % M51 = y / M153 % M51 ∧ x / M204 % M51 = y / M204 % M51) ↔ x = y := by
    constructor
    · rintro ⟨h0, h1, h2, h3, h4⟩
      have a := val5_bits x
      have b := val5_bits y
      rw [h0, h1, h2, h3, h4, b] at a
      rw [Nat.mod_eq_of_lt (show x < TT by unfold PP at hx; unfold TT; omega), Nat.mod_eq_of_lt (show y < TT by unfold PP at hy; unfold TT; omega)] at a
      exact a.symm
    · intro h; subst h; exact ⟨rfl, rfl, rfl, rfl, rfl⟩
  rw [decide_eq_decide.2 e]
theorem fieldT (r0 r1 r2 r3 r4 : Nat) (u : World) : (Instr.field 26 (.agg #[.int .u64 (r0 : Int), .int .u64 (r1 : Int), .int .u64 (r2 : Int), .int .u64 (r3 : Int), .int .u64 (r4 : Int)]) 0).run Try.prog u = .ok (.int .u64 (r0 : Int)) u := by kernel_rfl
theorem guardFe : Try.prog.eqGuardType Try.prog.depth 26 = false := by kernel_rfl

set_option maxHeartbeats 1600000 in
theorem feequal_any {c d : Array Value} {x y : Nat} (hx : feR c x) (hy : feR d y) (W : World) : Calls Try.prog 30 #[.agg c, .agg d] W (RetV W (.bool (decide (x = y)))) := by
  have HX : Hid (∀ W' : World, Calls Try.prog 32 #[.agg c] W' (RetV W' (.agg (redA x)))) := Lib.hid fun W' => reduced_any hx W'
  have HY : Hid (∀ W' : World, Calls Try.prog 32 #[.agg d] W' (RetV W' (.agg (redA y)))) := Lib.hid fun W' => reduced_any hy W'
  have hxl : x < PP := by obtain ⟨_, _, _, _, _, -, -, -, -, -, -, rfl⟩ := hx; exact Nat.mod_lt _ (by decide)
  have hyl : y < PP := by obtain ⟨_, _, _, _, _, -, -, -, -, -, -, rfl⟩ := hy; exact Nat.mod_lt _ (by decide)
  have HE : Hid (∀ u : World, (binOp .eql 26 (.agg (redA x)) (.agg (redA y))).run Try.prog u = .ok (.bool (decide (x = y))) u) := Lib.hid fun u => eqRed hxl hyl u
  have ic := feR_info hx
  have id := feR_info hy
  generalize decide (x = y) = b at *
  generalize redA x = X at *
  generalize redA y = Y at *
  clear hx hy hxl hyl
  have hrr : RowsW ((W.alloc (.cells c 26)).alloc (.cells d 26)) [(W.heap.size + 1, d, 26), (W.heap.size, c, 26)] := by have h := (RowsW.box (RowsW.box (RowsW.nil W) c 26) d 26); simp only [World.size_alloc] at h; exact h
  obtain ⟨W1, hW1⟩ : ∃ W1, ((W.alloc (.cells c 26)).alloc (.cells d 26)) = W1 := ⟨_, rfl⟩
  rw [hW1] at hrr
  have hb1 : Below W.heap.size W W1 := by rw [← hW1]; exact below_alloc (below_alloc (Below.refl _ _) _) _
  have HR := Lib.hid hrr
  have HB1 := Lib.hid hb1
  have HW1 := Lib.hid hW1
  clear hrr hb1 hW1
  go_enter Try.func30, Try.ntmps30
  go_upto_region 1 with fail
  rw [HW1.out]
  refine wp_region_noPanic ?_
  refine wp_region_held_drew (S := fun W => Below W1.heap.size W1 W) (by kernel_rfl) (by exact (Below.refl _ _).drew) (fun hS => ?_)
  refine' take_at 0 rfl (by kernel_rfl) (by kernel_rfl) (by kernel_rfl) (fun _ _ _ h => h) (by rfl) hS ?_ ?_ ?_
  rotate_left 2
  · intro W hSW; exact run_loadR rfl rfl (HR.out.below hSW).tail.head Try.underlying26 rfl ic
  · simp only [List.set_cons_succ, List.set_cons_zero]; rfl
  refine' take_at 2 rfl (by kernel_rfl) (by kernel_rfl) (by kernel_rfl) (fun _ _ _ h => h) (by rfl) hS ?_ ?_ ?_
  rotate_left 2
  · intro W hSW; exact run_loadR rfl rfl (HR.out.below hSW).head Try.underlying26 rfl id
  · simp only [List.set_cons_succ, List.set_cons_zero]; rfl
  refine call_at 1 rfl (by kernel_rfl) (by rfl) (fun K hK => ?_)
  go_simp
  with_reducible refine (HX.out _).mono ?_
  rintro e u1 ⟨rfl, hb1⟩
  have kb1 := below_next hS hb1
  clear hS hb1
  refine hK.out _ _ (by exact kb1) (fun hS => ?_)
  clear hK K
  refine call_at 3 rfl (by kernel_rfl) (by rfl) (fun K hK => ?_)
  go_simp
  with_reducible refine (HY.out _).mono ?_
  rintro e u2 ⟨rfl, hb2⟩
  have kb2 := below_next hS hb2
  clear hS hb2
  refine hK.out _ _ (by exact kb2) (fun hS => ?_)
  clear hK K
  refine' take_at 4 rfl (by kernel_rfl) (by kernel_rfl) (by kernel_rfl) (fun _ _ _ h => h) (by rfl) hS ?_ ?_ ?_
  rotate_left 2
  · intro W hSW; exact run_eql2 rfl rfl rfl guardFe (HE.out W)
  · simp only [List.set_cons_succ, List.set_cons_zero]; rfl
  refine' take_at 5 rfl (by kernel_rfl) (by kernel_rfl) (by kernel_rfl) (fun _ _ _ h => h) (by rfl) hS ?_ ?_ ?_
  rotate_left 2
  · intro W hSW; go_simp; try with_reducible rfl
  · simp only [List.set_cons_succ, List.set_cons_zero]; rfl
  refine wpAnyH_done (by kernel_rfl) ?_ _
  refine NoPanic.normal ?_
  clear hS
  (try simp only [Act.put])
  have HB2 := Lib.hid (below_next HB1.out kb2)
  clear kb1 kb2
  go_wp2_with fail
  go_ret
  exact ⟨rfl, HB2.out⟩

set_option maxHeartbeats 1600000 in
theorem feiszero_any {c : Array Value} {x : Nat} (hx : feR c x) (W : World) : Calls Try.prog 20 #[.agg c] W (RetV W (.bool (decide (x = 0)))) := by
  have HX : Hid (∀ W' : World, Calls Try.prog 32 #[.agg c] W' (RetV W' (.agg (redA x)))) := Lib.hid fun W' => reduced_any hx W'
  have hxl : x < PP := by obtain ⟨_, _, _, _, _, -, -, -, -, -, -, rfl⟩ := hx; exact Nat.mod_lt _ (by decide)
  have HE : Hid (∀ u : World, (binOp .eql 26 (.agg (redA x)) (.agg (#[.int .u64 0, .int .u64 0, .int .u64 0, .int .u64 0, .int .u64 0]))).run Try.prog u = .ok (.bool (decide (x = 0))) u) := Lib.hid fun u => by
    have h := eqRed hxl (show 0 < PP by decide) u
    exact h
  have ic := feR_info hx
  have hrc : (W.alloc (.cells c 26)).heap[W.heap.size]? = some (.cells c 26 (0, 0)) := heap_alloc_new _ _
  have HB : Hid (Below W.heap.size W (W.alloc (.cells c 26))) := Lib.hid (below_alloc (Below.refl _ _) _)
  generalize decide (x = 0) = b at *
  generalize redA x = X at *
  clear hx hxl
  go_enter Try.func20, Try.ntmps20
  go_wp2_with (refine wpList_load_row rfl 26 (.tmp 1) rfl W.heap.size rfl 26 c (0, 0) _ hrc Try.underlying26 rfl ic ?_)
  with_reducible refine (HX.out _).mono ?_
  rintro e w2 ⟨rfl, hb2⟩
  have HB2 := Lib.hid (below_next HB.out hb2)
  clear hb2
  go_wp2_with (refine wpList_runsV (o := ⟨some 6, _, _, _, _, _⟩) rfl (.bool b) (run_eql2 rfl rfl rfl guardFe (HE.out _)) ?_)
  go_ret
  exact ⟨rfl, HB2.out⟩

set_option maxHeartbeats 1600000 in
theorem feodd_any {c : Array Value} {x : Nat} (hx : feR c x) (W : World) : Calls Try.prog 18 #[.agg c] W (RetV W (.bool (decide (x % 2 = 1)))) := by
  have HX : Hid (∀ W' : World, Calls Try.prog 32 #[.agg c] W' (RetV W' (.agg (redA x)))) := Lib.hid fun W' => reduced_any hx W'
  have ic := feR_info hx
  have hrc : (W.alloc (.cells c 26)).heap[W.heap.size]? = some (.cells c 26 (0, 0)) := heap_alloc_new _ _
  have HB : Hid (Below W.heap.size W (W.alloc (.cells c 26))) := Lib.hid (below_alloc (Below.refl _ _) _)
  have h1 := and1u (x % M51) (by unfold M51; omega)
  rw [show x % M51 % 2 = x % 2 by unfold M51; omega] at h1
  have h2 : decide (x % 2 = 1) = (((x % 2 : Nat) : Int) == 1) := by
    have : x % 2 < 2 := Nat.mod_lt _ (by omega)
    generalize x % 2 = r at *
    have : r = 0 ∨ r = 1 := by omega
    rcases this with rfl | rfl <;> rfl
  rw [h2]
  unfold redA limb5 at HX
  generalize x % 2 = r at *
  generalize x % M51 = r0 at *
  generalize x / M51 % M51 = r1 at *
  generalize x / M102 % M51 = r2 at *
  generalize x / M153 % M51 = r3 at *
  generalize x / M204 % M51 = r4 at *
  clear hx h2
  have hf := fun u : World => fieldT r0 r1 r2 r3 r4 u
  go_enter Try.func18, Try.ntmps18
  go_wp2_with (refine wpList_load_row rfl 26 (.tmp 1) rfl W.heap.size rfl 26 c (0, 0) _ hrc Try.underlying26 rfl ic ?_)
  with_reducible refine (HX.out _).mono ?_
  rintro e w2 ⟨rfl, hb2⟩
  have HB2 := Lib.hid (below_next HB.out hb2)
  clear hb2
  go_wp2_with fail
  go_ret
  exact ⟨rfl, HB2.out⟩
end Go.Proofs.Ytlhnjdnkjgnooaa

