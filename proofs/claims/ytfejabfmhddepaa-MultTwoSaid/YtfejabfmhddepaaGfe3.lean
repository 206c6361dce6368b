/- The contracts of the developers' reduced, Equal, IsZero, Odd. The contract of the developers' From. The contracts of the developers' Bytes and Canonical; the package whole. The contract of the developers' Canonical; the package whole. -/
import Derived.Test.YtfejabfmhddepaaGfe1
import Derived.Test.YtfejabfmhddepaaGwd
import Derived.Test.YtfejabfmhddepaaGfe2
namespace Go.Proofs.Ytfejabfmhddepaa
open Go.RowKit
set_option linter.unusedVariables false
set_option maxRecDepth 100000

theorem and1u (q : Nat) (h : q < 18446744073709551616) : bits .and .u64 (q : Int) 1 = ((q % 2 : Nat) : Int) := by
  have := u64_and_nat q 1 h (by omega)
  rwa [Nat.and_one_is_mod] at this

/-- a number's own limbs -/
def redA (x : Nat) : Array Value := limb5 (x % M51) (x / M51 % M51) (x / M102 % M51) (x / M153 % M51) (x / M204 % M51)
theorem redA_of {r0 r1 r2 r3 r4 x : Nat} (h0 : r0 < M51) (h1 : r1 < M51) (h2 : r2 < M51) (h3 : r3 < M51) (h4 : r4 < M51) (h : val5 r0 r1 r2 r3 r4 = x) : limb5 r0 r1 r2 r3 r4 = redA x := by
  have hx := val5_lim h0 h1 h2 h3 h4
  rw [h] at hx
  have hv := val5_bits x
  rw [Nat.mod_eq_of_lt hx, ← h] at hv
  rw [h] at hv
  have m := fun y : Nat => Nat.mod_lt y (show M51 > 0 by decide)
  obtain ⟨e0, e1, e2, e3, e4⟩ := val5_inj (m _) (m _) (m _) (m _) h0 h1 h2 h3 (hv.trans h.symm)
  unfold redA
  rw [e0, e1, e2, e3, e4]

set_option maxHeartbeats 3200000 in
theorem reduced_any {c : Array Value} {x : Nat} (hx : feR c x) (W : World) : Calls Try.prog 78 #[.agg c] W (RetV W (.agg (redA x))) := by
  obtain ⟨a0, a1, a2, a3, a4, rfl, ha0, ha1, ha2, ha3, ha4, rfl⟩ := hx
  have ja0 := ha0
  have ja1 := ha1
  have ja2 := ha2
  have ja3 := ha3
  have ja4 := ha4
  unfold L51 at ha0 ha1 ha2 ha3 ha4
  obtain ⟨k0, u0, v0, g0⟩ : ∃ k : Nat, (a0 : Int) + 19 = (k : Int) ∧ k < 4503599627370496 ∧ k = a0 + 19 := ⟨a0 + 19, by omega, by omega, rfl⟩
  obtain ⟨o1, p1, q1, g1o⟩ : ∃ o : Nat, (k0 : Int) / 2251799813685248 = (o : Int) ∧ o < 8192 ∧ o = (a0 + 19) / M51 := ⟨k0 / 2251799813685248, by omega, by omega, by rw [g0]⟩
  obtain ⟨k1, u1, v1, g1⟩ : ∃ k : Nat, (a1 : Int) + (o1 : Int) = (k : Int) ∧ k < 4503599627370496 ∧ k = a1 + o1 := ⟨a1 + o1, by omega, by omega, rfl⟩
  obtain ⟨o2, p2, q2, g2o⟩ : ∃ o : Nat, (k1 : Int) / 2251799813685248 = (o : Int) ∧ o < 8192 ∧ o = (a1 + o1) / M51 := ⟨k1 / 2251799813685248, by omega, by omega, by rw [g1]⟩
  obtain ⟨k2, u2, v2, g2⟩ : ∃ k : Nat, (a2 : Int) + (o2 : Int) = (k : Int) ∧ k < 4503599627370496 ∧ k = a2 + o2 := ⟨a2 + o2, by omega, by omega, rfl⟩
  obtain ⟨o3, p3, q3, g3o⟩ : ∃ o : Nat, (k2 : Int) / 2251799813685248 = (o : Int) ∧ o < 8192 ∧ o = (a2 + o2) / M51 := ⟨k2 / 2251799813685248, by omega, by omega, by rw [g2]⟩
  obtain ⟨k3, u3, v3, g3⟩ : ∃ k : Nat, (a3 : Int) + (o3 : Int) = (k : Int) ∧ k < 4503599627370496 ∧ k = a3 + o3 := ⟨a3 + o3, by omega, by omega, rfl⟩
  obtain ⟨o4, p4, q4, g4o⟩ : ∃ o : Nat, (k3 : Int) / 2251799813685248 = (o : Int) ∧ o < 8192 ∧ o = (a3 + o3) / M51 := ⟨k3 / 2251799813685248, by omega, by omega, by rw [g3]⟩
  obtain ⟨k4, u4, v4, g4⟩ : ∃ k : Nat, (a4 : Int) + (o4 : Int) = (k : Int) ∧ k < 4503599627370496 ∧ k = a4 + o4 := ⟨a4 + o4, by omega, by omega, rfl⟩
  obtain ⟨o5, p5, q5, g5o⟩ : ∃ o : Nat, (k4 : Int) / 2251799813685248 = (o : Int) ∧ o < 8192 ∧ o = (a4 + o4) / M51 := ⟨k4 / 2251799813685248, by omega, by omega, by rw [g4]⟩
  obtain ⟨m0, um, vm, gm⟩ : ∃ k : Nat, 19 * (o5 : Int) = (k : Int) ∧ k < 155649 ∧ k = 19 * o5 := ⟨19 * o5, by omega, by omega, rfl⟩
  obtain ⟨l0, x0, y0, z0⟩ : ∃ k : Nat, (a0 : Int) + (m0 : Int) = (k : Int) ∧ k < 4503599627370496 ∧ k = a0 + 19 * o5 := ⟨a0 + m0, by omega, by omega, by rw [gm]⟩
  obtain ⟨t0, s0, i0, j0⟩ : ∃ o : Nat, (l0 : Int) / 2251799813685248 = (o : Int) ∧ o < 8192 ∧ o = l0 / M51 := ⟨l0 / 2251799813685248, by omega, by omega, rfl⟩
  obtain ⟨l1, x1, y1, z1⟩ : ∃ k : Nat, (a1 : Int) + (t0 : Int) = (k : Int) ∧ k < 4503599627370496 ∧ k = a1 + l0 / M51 := ⟨a1 + t0, by omega, by omega, by rw [j0]⟩
  obtain ⟨t1, s1, i1, j1⟩ : ∃ o : Nat, (l1 : Int) / 2251799813685248 = (o : Int) ∧ o < 8192 ∧ o = l1 / M51 := ⟨l1 / 2251799813685248, by omega, by omega, rfl⟩
  obtain ⟨l2, x2, y2, z2⟩ : ∃ k : Nat, (a2 : Int) + (t1 : Int) = (k : Int) ∧ k < 4503599627370496 ∧ k = a2 + l1 / M51 := ⟨a2 + t1, by omega, by omega, by rw [j1]⟩
  obtain ⟨t2, s2, i2, j2⟩ : ∃ o : Nat, (l2 : Int) / 2251799813685248 = (o : Int) ∧ o < 8192 ∧ o = l2 / M51 := ⟨l2 / 2251799813685248, by omega, by omega, rfl⟩
  obtain ⟨l3, x3, y3, z3⟩ : ∃ k : Nat, (a3 : Int) + (t2 : Int) = (k : Int) ∧ k < 4503599627370496 ∧ k = a3 + l2 / M51 := ⟨a3 + t2, by omega, by omega, by rw [j2]⟩
  obtain ⟨t3, s3, i3, j3⟩ : ∃ o : Nat, (l3 : Int) / 2251799813685248 = (o : Int) ∧ o < 8192 ∧ o = l3 / M51 := ⟨l3 / 2251799813685248, by omega, by omega, rfl⟩
  obtain ⟨l4, x4, y4, z4⟩ : ∃ k : Nat, (a4 : Int) + (t3 : Int) = (k : Int) ∧ k < 4503599627370496 ∧ k = a4 + l3 / M51 := ⟨a4 + t3, by omega, by omega, by rw [j3]⟩
  have w0 := and51 l0 (by omega)
  have w1 := and51 l1 (by omega)
  have w2 := and51 l2 (by omega)
  have w3 := and51 l3 (by omega)
  have w4 := and51 l4 (by omega)
  have hv := reduced_val ja0 ja1 ja2 ja3 ja4 g1o g2o g3o g4o g5o z0 z1 z2 z3 z4
  have hm := fun y : Nat => Nat.mod_lt y (show M51 > 0 by decide)
  have hA := redA_of (hm l0) (hm l1) (hm l2) (hm l3) (hm l4) hv
  rw [← hA]
  unfold limb5
  have n0 := hm l0
  generalize l0 % M51 = r0 at *
  have n1 := hm l1
  generalize l1 % M51 = r1 at *
  have n2 := hm l2
  generalize l2 % M51 = r2 at *
  have n3 := hm l3
  generalize l3 % M51 = r3 at *
  have n4 := hm l4
  generalize l4 % M51 = r4 at *
  clear hA hv hm ja0 ja1 ja2 ja3 ja4 gm g0 g1 g2 g3 g4 g1o g2o g3o g4o g5o z0 z1 z2 z3 z4 j0 j1 j2 j3
  have W0' : Hid (bits .and .u64 (l0 : Int) 2251799813685247 = (r0 : Int)) := Lib.hid w0
  clear w0 n0
  have W1' : Hid (bits .and .u64 (l1 : Int) 2251799813685247 = (r1 : Int)) := Lib.hid w1
  clear w1 n1
  have W2' : Hid (bits .and .u64 (l2 : Int) 2251799813685247 = (r2 : Int)) := Lib.hid w2
  clear w2 n2
  have W3' : Hid (bits .and .u64 (l3 : Int) 2251799813685247 = (r3 : Int)) := Lib.hid w3
  clear w3 n3
  have W4' : Hid (bits .and .u64 (l4 : Int) 2251799813685247 = (r4 : Int)) := Lib.hid w4
  clear w4 n4
  have Hu0 := Lib.hid u0
  clear u0
  have Hv0 := Lib.hid v0
  clear v0
  have Hp1 := Lib.hid p1
  clear p1
  have Hq1 := Lib.hid q1
  clear q1
  have Hu1 := Lib.hid u1
  clear u1
  have Hv1 := Lib.hid v1
  clear v1
  have Hp2 := Lib.hid p2
  clear p2
  have Hq2 := Lib.hid q2
  clear q2
  have Hu2 := Lib.hid u2
  clear u2
  have Hv2 := Lib.hid v2
  clear v2
  have Hp3 := Lib.hid p3
  clear p3
  have Hq3 := Lib.hid q3
  clear q3
  have Hu3 := Lib.hid u3
  clear u3
  have Hv3 := Lib.hid v3
  clear v3
  have Hp4 := Lib.hid p4
  clear p4
  have Hq4 := Lib.hid q4
  clear q4
  have Hu4 := Lib.hid u4
  clear u4
  have Hv4 := Lib.hid v4
  clear v4
  have Hp5 := Lib.hid p5
  clear p5
  have Hq5 := Lib.hid q5
  clear q5
  have Hum := Lib.hid um
  clear um
  have Hvm := Lib.hid vm
  clear vm
  have Hx0 := Lib.hid x0
  clear x0
  have Hy0 := Lib.hid y0
  clear y0
  have Hs0 := Lib.hid s0
  clear s0
  have Hi0 := Lib.hid i0
  clear i0
  have Hx1 := Lib.hid x1
  clear x1
  have Hy1 := Lib.hid y1
  clear y1
  have Hs1 := Lib.hid s1
  clear s1
  have Hi1 := Lib.hid i1
  clear i1
  have Hx2 := Lib.hid x2
  clear x2
  have Hy2 := Lib.hid y2
  clear y2
  have Hs2 := Lib.hid s2
  clear s2
  have Hi2 := Lib.hid i2
  clear i2
  have Hx3 := Lib.hid x3
  clear x3
  have Hy3 := Lib.hid y3
  clear y3
  have Hs3 := Lib.hid s3
  clear s3
  have Hi3 := Lib.hid i3
  clear i3
  have Hx4 := Lib.hid x4
  clear x4
  have Hy4 := Lib.hid y4
  clear y4
  have Hha0 := Lib.hid ha0
  clear ha0
  have Hha1 := Lib.hid ha1
  clear ha1
  have Hha2 := Lib.hid ha2
  clear ha2
  have Hha3 := Lib.hid ha3
  clear ha3
  have Hha4 := Lib.hid ha4
  clear ha4
  go_enter Try.func78, Try.ntmps78
  go_upto_region 1 with fail
  have u0 := Hu0.out
  have v0 := Hv0.out
  have p1 := Hp1.out
  have q1 := Hq1.out
  have ha0 := Hha0.out
  go_upto_region 2 with fail
  clear u0 v0 p1 q1 ha0
  have u1 := Hu1.out
  have v1 := Hv1.out
  have p2 := Hp2.out
  have q2 := Hq2.out
  have ha1 := Hha1.out
  have q1 := Hq1.out
  go_upto_region 3 with fail
  clear u1 v1 p2 q2 ha1 q1
  have u2 := Hu2.out
  have v2 := Hv2.out
  have p3 := Hp3.out
  have q3 := Hq3.out
  have ha2 := Hha2.out
  have q2 := Hq2.out
  go_upto_region 4 with fail
  clear u2 v2 p3 q3 ha2 q2
  have u3 := Hu3.out
  have v3 := Hv3.out
  have p4 := Hp4.out
  have q4 := Hq4.out
  have ha3 := Hha3.out
  have q3 := Hq3.out
  go_upto_region 5 with fail
  clear u3 v3 p4 q4 ha3 q3
  have u4 := Hu4.out
  have v4 := Hv4.out
  have p5 := Hp5.out
  have q5 := Hq5.out
  have ha4 := Hha4.out
  have q4 := Hq4.out
  go_upto_region 6 with fail
  clear u4 v4 p5 q5 ha4 q4
  have um := Hum.out
  have vm := Hvm.out
  have x0 := Hx0.out
  have y0 := Hy0.out
  have q5 := Hq5.out
  have ha0 := Hha0.out
  go_upto_region 7 with fail
  clear um vm x0 y0 q5 ha0
  have s0 := Hs0.out
  have i0 := Hi0.out
  have x1 := Hx1.out
  have y1 := Hy1.out
  have ha1 := Hha1.out
  go_upto_region 8 with fail
  clear s0 i0 x1 y1 ha1
  have s1 := Hs1.out
  have i1 := Hi1.out
  have x2 := Hx2.out
  have y2 := Hy2.out
  have ha2 := Hha2.out
  go_upto_region 9 with fail
  clear s1 i1 x2 y2 ha2
  have s2 := Hs2.out
  have i2 := Hi2.out
  have x3 := Hx3.out
  have y3 := Hy3.out
  have ha3 := Hha3.out
  go_upto_region 10 with fail
  clear s2 i2 x3 y3 ha3
  have s3 := Hs3.out
  have i3 := Hi3.out
  have x4 := Hx4.out
  have y4 := Hy4.out
  have ha4 := Hha4.out
  go_upto_region 11 with fail
  clear s3 i3 x4 y4 ha4
  have w0 := W0'.out
  have w1 := W1'.out
  have w2 := W2'.out
  have w3 := W3'.out
  have w4 := W4'.out
  go_wp2
  refine bodyPost_ret (v := .agg #[.int .u64 (r0 : Int), .int .u64 (r1 : Int), .int .u64 (r2 : Int), .int .u64 (r3 : Int), .int .u64 (r4 : Int)]) (by simp [results, Try.results78, go_sem]) rfl ⟨rfl, ?_⟩
  exact ((Below.refl _ _).alloc (Nat.le_refl _) _).alloc (by simp) _

theorem eqL5 (a b c d e a' b' c' d' e' : Nat) (u : World) : (binOp .eql 26 (.agg (limb5 a b c d e)) (.agg (limb5 a' b' c' d' e'))).run Try.prog u = .ok (.bool (decide (a = a' ∧ b = b' ∧ c = c' ∧ d = d' ∧ e = e'))) u := by
  rw [run_eql_struct, run_equalIn_struct _ 9999 _ _ _ (by kernel_rfl) (by kernel_rfl)]
  unfold limb5
  go_simp
  by_cases h0 : a = a' <;> by_cases h1 : b = b' <;> by_cases h2 : c = c' <;> by_cases h3 : d = d' <;> by_cases h4 : e = e' <;> simp [h0, h1, h2, h3, h4, Int.natCast_inj]
theorem eqRed {x y : Nat} (hx : x < PP) (hy : y < PP) (u : World) : (binOp .eql 26 (.agg (redA x)) (.agg (redA y))).run Try.prog u = .ok (.bool (decide (x = y))) u := by
  unfold redA
  rw [eqL5]
  have e : (x % M51 = y % M51 ∧ x / M51 % M51 = y / M51 % M51 ∧ x / M102 % M51 = y / M102 % M51 ∧ x / M153 % M51 = y / M153 % M51 ∧ x / M204 % M51 = y / M204 % M51) ↔ x = y := by
    constructor
    · rintro ⟨h0, h1, h2, h3, h4⟩
      have a := val5_bits x
      have b := val5_bits y
      rw [h0, h1, h2, h3, h4, b] at a
      rw [Nat.mod_eq_of_lt (show x < TT by unfold PP at hx; unfold TT; omega), Nat.mod_eq_of_lt (show y < TT by unfold PP at hy; unfold TT; omega)] at a
      exact a.symm
    · intro h; subst h; exact ⟨rfl, rfl, rfl, rfl, rfl⟩
  rw [decide_eq_decide.2 e]
theorem fieldT (r0 r1 r2 r3 r4 : Nat) (u : World) : (Instr.field 26 (.agg #[.int .u64 (r0 : Int), .int .u64 (r1 : Int), .int .u64 (r2 : Int), .int .u64 (r3 : Int), .int .u64 (r4 : Int)]) 0).run Try.prog u = .ok (.int .u64 (r0 : Int)) u := by kernel_rfl
theorem guardFe : Try.prog.eqGuardType Try.prog.depth 26 = false := by kernel_rfl

set_option maxHeartbeats 1600000 in
theorem feequal_any {c d : Array Value} {x y : Nat} (hx : feR c x) (hy : feR d y) (W : World) : Calls Try.prog 52 #[.agg c, .agg d] W (RetV W (.bool (decide (x = y)))) := by
  have HX : Hid (∀ W' : World, Calls Try.prog 78 #[.agg c] W' (RetV W' (.agg (redA x)))) := Lib.hid fun W' => reduced_any hx W'
  have HY : Hid (∀ W' : World, Calls Try.prog 78 #[.agg d] W' (RetV W' (.agg (redA y)))) := Lib.hid fun W' => reduced_any hy W'
  have hxl : x < PP := by obtain ⟨_, _, _, _, _, -, -, -, -, -, -, rfl⟩ := hx; exact Nat.mod_lt _ (by decide)
  have hyl : y < PP := by obtain ⟨_, _, _, _, _, -, -, -, -, -, -, rfl⟩ := hy; exact Nat.mod_lt _ (by decide)
  have HE : Hid (∀ u : World, (binOp .eql 26 (.agg (redA x)) (.agg (redA y))).run Try.prog u = .ok (.bool (decide (x = y))) u) := Lib.hid fun u => eqRed hxl hyl u
  have ic := feR_info hx
  have id := feR_info hy
  generalize decide (x = y) = b at *
  generalize redA x = X at *
  generalize redA y = Y at *
  clear hx hy hxl hyl
  have hrr : RowsW ((W.alloc (.cells c 26)).alloc (.cells d 26)) [(W.heap.size + 1, d, 26), (W.heap.size, c, 26)] := by have h := (RowsW.box (RowsW.box (RowsW.nil W) c 26) d 26); simp only [World.size_alloc] at h; exact h
  obtain ⟨W1, hW1⟩ : ∃ W1, ((W.alloc (.cells c 26)).alloc (.cells d 26)) = W1 := ⟨_, rfl⟩
  rw [hW1] at hrr
  have hb1 : Below W.heap.size W W1 := by rw [← hW1]; exact below_alloc (below_alloc (Below.refl _ _) _) _
  have HR := Lib.hid hrr
  have HB1 := Lib.hid hb1
  have HW1 := Lib.hid hW1
  clear hrr hb1 hW1
  go_enter Try.func52, Try.ntmps52
  go_upto_region 1 with fail
  rw [HW1.out]
  refine wp_region_noPanic ?_
  refine wp_region_held_drew (S := fun W => Below W1.heap.size W1 W) (by kernel_rfl) (by exact (Below.refl _ _).drew) (fun hS => ?_)
  refine' take_at 0 rfl (by kernel_rfl) (by kernel_rfl) (by kernel_rfl) (fun _ _ _ h => h) (by rfl) hS ?_ ?_ ?_
  rotate_left 2
  · intro W hSW; exact run_loadR rfl rfl (HR.out.below hSW).tail.head Try.underlying26 rfl ic
  · simp only [List.set_cons_succ, List.set_cons_zero]; rfl
  refine' take_at 2 rfl (by kernel_rfl) (by kernel_rfl) (by kernel_rfl) (fun _ _ _ h => h) (by rfl) hS ?_ ?_ ?_
  rotate_left 2
  · intro W hSW; exact run_loadR rfl rfl (HR.out.below hSW).head Try.underlying26 rfl id
  · simp only [List.set_cons_succ, List.set_cons_zero]; rfl
  refine call_at 1 rfl (by kernel_rfl) (by rfl) (fun K hK => ?_)
  go_simp
  with_reducible refine (HX.out _).mono ?_
  rintro e u1 ⟨rfl, hb1⟩
  have kb1 := below_next hS hb1
  clear hS hb1
  refine hK.out _ _ (by exact kb1) (fun hS => ?_)
  clear hK K
  refine call_at 3 rfl (by kernel_rfl) (by rfl) (fun K hK => ?_)
  go_simp
  with_reducible refine (HY.out _).mono ?_
  rintro e u2 ⟨rfl, hb2⟩
  have kb2 := below_next hS hb2
  clear hS hb2
  refine hK.out _ _ (by exact kb2) (fun hS => ?_)
  clear hK K
  refine' take_at 4 rfl (by kernel_rfl) (by kernel_rfl) (by kernel_rfl) (fun _ _ _ h => h) (by rfl) hS ?_ ?_ ?_
  rotate_left 2
  · intro W hSW; exact run_eql2 rfl rfl rfl guardFe (HE.out W)
  · simp only [List.set_cons_succ, List.set_cons_zero]; rfl
  refine' take_at 5 rfl (by kernel_rfl) (by kernel_rfl) (by kernel_rfl) (fun _ _ _ h => h) (by rfl) hS ?_ ?_ ?_
  rotate_left 2
  · intro W hSW; go_simp; try with_reducible rfl
  · simp only [List.set_cons_succ, List.set_cons_zero]; rfl
  refine wpAnyH_done (by kernel_rfl) ?_ _
  refine NoPanic.normal ?_
  clear hS
  (try simp only [Act.put])
  have HB2 := Lib.hid (below_next HB1.out kb2)
  clear kb1 kb2
  go_wp2_with fail
  go_ret
  exact ⟨rfl, HB2.out⟩

set_option maxHeartbeats 1600000 in
theorem feiszero_any {c : Array Value} {x : Nat} (hx : feR c x) (W : World) : Calls Try.prog 69 #[.agg c] W (RetV W (.bool (decide (x = 0)))) := by
  have HX : Hid (∀ W' : World, Calls Try.prog 78 #[.agg c] W' (RetV W' (.agg (redA x)))) := Lib.hid fun W' => reduced_any hx W'
  have hxl : x < PP := by obtain ⟨_, _, _, _, _, -, -, -, -, -, -, rfl⟩ := hx; exact Nat.mod_lt _ (by decide)
  have HE : Hid (∀ u : World, (binOp .eql 26 (.agg (redA x)) (.agg (#[.int .u64 0, .int .u64 0, .int .u64 0, .int .u64 0, .int .u64 0]))).run Try.prog u = .ok (.bool (decide (x = 0))) u) := Lib.hid fun u => by
    have h := eqRed hxl (show 0 < PP by decide) u
    exact h
  have ic := feR_info hx
  have hrc : (W.alloc (.cells c 26)).heap[W.heap.size]? = some (.cells c 26 (0, 0)) := heap_alloc_new _ _
  have HB : Hid (Below W.heap.size W (W.alloc (.cells c 26))) := Lib.hid (below_alloc (Below.refl _ _) _)
  generalize decide (x = 0) = b at *
  generalize redA x = X at *
  clear hx hxl
  go_enter Try.func69, Try.ntmps69
  go_wp2_with (refine wpList_load_row rfl 26 (.tmp 1) rfl W.heap.size rfl 26 c (0, 0) _ hrc Try.underlying26 rfl ic ?_)
  with_reducible refine (HX.out _).mono ?_
  rintro e w2 ⟨rfl, hb2⟩
  have HB2 := Lib.hid (below_next HB.out hb2)
  clear hb2
  go_wp2_with (refine wpList_runsV (o := ⟨some 6, _, _, _, _, _⟩) rfl (.bool b) (run_eql2 rfl rfl rfl guardFe (HE.out _)) ?_)
  go_ret
  exact ⟨rfl, HB2.out⟩

set_option maxHeartbeats 1600000 in
theorem feodd_any {c : Array Value} {x : Nat} (hx : feR c x) (W : World) : Calls Try.prog 40 #[.agg c] W (RetV W (.bool (decide (x % 2 = 1)))) := by
  have HX : Hid (∀ W' : World, Calls Try.prog 78 #[.agg c] W' (RetV W' (.agg (redA x)))) := Lib.hid fun W' => reduced_any hx W'
  have ic := feR_info hx
  have hrc : (W.alloc (.cells c 26)).heap[W.heap.size]? = some (.cells c 26 (0, 0)) := heap_alloc_new _ _
  have HB : Hid (Below W.heap.size W (W.alloc (.cells c 26))) := Lib.hid (below_alloc (Below.refl _ _) _)
  have h1 := and1u (x % M51) (by unfold M51; omega)
  rw [show x % M51 % 2 = x % 2 by unfold M51; omega] at h1
  have h2 : decide (x % 2 = 1) = (((x % 2 : Nat) : Int) == 1) := by
    have : x % 2 < 2 := Nat.mod_lt _ (by omega)
    generalize x % 2 = r at *
    have : r = 0 ∨ r = 1 := by omega
    rcases this with rfl | rfl <;> rfl
  rw [h2]
  unfold redA limb5 at HX
  generalize x % 2 = r at *
  generalize x % M51 = r0 at *
  generalize x / M51 % M51 = r1 at *
  generalize x / M102 % M51 = r2 at *
  generalize x / M153 % M51 = r3 at *
  generalize x / M204 % M51 = r4 at *
  clear hx h2
  have hf := fun u : World => fieldT r0 r1 r2 r3 r4 u
  go_enter Try.func40, Try.ntmps40
  go_wp2_with (refine wpList_load_row rfl 26 (.tmp 1) rfl W.heap.size rfl 26 c (0, 0) _ hrc Try.underlying26 rfl ic ?_)
  with_reducible refine (HX.out _).mono ?_
  rintro e w2 ⟨rfl, hb2⟩
  have HB2 := Lib.hid (below_next HB.out hb2)
  clear hb2
  go_wp2_with fail
  go_ret
  exact ⟨rfl, HB2.out⟩
end Go.Proofs.Ytfejabfmhddepaa

namespace Go.Proofs.Ytfejabfmhddepaa
open Go.RowKit
set_option linter.unusedVariables false
set_option maxRecDepth 100000

set_option maxHeartbeats 3200000 in
theorem fefrom_any (l : List UInt8) (hl : l.length = 32) (w : World) : Calls Try.prog 65 #[.agg (arrB l)] w (RetFe feR w (feN l)) := by
  have hz4 := fun u => zero_arr 79 #[.int .u64 0, .int .u64 0, .int .u64 0, .int .u64 0] 4 (by kernel_rfl) u
  have HX : Hid (∀ k : Nat, k < 32 → ∀ u, (Instr.index 22 (.agg (arrB l)) (.int .i64 (k : Int))).run Try.prog u = .ok (.int .u8 ((l.getD k 0).toNat : Int)) u) := Lib.hid fun k hk u => arr_at hl k hk u
  have iB := arr32_info hl
  have HL := Lib.hid hl
  obtain ⟨BB, hBB⟩ : ∃ X, arrB l = X := ⟨_, rfl⟩
  rw [hBB] at HX iB ⊢
  have hI : Tri 22 26 79 w (((w.alloc (.cells BB 22)).alloc (.cells #[.int .u64 0, .int .u64 0, .int .u64 0, .int .u64 0, .int .u64 0] 26)).alloc (.cells #[.int .u64 0, .int .u64 0, .int .u64 0, .int .u64 0] 79)) w.heap.size BB #[.int .u64 0, .int .u64 0, .int .u64 0, .int .u64 0, .int .u64 0] (wdA (leN (l.take 0))) := by
    refine ⟨?_, ?_, ?_, ((((Below.refl w.heap.size w).alloc (Nat.le_refl _) _).alloc (by simp) _).alloc (by simp; omega) _)⟩
    · rw [heap_alloc_old _ _ (by rw [World.size_alloc, World.size_alloc]; omega)]; exact heap_alloc2_old _ _ _
    · rw [heap_alloc_old _ _ (by rw [World.size_alloc, World.size_alloc]; omega)]; exact heap_alloc2_new _ _ _
    · have h := tri_new w BB #[.int .u64 0, .int .u64 0, .int .u64 0, .int .u64 0, .int .u64 0] #[.int .u64 0, .int .u64 0, .int .u64 0, .int .u64 0] 22 26 79
      rw [show wdA (leN (l.take 0)) = #[.int .u64 0, .int .u64 0, .int .u64 0, .int .u64 0] by rw [List.take_zero]; exact wdA_zero]
      exact h
  have hrb : (((w.alloc (.cells BB 22)).alloc (.cells #[.int .u64 0, .int .u64 0, .int .u64 0, .int .u64 0, .int .u64 0] 26)).alloc (.cells #[.int .u64 0, .int .u64 0, .int .u64 0, .int .u64 0] 79)).heap[w.heap.size]? = some (.cells BB 22 (0, 0)) := hI.x
  have HI := Lib.hid hI
  clear hI hBB hl
  go_enter Try.func65, Try.ntmps65
  go_wp2_with (refine wpList_load_row rfl 22 (.tmp 1) rfl w.heap.size rfl 22 BB (0, 0) _ hrb Try.underlying22 rfl iB ?_)
  obtain ⟨W1, hW1⟩ : ∃ W, ((w.alloc (.cells BB 22)).alloc (.cells #[.int .u64 0, .int .u64 0, .int .u64 0, .int .u64 0, .int .u64 0] 26)).alloc (.cells #[.int .u64 0, .int .u64 0, .int .u64 0, .int .u64 0] 79) = W := ⟨_, rfl⟩
  obtain ⟨g, hg⟩ : ∃ g, w.heap.size = g := ⟨_, rfl⟩
  rw [hg, hW1] at HI
  rw [hg, hW1]
  have HG := Lib.hid hg
  clear hW1 hg hrb
  go_loopw [7] (fun i wr => ∃ k : Nat, k ≤ 32 ∧ i = .int .i64 (k : Int) ∧ Hid (Tri 22 26 79 w wr g BB #[.int .u64 0, .int .u64 0, .int .u64 0, .int .u64 0, .int .u64 0] (wdA (leN (l.take k))))) (fun i _ => 32 - (intOf i).toNat)
  case atStart => exact ⟨0, by omega, rfl, HI⟩
  case round =>
    clear HI
    obtain ⟨k, hk, rfl, HI⟩ := hrel
    by_cases hlt : k < 32
    · have hx := HX.out k hlt
      obtain ⟨b, hb⟩ : ∃ b, (l.getD k 0).toNat = b := ⟨_, rfl⟩
      have hbl : b < 256 := by rw [← hb]; exact (l.getD k 0).toNat_lt
      obtain ⟨n, hn⟩ : ∃ n, leN (l.take k) = n := ⟨_, rfl⟩
      have hnl : n < 256 ^ k := by rw [← hn]; exact leN_take_lt l k (by rw [HL.out]; omega)
      have hn1 : leN (l.take (k + 1)) = n + b * 256 ^ k := by rw [leN_take l k (by rw [HL.out]; omega), hn, hb]
      obtain ⟨s1, s2, s3, s4⟩ := word_step n b k hlt hnl hbl
      have hd4 : k / 8 < 4 := by omega
      rw [hn] at HI
      rw [hb] at hx
      obtain ⟨d, hd⟩ : ∃ d, k / 8 = d := ⟨_, rfl⟩
      obtain ⟨r, hr⟩ : ∃ r, k % 8 = r := ⟨_, rfl⟩
      obtain ⟨e, he⟩ : ∃ e, r * 8 = e := ⟨_, rfl⟩
      rw [hd, hr, he] at s1 s3
      rw [hr, he] at s2
      rw [hd] at s4
      rw [hd] at hd4
      have hel : e < 57 := by omega
      have hs4 := wdA_set n (n + b * 256 ^ k) d hd4 (fun j hj hne => s4 j hj hne)
      rw [s3] at hs4
      have cz : wr.cell? ⟨g + 1 + 1, d, none⟩ = some (.int .u64 (wq n d : Int)) := by rw [cell_of_row _ _ _ _ _ _ HI.out.z, wdA_get _ _ hd4]
      have fx := HI.out.fz d
      have hw := wq_lt n d
      have f7 := or_low (wq n d) b e s1 hw s2
      have HI2 : Hid (Tri 22 26 79 w (wr.drew.setCell ⟨g + 1 + 1, d, none⟩ (.int .u64 ((wq n d + 2 ^ e * b : Nat) : Int))) g BB #[.int .u64 0, .int .u64 0, .int .u64 0, .int .u64 0, .int .u64 0] (wdA (leN (l.take (k + 1))))) := Lib.hid (by
        rw [hn1, ← hs4]
        exact (HI.out.drew).set d _)
      have f6 : IntKind.u64.wrap ((b : Int) * 2 ^ e) = ((2 ^ e * b : Nat) : Int) := by
        rw [IntKind.wrap_u64, show (b : Int) * 2 ^ e = ((2 ^ e * b : Nat) : Int) by rw [Int.natCast_mul, Int.mul_comm]; simp]
        unfold Q64 at s2
        omega
      generalize 2 ^ e * b = m at *
      obtain ⟨o, ho⟩ : ∃ o, wq n d + m = o := ⟨_, rfl⟩
      rw [ho] at f7 HI2
      generalize wq n d = q at *
      have f1 : (k : Int).tdiv 8 = (d : Int) := by rw [Int.tdiv_eq_ediv_of_nonneg (by omega)]; omega
      have f1' : (k : Int) / 8 = (d : Int) := by omega
      have f2 : IntKind.i64.wrap (d : Int) = (d : Int) := by rw [IntKind.wrap_i64]; omega
      have f3 : (k : Int).tmod 8 = (r : Int) := by rw [Int.tmod_eq_emod_of_nonneg (by omega)]; omega
      have f3' : (k : Int) % 8 = (r : Int) := by omega
      have f4 : (r : Int) * 8 = (e : Int) := by omega
      have f5 : IntKind.i64.wrap (e : Int) = (e : Int) := by rw [IntKind.wrap_i64]; omega
      have f8 : IntKind.u64.wrap (b : Int) = (b : Int) := by rw [IntKind.wrap_u64]; omega
      have b1 : 0 ≤ (d : Int) := by omega
      have b2 : (d : Int) < 4 := by omega
      have b3 : 0 ≤ (e : Int) := by omega
      have b5 : 0 ≤ (k : Int) := by omega
      have b6 : (k : Int) < 32 := by omega
      clear HI hb hbl hn hnl hn1 s1 s2 s3 s4 hd hr he hs4 hw ho
      go_wp2_with fail
      refine wp_region_still_tail 11 (by kernel_rfl) (by kernel_rfl) ?_
      simp only [List.take_succ_cons, List.take_zero, List.drop_succ_cons, List.drop_zero]
      iterate 11 still_step
      refine wpStill_nil ?_
      go_wp2_with fail
      go_roundw
      case rel => exact ⟨k + 1, by omega, by go_num, HI2⟩
      case measure => simp [intOf]; omega
    · obtain rfl : k = 32 := by omega
      have hV : l.take 32 = l := List.take_of_length_le (by rw [HL.out]; omega)
      rw [hV] at HI
      have hVl : leN l < 256 ^ 32 := by have := leN_lt l; rwa [HL.out] at this
      have hbits : val5 (leN l % M51) (leN l / M51 % M51) (leN l / M102 % M51) (leN l / M153 % M51) (leN l / M204 % M51) % PP = feN l := by rw [val5_bits]; rfl
      generalize leN l = V at *
      obtain ⟨t0, t1, t2, t3, t4⟩ := from_limbs V hVl
      have c0 : wr.cell? ⟨g + 1 + 1, 0, none⟩ = some (.int .u64 (wq V 0 : Int)) := by rw [cell_of_row _ _ _ _ _ _ HI.out.z]; rfl
      have c1 : wr.cell? ⟨g + 1 + 1, 1, none⟩ = some (.int .u64 (wq V 1 : Int)) := by rw [cell_of_row _ _ _ _ _ _ HI.out.z]; rfl
      have c2 : wr.cell? ⟨g + 1 + 1, 2, none⟩ = some (.int .u64 (wq V 2 : Int)) := by rw [cell_of_row _ _ _ _ _ _ HI.out.z]; rfl
      have c3 : wr.cell? ⟨g + 1 + 1, 3, none⟩ = some (.int .u64 (wq V 3 : Int)) := by rw [cell_of_row _ _ _ _ _ _ HI.out.z]; rfl
      have w0 := wq_lt V 0
      have w1 := wq_lt V 1
      have w2 := wq_lt V 2
      have w3 := wq_lt V 3
      have hm := fun y : Nat => Nat.mod_lt y (show M51 > 0 by decide)
      have hR : feR (limb5 (V % M51) (V / M51 % M51) (V / M102 % M51) (V / M153 % M51) (V / M204 % M51)) (feN l) := ⟨_, _, _, _, _, rfl, by have := hm V; unfold L51; unfold M51 at *; omega, by have := hm (V / M51); unfold L51; unfold M51 at *; omega, by have := hm (V / M102); unfold L51; unfold M51 at *; omega, by have := hm (V / M153); unfold L51; unfold M51 at *; omega, by have := hm (V / M204); unfold L51; unfold M51 at *; omega, hbits⟩
      rw [← t0, ← t1, ← t2, ← t3, ← t4] at hR
      unfold Q64 at w0 w1 w2 w3
      unfold M51 at hR
      have HP : Hid (∀ c w', c = #[.int .u64 ((wq V 0 % 2251799813685248 : Nat) : Int), .int .u64 (((wq V 0 / 2251799813685248 + 2 ^ 13 * (wq V 1 % 2251799813685248)) % 2251799813685248 : Nat) : Int), .int .u64 (((wq V 1 / 274877906944 + 2 ^ 26 * (wq V 2 % 274877906944)) % 2251799813685248 : Nat) : Int), .int .u64 (((wq V 2 / 33554432 + 2 ^ 39 * (wq V 3 % 33554432)) % 2251799813685248 : Nat) : Int), .int .u64 ((wq V 3 / 4096 % 2251799813685248 : Nat) : Int)] →
          Below w.heap.size w w' → RetFe feR w (feN l) (.returned (.agg c)) w') := Lib.hid fun c w' e hb => ⟨c, rfl, by rw [e]; exact hR, hb⟩
      clear hR t0 t1 t2 t3 t4 hm hbits hVl hV
      generalize wq V 0 = p0 at *
      generalize wq V 1 = p1 at *
      generalize wq V 2 = p2 at *
      generalize wq V 3 = p3 at *
      have e1 := or_low (p0 / 2251799813685248) (p1 % 2251799813685248) 13 (by omega) (by omega) (by omega)
      have e2 := or_low (p1 / 274877906944) (p2 % 274877906944) 26 (by omega) (by omega) (by omega)
      have e3 := or_low (p2 / 33554432) (p3 % 33554432) 39 (by omega) (by omega) (by omega)
      have d1 : (p0 : Int) / 2251799813685248 = ((p0 / 2251799813685248 : Nat) : Int) := by omega
      have d2 : (p1 : Int) / 274877906944 = ((p1 / 274877906944 : Nat) : Int) := by omega
      have d3 : (p2 : Int) / 33554432 = ((p2 / 33554432 : Nat) : Int) := by omega
      have d4 : (p3 : Int) / 4096 = ((p3 / 4096 : Nat) : Int) := by omega
      have m1 : IntKind.u64.wrap ((p1 : Int) * 8192) = ((2 ^ 13 * (p1 % 2251799813685248) : Nat) : Int) := by rw [IntKind.wrap_u64]; omega
      have m2 : IntKind.u64.wrap ((p2 : Int) * 67108864) = ((2 ^ 26 * (p2 % 274877906944) : Nat) : Int) := by rw [IntKind.wrap_u64]; omega
      have m3 : IntKind.u64.wrap ((p3 : Int) * 549755813888) = ((2 ^ 39 * (p3 % 33554432) : Nat) : Int) := by rw [IntKind.wrap_u64]; omega
      have k1 : p0 / 2251799813685248 + 2 ^ 13 * (p1 % 2251799813685248) < 18446744073709551616 := by omega
      have k2 : p1 / 274877906944 + 2 ^ 26 * (p2 % 274877906944) < 18446744073709551616 := by omega
      have k3 : p2 / 33554432 + 2 ^ 39 * (p3 % 33554432) < 18446744073709551616 := by omega
      have k4 : p3 / 4096 < 18446744073709551616 := by omega
      have a0 := and51 p0 w0
      have a1 := and51 _ k1
      have a2 := and51 _ k2
      have a3 := and51 _ k3
      have a4 := and51 _ k4
      generalize (p0 / 2251799813685248 + 2 ^ 13 * (p1 % 2251799813685248)) = j1 at *
      generalize (p1 / 274877906944 + 2 ^ 26 * (p2 % 274877906944)) = j2 at *
      generalize (p2 / 33554432 + 2 ^ 39 * (p3 % 33554432)) = j3 at *
      generalize 2 ^ 13 * (p1 % 2251799813685248) = s1 at *
      generalize 2 ^ 26 * (p2 % 274877906944) = s2 at *
      generalize 2 ^ 39 * (p3 % 33554432) = s3 at *
      generalize p0 / 2251799813685248 = h1 at *
      generalize p1 / 274877906944 = h2 at *
      generalize p2 / 33554432 = h3 at *
      generalize p3 / 4096 = h4 at *
      generalize p0 % 2251799813685248 = r0 at *
      generalize j1 % 2251799813685248 = r1 at *
      generalize j2 % 2251799813685248 = r2 at *
      generalize j3 % 2251799813685248 = r3 at *
      generalize h4 % 2251799813685248 = r4 at *
      have hr := HI.out.y
      have HB : Hid (Below w.heap.size w wr) := Lib.hid (by rw [HG.out]; exact HI.out.below)
      have sS : (#[.int .u64 0, .int .u64 0, .int .u64 0, .int .u64 0, .int .u64 0] : Array Value).size = (#[.int .u64 (r0 : Int), .int .u64 (r1 : Int), .int .u64 (r2 : Int), .int .u64 (r3 : Int), .int .u64 (r4 : Int)] : Array Value).size := rfl
      have iS : (Try.prog.info? 26).map (·.size) = some (#[.int .u64 (r0 : Int), .int .u64 (r1 : Int), .int .u64 (r2 : Int), .int .u64 (r3 : Int), .int .u64 (r4 : Int)] : Array Value).size := by kernel_rfl
      have oS : (#[.int .u64 (r0 : Int), .int .u64 (r1 : Int), .int .u64 (r2 : Int), .int .u64 (r3 : Int), .int .u64 (r4 : Int)] : Array Value).all (·.oneCell') = true := by simp [Value.oneCell']
      have HE : Hid (Below w.heap.size w (wr.setRow (g + 1) #[.int .u64 (r0 : Int), .int .u64 (r1 : Int), .int .u64 (r2 : Int), .int .u64 (r3 : Int), .int .u64 (r4 : Int)])) := Lib.hid (below_row HB.out (by have := HG.out; omega))
      clear w0 w1 w2 w3 k1 k2 k3 k4 HI HX HB
      go_wp2_with (refine wpList_store_row rfl 26 (.tmp 2) (.tmp 55) rfl (g + 1) #[.int .u64 (r0 : Int), .int .u64 (r1 : Int), .int .u64 (r2 : Int), .int .u64 (r3 : Int), .int .u64 (r4 : Int)] rfl rfl 26 #[.int .u64 0, .int .u64 0, .int .u64 0, .int .u64 0, .int .u64 0] hr iS sS oS ?_)
      (try simp only [Exit.inBlock, Exit.then])
      refine bodyPost_ret (results_cell_row rfl _ _ (g + 1) _ #[.int .u64 (r0 : Int), .int .u64 (r1 : Int), .int .u64 (r2 : Int), .int .u64 (r3 : Int), .int .u64 (r4 : Int)] _ _ rfl (setRow_heap _ _ _ _ _ _ hr) Try.underlying26 rfl iS) rfl ?_
      exact HP.out _ _ rfl HE.out
end Go.Proofs.Ytfejabfmhddepaa

namespace Go.Proofs.Ytfejabfmhddepaa
open Go.RowKit
set_option linter.unusedVariables false
set_option maxRecDepth 100000

/-- five rows, one behind the other; the last one is written -/
structure Fiv (t0 t1 t2 t3 t4 : TypeId) (w wr : World) (g g2 : Nat) (A B C D E : Array Value) : Prop where
  b : wr.heap[g + 1]? = some (.cells B t1 (0, 0))
  d : wr.heap[g2]? = some (.cells D t3 (0, 0))
  e : wr.heap[g2 + 1]? = some (.cells E t4 (0, 0))
  gap : g + 1 < g2
  below : Below g w wr
theorem Fiv.set {t0 t1 t2 t3 t4 : TypeId} {w wr : World} {g g2 : Nat} {A B C D E : Array Value} (h : Fiv t0 t1 t2 t3 t4 w wr g g2 A B C D E) (k : Nat) (v : Value) : Fiv t0 t1 t2 t3 t4 w (wr.setCell ⟨g2 + 1, k, none⟩ v) g g2 A B C D (E.setIfInBounds k v) := by
  have e := setCell_eq_setRow wr (g2 + 1) k _ _ _ v h.e
  have hg := h.gap
  exact ⟨by rw [e, setRow_other _ _ _ _ (by omega)]; exact h.b, by rw [e, setRow_other _ _ _ _ (by omega)]; exact h.d, by rw [e, setRow_heap _ _ _ _ _ _ h.e], h.gap, h.below.setCell (p := ⟨g2 + 1, k, none⟩) (by show g ≤ g2 + 1; omega) _⟩
/-- the bytes so far -/
def byteF (V i : Nat) : UInt8 := UInt8.ofNat (V / 256 ^ i)
theorem bytes_end (V : Nat) : updTo (List.replicate 32 0) (byteF V) 32 = leB 32 V := by
  refine list_ext_getD (by rw [updTo_len, leB_len]; simp) fun i hi => ?_
  rw [updTo_len] at hi
  have hi' : i < 32 := by simpa using hi
  rw [updTo_get hi, if_pos hi', leB_get _ _ _ hi']
  rfl

set_option maxHeartbeats 3200000 in
theorem febytes_any {c : Array Value} {x : Nat} (hx : feR c x) (w : World) : Calls Try.prog 39 #[.agg c] w (RetV w (.agg (bytT x))) := by
  have ic := feR_info hx
  have hxl : x < PP := by obtain ⟨_, _, _, _, _, -, -, -, -, -, -, rfl⟩ := hx; exact Nat.mod_lt _ (by decide)
  have HD : Hid (∀ W' : World, Calls Try.prog 78 #[.agg c] W' (RetV W' (.agg (redA x)))) := Lib.hid fun W' => reduced_any hx W'
  have iS : (Try.prog.info? 26).map (·.size) = some (redA x).size := limb5_info _ _ _ _ _
  have sS : (#[.int .u64 0, .int .u64 0, .int .u64 0, .int .u64 0, .int .u64 0] : Array Value).size = (redA x).size := rfl
  have oS : (redA x).all (·.oneCell') = true := limb5_one _ _ _ _ _
  have hV := val5_bits x
  rw [Nat.mod_eq_of_lt (show x < TT by unfold PP at hxl; unfold TT; omega)] at hV
  have hm := fun y : Nat => Nat.mod_lt y (show M51 > 0 by decide)
  obtain ⟨y0, y1, y2, y3⟩ := bytes_words _ _ _ _ _ x (hm _) (hm _) (hm _) (hm _) (hm _) hV
  have j0 := hm x
  have j1 := hm (x / M51)
  have j2 := hm (x / M102)
  have j3 := hm (x / M153)
  have j4 := hm (x / M204)
  have HA : Hid (redA x = #[.int .u64 ((x % M51 : Nat) : Int), .int .u64 ((x / M51 % M51 : Nat) : Int), .int .u64 ((x / M102 % M51 : Nat) : Int), .int .u64 ((x / M153 % M51 : Nat) : Int), .int .u64 ((x / M204 % M51 : Nat) : Int)]) := Lib.hid rfl
  generalize redA x = RA at *
  generalize x % M51 = r0 at *
  generalize x / M51 % M51 = r1 at *
  generalize x / M102 % M51 = r2 at *
  generalize x / M153 % M51 = r3 at *
  generalize x / M204 % M51 = r4 at *
  unfold M51 at j0 j1 j2 j3 j4
  have e0 := or_low r0 (r1 % 8192) 51 (by omega) (by omega) (by omega)
  have e1 := or_low (r1 / 8192) (r2 % 67108864) 38 (by omega) (by omega) (by omega)
  have e2 := or_low (r2 / 67108864) (r3 % 549755813888) 25 (by omega) (by omega) (by omega)
  have e3 := or_low (r3 / 549755813888) r4 12 (by omega) (by omega) (by omega)
  rw [y0] at e0
  rw [y1] at e1
  rw [y2] at e2
  rw [y3] at e3
  have d1 : (r1 : Int) / 8192 = ((r1 / 8192 : Nat) : Int) := by omega
  have d2 : (r2 : Int) / 67108864 = ((r2 / 67108864 : Nat) : Int) := by omega
  have d3 : (r3 : Int) / 549755813888 = ((r3 / 549755813888 : Nat) : Int) := by omega
  have m0 : IntKind.u64.wrap ((r1 : Int) * 2251799813685248) = ((2 ^ 51 * (r1 % 8192) : Nat) : Int) := by rw [IntKind.wrap_u64]; omega
  have m1 : IntKind.u64.wrap ((r2 : Int) * 274877906944) = ((2 ^ 38 * (r2 % 67108864) : Nat) : Int) := by rw [IntKind.wrap_u64]; omega
  have m2 : IntKind.u64.wrap ((r3 : Int) * 33554432) = ((2 ^ 25 * (r3 % 549755813888) : Nat) : Int) := by rw [IntKind.wrap_u64]; omega
  have m3 : (r4 : Int) * 4096 = ((2 ^ 12 * r4 : Nat) : Int) := by omega
  have m3l : 2 ^ 12 * r4 < 18446744073709551616 := by omega
  generalize 2 ^ 51 * (r1 % 8192) = k0 at *
  generalize 2 ^ 38 * (r2 % 67108864) = k1 at *
  generalize 2 ^ 25 * (r3 % 549755813888) = k2 at *
  generalize 2 ^ 12 * r4 = k3 at *
  generalize r1 / 8192 = h1 at *
  generalize r2 / 67108864 = h2 at *
  generalize r3 / 549755813888 = h3 at *
  have HWD : Hid (wdA x = #[.int .u64 (wq x 0 : Int), .int .u64 (wq x 1 : Int), .int .u64 (wq x 2 : Int), .int .u64 (wq x 3 : Int)]) := Lib.hid rfl
  have HQ : Hid (∀ i, i < 32 → wq x (i / 8) / 2 ^ (i % 8 * 8) % 256 = x / 256 ^ i % 256) := Lib.hid (byte_of x)
  have hzb := fun u => arr32_zero u
  have nB := zero32_size (l := leB 32 x) (leB_len _ _)
  have oB := arrB_one (leB 32 x)
  have iB := arr32_info (leB_len 32 x)
  have ZB : zero32 = arrB (updTo (List.replicate 32 0) (byteF x) 0) := by rw [updTo_zero]; rfl
  rw [show arrB (List.replicate 32 0) = zero32 from rfl] at hzb
  have HZB := Lib.hid ZB
  have Hend : Hid (arrB (updTo (List.replicate 32 0) (byteF x) 32) = arrB (leB 32 x)) := Lib.hid (by rw [bytes_end])
  unfold bytT
  obtain ⟨OUT, hOUT⟩ : ∃ o, arrB (leB 32 x) = o := ⟨_, rfl⟩
  rw [hOUT] at nB oB iB Hend ⊢
  generalize zero32 = z32 at *
  have hW : RowsW ((w.alloc (.cells c 26)).alloc (.cells z32 22)) [(w.heap.size + 1, z32, 22), (w.heap.size, c, 26)] := by
    have h := ((RowsW.nil w).box c 26).box z32 22
    simp only [World.size_alloc] at h
    exact h
  have hld := hW.tail.head
  obtain ⟨W1, hW1⟩ : ∃ W1, (w.alloc (.cells c 26)).alloc (.cells z32 22) = W1 := ⟨_, rfl⟩
  have HB1 : Hid (Below w.heap.size w W1) := Lib.hid (by rw [← hW1]; exact below_alloc (below_alloc (Below.refl _ _) _) _)
  have HR := Lib.hid hW
  rw [hW1] at HR
  have HW1 := Lib.hid hW1
  clear hW hW1 hx hxl hV hm y0 y1 y2 y3 ZB hOUT j0 j1 j2 j3 j4
  go_enter Try.func39, Try.ntmps39
  go_wp2_with (refine wpList_load_row rfl 26 (.tmp 1) rfl w.heap.size rfl 26 c (0, 0) _ hld Try.underlying26 rfl ic ?_)
  rw [HW1.out]
  with_reducible refine (HD.out _).mono ?_
  rintro e w2 ⟨rfl, hb2⟩
  have HR2 := Lib.hid (HR.out.below hb2)
  have HB2 := Lib.hid (below_next HB1.out hb2)
  clear hb2 hld HW1 HR HD
  have h3 : (w2.alloc (.cells #[.int .u64 0, .int .u64 0, .int .u64 0, .int .u64 0, .int .u64 0] 26)).heap[w2.heap.size]? = some (.cells #[.int .u64 0, .int .u64 0, .int .u64 0, .int .u64 0, .int .u64 0] 26 (0, 0)) := heap_alloc_new _ _
  have HR3 := Lib.hid (HR2.out.new #[.int .u64 0, .int .u64 0, .int .u64 0, .int .u64 0, .int .u64 0] RA 26)
  have HB3 := Lib.hid (below_new HB2.out #[.int .u64 0, .int .u64 0, .int .u64 0, .int .u64 0, .int .u64 0] RA 26)
  go_upto_region 2 with (refine wpList_store_row rfl 26 (.tmp 3) (.tmp 8) rfl w2.heap.size RA rfl rfl 26 #[.int .u64 0, .int .u64 0, .int .u64 0, .int .u64 0, .int .u64 0] h3 iS sS oS ?_)
  obtain ⟨W3, hW3⟩ : ∃ X, (w2.alloc (.cells #[.int .u64 0, .int .u64 0, .int .u64 0, .int .u64 0, .int .u64 0] 26)).setRow w2.heap.size RA = X := ⟨_, rfl⟩
  obtain ⟨gr, hgr⟩ : ∃ X, w2.heap.size = X := ⟨_, rfl⟩
  rw [hW3, hgr] at HR3
  rw [hW3] at HB3
  rw [hW3, hgr]
  clear hW3 hgr h3 HR2 HB2
  have c0 : W3.cell? ⟨gr, 0, none⟩ = some (.int .u64 (r0 : Int)) := by rw [cell_of_row _ _ _ _ _ _ HR3.out.head, HA.out]; rfl
  have c1 : W3.cell? ⟨gr, 1, none⟩ = some (.int .u64 (r1 : Int)) := by rw [cell_of_row _ _ _ _ _ _ HR3.out.head, HA.out]; rfl
  have c2 : W3.cell? ⟨gr, 2, none⟩ = some (.int .u64 (r2 : Int)) := by rw [cell_of_row _ _ _ _ _ _ HR3.out.head, HA.out]; rfl
  have c3 : W3.cell? ⟨gr, 3, none⟩ = some (.int .u64 (r3 : Int)) := by rw [cell_of_row _ _ _ _ _ _ HR3.out.head, HA.out]; rfl
  have c4 : W3.cell? ⟨gr, 4, none⟩ = some (.int .u64 (r4 : Int)) := by rw [cell_of_row _ _ _ _ _ _ HR3.out.head, HA.out]; rfl
  have hrow1 : w.heap.size + 1 < W3.heap.size := (Array.getElem?_eq_some_iff.1 HR3.out.tail.head).1
  have HI : Hid (Fiv 26 22 26 79 22 w ((W3.alloc (.cells (wdA x) 79)).alloc (.cells z32 22)) w.heap.size W3.heap.size #[] z32 #[] (wdA x) (arrB (updTo (List.replicate 32 0) (byteF x) 0))) := Lib.hid (by
    have hr := ((HR3.out.box (wdA x) 79).box z32 22)
    simp only [World.size_alloc] at hr
    refine ⟨hr.tail.tail.tail.head, hr.tail.head, ?_, hrow1, below_alloc (below_alloc HB3.out _) _⟩
    rw [← HZB.out]
    exact hr.head)
  rw [HWD.out] at HI
  have HG : Hid (w.heap.size + 1 < W3.heap.size) := Lib.hid hrow1
  clear HR3 HB3 hrow1
  go_wp2_with fail
  rw [← HWD.out] at HI
  rw [← HWD.out]
  obtain ⟨W5, hW5⟩ : ∃ X, (W3.alloc (.cells (wdA x) 79)).alloc (.cells z32 22) = X := ⟨_, rfl⟩
  obtain ⟨g2, hg2⟩ : ∃ X, W3.heap.size = X := ⟨_, rfl⟩
  obtain ⟨g, hg⟩ : ∃ X, w.heap.size = X := ⟨_, rfl⟩
  rw [hW5, hg2, hg] at HI
  rw [hW5, hg2, hg]
  have HGG := Lib.hid hg
  clear hW5 hg2 hg c0 c1 c2 c3 c4 e0 e1 e2 e3 m0 m1 m2 m3 m3l d1 d2 d3 HWD HA HG
  go_loopw [37] (fun i wr => ∃ k : Nat, k ≤ 32 ∧ i = .int .i64 (k : Int) ∧ Hid (Fiv 26 22 26 79 22 w wr g g2 #[] z32 #[] (wdA x) (arrB (updTo (List.replicate 32 0) (byteF x) k)))) (fun i _ => 32 - (intOf i).toNat)
  case atStart => exact ⟨0, by omega, rfl, HI⟩
  case round =>
    clear HI
    obtain ⟨k, hk, rfl, HI⟩ := hrel
    by_cases hlt : k < 32
    · have hq := HQ.out k hlt
      have hd4 : k / 8 < 4 := by omega
      obtain ⟨d, hd⟩ : ∃ d, k / 8 = d := ⟨_, rfl⟩
      obtain ⟨r, hr⟩ : ∃ r, k % 8 = r := ⟨_, rfl⟩
      obtain ⟨e, he⟩ : ∃ e, r * 8 = e := ⟨_, rfl⟩
      rw [hd, hr, he] at hq
      rw [hd] at hd4
      have hel : e < 57 := by omega
      have cz : wr.cell? ⟨g2, d, none⟩ = some (.int .u64 (wq x d : Int)) := by rw [cell_of_row _ _ _ _ _ _ HI.out.d, wdA_get _ _ hd4]
      have hlen : (updTo (List.replicate 32 0) (byteF x) k).length = 32 := by rw [updTo_len]; simp
      have ce : wr.cell? ⟨g2 + 1, k, none⟩ = some (.int .u8 (((updTo (List.replicate 32 0) (byteF x) k).getD k 0).toNat : Int)) := by rw [cell_of_row _ _ _ _ _ _ HI.out.e, arrB_get _ _ (by omega)]
      have fe : wr.frozen? ⟨g2 + 1, k, none⟩ = false := by have := HI.out.e; simp [World.frozen?, this]
      obtain ⟨t, ht⟩ : ∃ t, wq x d / 2 ^ e = t := ⟨_, rfl⟩
      rw [ht] at hq
      obtain ⟨v, hv⟩ : ∃ v, t % 256 = v := ⟨_, rfl⟩
      have hb : (byteF x k).toNat = v := by unfold byteF; rw [← hv, hq]; simp
      have HI2 : Hid (Fiv 26 22 26 79 22 w (wr.setCell ⟨g2 + 1, k, none⟩ (.int .u8 (v : Int))) g g2 #[] z32 #[] (wdA x) (arrB (updTo (List.replicate 32 0) (byteF x) (k + 1)))) := Lib.hid (by
        rw [← updTo_step (by simpa using hlt), ← arrB_set, hb]
        exact HI.out.set k _)
      have f6 : ((wq x d : Nat) : Int) / 2 ^ e = (t : Int) := by rw [← ht, Int.natCast_ediv]; simp
      have f7 : IntKind.u8.wrap (t : Int) = (v : Int) := by rw [IntKind.wrap_u8]; omega
      have f1 : (k : Int).tdiv 8 = (d : Int) := by rw [Int.tdiv_eq_ediv_of_nonneg (by omega)]; omega
      have f1' : (k : Int) / 8 = (d : Int) := by omega
      have f3 : (k : Int).tmod 8 = (r : Int) := by rw [Int.tmod_eq_emod_of_nonneg (by omega)]; omega
      have f3' : (k : Int) % 8 = (r : Int) := by omega
      have f4 : (r : Int) * 8 = (e : Int) := by omega
      have b1 : 0 ≤ (d : Int) := by omega
      have b2 : (d : Int) < 4 := by omega
      have b3 : 0 ≤ (e : Int) := by omega
      have b5 : 0 ≤ (k : Int) := by omega
      have b6 : (k : Int) < 32 := by omega
      generalize ((updTo (List.replicate 32 0) (byteF x) k).getD k 0) = old at *
      generalize wq x d = q at *
      clear HI hq hd hr he hb hlen ht hv
      go_wp2_with fail
      go_roundw
      case rel => exact ⟨k + 1, by omega, by go_num, HI2⟩
      case measure => simp [intOf]; omega
    · obtain rfl : k = 32 := by omega
      rw [Hend.out] at HI
      have h1 := HI.out.e
      have h0 := HI.out.b
      have HB : Hid (Below w.heap.size w (wr.setRow (g + 1) OUT)) := Lib.hid (by rw [HGG.out]; exact below_row HI.out.below (by omega))
      clear HI
      go_wp2_with (first
        | (refine wpList_load_row rfl 22 (.tmp 5) rfl (g2 + 1) rfl 22 OUT (0, 0) _ h1 Try.underlying22 rfl iB ?_)
        | (refine wpList_store_row rfl 22 (.tmp 2) (.tmp 52) rfl (g + 1) OUT rfl rfl 22 z32 h0 iB nB oB ?_))
      (try simp only [Exit.inBlock, Exit.then])
      refine bodyPost_ret (results_cell_row rfl _ _ (g + 1) _ OUT _ _ rfl (setRow_heap _ _ _ _ _ _ h0) Try.underlying22 rfl iB) rfl ?_
      exact ⟨rfl, HB.out⟩
end Go.Proofs.Ytfejabfmhddepaa

namespace Go.Proofs.Ytfejabfmhddepaa
open Go.RowKit
set_option linter.unusedVariables false
set_option maxRecDepth 100000

set_option maxHeartbeats 1600000 in
theorem fecan_any (l : List UInt8) (hl : l.length = 32) (w : World) : Calls Try.prog 67 #[.agg (arrB l)] w (RetV w (.bool (canN l))) := by
  rw [← canN_iff hl]
  have htl := topC_len l
  rw [hl] at htl
  have HFR : Hid (∀ W : World, Calls Try.prog 65 #[.agg (arrB (topC l))] W (RetFe feR W (feN (topC l)))) := Lib.hid fun W => fefrom_any _ htl W
  have heq := fun u : World => eqB_run (P := Try.prog) 22 5 32 (leB 32 (feN (topC l))) (topC l) (leB_len _ _) htl Try.underlying22 Try.underlying5 (fun w => by kernel_rfl) (fun w => by kernel_rfl) u
  obtain ⟨res, hres⟩ : ∃ r, decide (leB 32 (feN (topC l)) = topC l) = r := ⟨_, rfl⟩
  rw [hres] at heq ⊢
  have HBY : Hid (∀ (S : Array Value), feR S (feN (topC l)) → ∀ W : World, Calls Try.prog 39 #[.agg S] W (RetV W (.agg (arrB (leB 32 (feN (topC l))))))) := Lib.hid fun S hS W => febytes_any hS W
  obtain ⟨B2, hB2⟩ : ∃ B, arrB (leB 32 (feN (topC l))) = B := ⟨_, rfl⟩
  rw [hB2] at HBY heq
  have h0 : (w.alloc (.cells (arrB l) 22)).heap[w.heap.size]? = some (.cells (arrB l) 22 (0, 0)) := heap_alloc_new _ _
  obtain ⟨a, ha⟩ : ∃ a, l.getD 31 0 = a := ⟨_, rfl⟩
  have cx : (w.alloc (.cells (arrB l) 22)).cell? ⟨w.heap.size, 31, none⟩ = some (.int .u8 (a.toNat : Int)) := by rw [cell_of_row _ _ _ _ _ _ h0, arrB_get _ _ (by omega), ha]
  have f1 : bits .and .u8 (a.toNat : Int) 127 = ((a &&& 127).toNat : Int) := u8_and' a 127
  have eT : (arrB l).setIfInBounds 31 (.int .u8 ((a &&& 127).toNat : Int)) = arrB (topC l) := by rw [arrB_set, ← ha]; rfl
  have h1 : (w.alloc (.cells (arrB (topC l)) 22)).heap[w.heap.size]? = some (.cells (arrB (topC l)) 22 (0, 0)) := heap_alloc_new _ _
  have hb : Below w.heap.size w (w.alloc (.cells (arrB (topC l)) 22)) := (Below.refl w.heap.size w).alloc (Nat.le_refl _) _
  have nT : (arrB (topC l)).size = 32 := by rw [arrB_size, htl]
  have iT : (Try.prog.info? 22).map (·.size) = some (arrB (topC l)).size := by rw [nT]; kernel_rfl
  obtain ⟨L0, hL0⟩ : ∃ L, arrB l = L := ⟨_, rfl⟩
  rw [hL0] at cx eT ⊢
  obtain ⟨T, hT⟩ : ∃ L, arrB (topC l) = L := ⟨_, rfl⟩
  rw [hT] at HFR heq h1 hb iT eT
  have fx := frozen_row h0 31
  rw [hL0] at fx
  have hm32 : Try.prog.eqGuardType Try.prog.depth 22 = false := by kernel_rfl
  obtain ⟨m, hm⟩ : ∃ m : Int, ((a &&& 127).toNat : Int) = m := ⟨_, rfl⟩
  rw [hm] at f1 eT
  obtain ⟨W1, hW1⟩ : ∃ W1, w.alloc (.cells T 22) = W1 := ⟨_, rfl⟩
  rw [hW1] at h1 hb
  have hlt : w.heap.size < W1.heap.size := (Array.getElem?_eq_some_iff.1 h1).1
  have HROW : Hid (∀ W, Below W1.heap.size W1 W → W.heap[w.heap.size]? = some (.cells T 22 (0, 0))) := Lib.hid fun W h => by rw [h.block _ hlt]; exact h1
  have HB := Lib.hid hb
  have HW1 := Lib.hid hW1
  have HET := Lib.hid eT
  clear htl hl hres hB2 h0 ha eT h1 hb nT hL0 hT hm hlt hW1
  go_enter Try.func67, Try.ntmps67
  go_upto_region 2 with fail
  rw [HET.out, HW1.out]
  clear HW1 HET cx f1 fx
  refine wp_region_noPanic ?_
  refine wp_region_held_drew (S := fun W => Below W1.heap.size W1 W) (by kernel_rfl) (by exact (Below.refl _ _).drew) (fun hS => ?_)
  refine' take_at 0 rfl (by kernel_rfl) (by kernel_rfl) (by kernel_rfl) (fun _ _ _ h => h) (by rfl) hS ?_ ?_ ?_
  rotate_left 2
  · intro W hSW; exact run_loadR rfl rfl (HROW.out W hSW) Try.underlying22 rfl iT
  · simp only [List.set_cons_succ, List.set_cons_zero]; rfl
  refine' take_at 3 rfl (by kernel_rfl) (by kernel_rfl) (by kernel_rfl) (fun _ _ _ h => h) (by rfl) hS ?_ ?_ ?_
  rotate_left 2
  · intro W hSW; exact run_loadR rfl rfl (HROW.out W hSW) Try.underlying22 rfl iT
  · simp only [List.set_cons_succ, List.set_cons_zero]; rfl
  refine call_at 1 rfl (by kernel_rfl) (by rfl) (fun K hK => ?_)
  go_simp
  with_reducible refine (HFR.out _).mono ?_
  rintro e v1 ⟨S, rfl, hR, hb1⟩
  have HB3 := Lib.hid fun W : World => HBY.out S hR W
  clear hR
  have kb1 := below_next hS hb1
  clear hS hb1
  refine hK.out _ _ (by exact kb1) (fun hS => ?_)
  clear hK K
  refine call_at 2 rfl (by kernel_rfl) (by rfl) (fun K hK => ?_)
  go_simp
  with_reducible refine (HB3.out _).mono ?_
  rintro e v2 ⟨rfl, hb2⟩
  have kb2 := below_next kb1 hb2
  clear hS hb2
  refine hK.out _ _ (by exact kb2) (fun hS => ?_)
  clear hK K
  refine' take_at 4 rfl (by kernel_rfl) (by kernel_rfl) (by kernel_rfl) (fun _ _ _ h => h) (by rfl) hS ?_ ?_ ?_
  rotate_left 2
  · intro W hSW; exact run_eql2 rfl rfl rfl hm32 (heq W)
  · simp only [List.set_cons_succ, List.set_cons_zero]; rfl
  refine' take_at 5 rfl (by kernel_rfl) (by kernel_rfl) (by kernel_rfl) (fun _ _ _ h => h) (by rfl) hS ?_ ?_ ?_
  rotate_left 2
  · intro W hSW; go_simp; try with_reducible rfl
  · simp only [List.set_cons_succ, List.set_cons_zero]; rfl
  refine wpAnyH_done (by kernel_rfl) ?_ _
  refine NoPanic.normal ?_
  clear hS
  (try simp only [Act.put])
  go_wp2_with fail
  go_ret
  exact ⟨rfl, below_next HB.out kb2⟩

theorem feB : FeB feR where
  lt := fun h => by obtain ⟨_, _, _, _, _, -, -, -, -, -, -, rfl⟩ := h; exact Nat.mod_lt _ (by decide)
  info := feR_info
  one := feR_one
  zero := ⟨#[.int .u64 0, .int .u64 0, .int .u64 0, .int .u64 0, .int .u64 0], fun u => zero_arr 26 _ 5 (by kernel_rfl) u, feR_zero⟩
theorem feC : FeC feR where
  base := feB
  from_ := fefrom_any
  small := fesmall_any
  can := fecan_any
  bytes := febytes_any
  add := feadd_any
  sub := fesub_any
  mul := femul_any
  square := fesquare_any
  neg := feneg_any
  equal := feequal_any
  isZero := feiszero_any
  odd := feodd_any
end Go.Proofs.Ytfejabfmhddepaa

