/- The contracts of the developers' Add, Sub, Neg, Small. -/
import Derived.Test.YtlhnjdnkjgnooaaFeM
namespace Go.Proofs.Ytlhnjdnkjgnooaa
open Go.RowKit
set_option linter.unusedVariables false
set_option maxRecDepth 100000

abbrev carr0 (a e : Nat) : Nat := a % M51 + 19 * (e / M51)
abbrev carr1 (a b : Nat) : Nat := a % M51 + b / M51
theorem feR_carr {a b c d e x : Nat} (ha : a < 18446744073709551616) (hb : b < 18446744073709551616) (hc : c < 18446744073709551616) (hd : d < 18446744073709551616) (he : e < 18446744073709551616) (h : val5 a b c d e % PP = x) :
    feR (limb5 (carr0 a e) (carr1 b a) (carr1 c b) (carr1 d c) (carr1 e d)) x :=
  ⟨_, _, _, _, _, rfl, by unfold carr0 M51 L51; omega, by unfold carr1 M51 L51; omega, by unfold carr1 M51 L51; omega, by unfold carr1 M51 L51; omega, by unfold carr1 M51 L51; omega, by rw [← h]; exact val5_mod⟩

set_option maxHeartbeats 1600000 in
theorem feadd_any {c d : Array Value} {x y : Nat} (hx : feR c x) (hy : feR d y) (W : World) : Calls Try.prog 21 #[.agg c, .agg d] W (RetFe feR W ((x + y) % PP)) := by
  obtain ⟨a0, a1, a2, a3, a4, rfl, ha0, ha1, ha2, ha3, ha4, rfl⟩ := hx
  obtain ⟨b0, b1, b2, b3, b4, rfl, hb0, hb1, hb2, hb3, hb4, rfl⟩ := hy
  unfold L51 at *
  have hR : feR (limb5 (carr0 (a0 + b0) (a4 + b4)) (carr1 (a1 + b1) (a0 + b0)) (carr1 (a2 + b2) (a1 + b1)) (carr1 (a3 + b3) (a2 + b2)) (carr1 (a4 + b4) (a3 + b3))) ((val5 a0 a1 a2 a3 a4 % PP + val5 b0 b1 b2 b3 b4 % PP) % PP) :=
    feR_carr (by omega) (by omega) (by omega) (by omega) (by omega) (by rw [val5_add, add_mod5])
  have HC : Hid (∀ W' : World, Calls Try.prog 33 #[.int .u64 ((a0 + b0 : Nat) : Int), .int .u64 ((a1 + b1 : Nat) : Int), .int .u64 ((a2 + b2 : Nat) : Int), .int .u64 ((a3 + b3 : Nat) : Int), .int .u64 ((a4 + b4 : Nat) : Int)] W'
      (RetV W' (.agg (limb5 (carr0 (a0 + b0) (a4 + b4)) (carr1 (a1 + b1) (a0 + b0)) (carr1 (a2 + b2) (a1 + b1)) (carr1 (a3 + b3) (a2 + b2)) (carr1 (a4 + b4) (a3 + b3)))))) := Lib.hid fun W' => carried_any _ _ _ _ _ (by omega) (by omega) (by omega) (by omega) (by omega) W'
  have w0 : (a0 : Int) + (b0 : Int) = ((a0 + b0 : Nat) : Int) := (Int.natCast_add _ _).symm
  have w1 : (a1 : Int) + (b1 : Int) = ((a1 + b1 : Nat) : Int) := (Int.natCast_add _ _).symm
  have w2 : (a2 : Int) + (b2 : Int) = ((a2 + b2 : Nat) : Int) := (Int.natCast_add _ _).symm
  have w3 : (a3 : Int) + (b3 : Int) = ((a3 + b3 : Nat) : Int) := (Int.natCast_add _ _).symm
  have w4 : (a4 : Int) + (b4 : Int) = ((a4 + b4 : Nat) : Int) := (Int.natCast_add _ _).symm
  have l0 : a0 + b0 < 18446744073709551616 := by omega
  have l1 : a1 + b1 < 18446744073709551616 := by omega
  have l2 : a2 + b2 < 18446744073709551616 := by omega
  have l3 : a3 + b3 < 18446744073709551616 := by omega
  have l4 : a4 + b4 < 18446744073709551616 := by omega
  obtain ⟨S, hS⟩ : ∃ S, limb5 (carr0 (a0 + b0) (a4 + b4)) (carr1 (a1 + b1) (a0 + b0)) (carr1 (a2 + b2) (a1 + b1)) (carr1 (a3 + b3) (a2 + b2)) (carr1 (a4 + b4) (a3 + b3)) = S := ⟨_, rfl⟩
  rw [hS] at HC hR
  have iS : (Try.prog.info? 26).map (·.size) = some S.size := by rw [← hS]; exact limb5_info _ _ _ _ _
  have sS : (#[.int .u64 0, .int .u64 0, .int .u64 0, .int .u64 0, .int .u64 0] : Array Value).size = S.size := by rw [← hS]; rfl
  have oS : S.all (·.oneCell') = true := by rw [← hS]; exact limb5_one _ _ _ _ _
  have HP : Hid (∀ w', Below W.heap.size W w' → RetFe feR W ((val5 a0 a1 a2 a3 a4 % PP + val5 b0 b1 b2 b3 b4 % PP) % PP) (.returned (.agg S)) w') := Lib.hid fun w' hb => ⟨S, rfl, hR, hb⟩
  clear hS hR
  generalize a0 + b0 = s0 at *
  generalize a1 + b1 = s1 at *
  generalize a2 + b2 = s2 at *
  generalize a3 + b3 = s3 at *
  generalize a4 + b4 = s4 at *
  unfold limb5
  have z0 : ((W.alloc (.cells #[.int .u64 (a0 : Int), .int .u64 (a1 : Int), .int .u64 (a2 : Int), .int .u64 (a3 : Int), .int .u64 (a4 : Int)] 26)).alloc (.cells #[.int .u64 (b0 : Int), .int .u64 (b1 : Int), .int .u64 (b2 : Int), .int .u64 (b3 : Int), .int .u64 (b4 : Int)] 26)).heap.size = W.heap.size + 1 + 1 := by (try simp only [World.size_alloc])
  obtain ⟨W1, hW1⟩ : ∃ W1, ((W.alloc (.cells #[.int .u64 (a0 : Int), .int .u64 (a1 : Int), .int .u64 (a2 : Int), .int .u64 (a3 : Int), .int .u64 (a4 : Int)] 26)).alloc (.cells #[.int .u64 (b0 : Int), .int .u64 (b1 : Int), .int .u64 (b2 : Int), .int .u64 (b3 : Int), .int .u64 (b4 : Int)] 26)).alloc (.cells #[.int .u64 0, .int .u64 0, .int .u64 0, .int .u64 0, .int .u64 0] 26) = W1 := ⟨_, rfl⟩
  have hb1 : Below W.heap.size W W1 := by rw [← hW1]; exact below_alloc (below_alloc (below_alloc (Below.refl _ _) _) _) _
  have hrow : W1.heap[W.heap.size + 1 + 1]? = some (.cells #[.int .u64 0, .int .u64 0, .int .u64 0, .int .u64 0, .int .u64 0] 26 (0, 0)) := by rw [← hW1, ← z0]; exact heap_alloc_new _ _
  have HB1 := Lib.hid hb1
  have HR := Lib.hid hrow
  have HW1 := Lib.hid hW1
  clear hb1 hrow hW1 z0
  clear ha0 hb0
  clear ha1 hb1
  clear ha2 hb2
  clear ha3 hb3
  clear ha4 hb4
  go_enter Try.func21, Try.ntmps21
  go_wp2_with fail
  rw [HW1.out]
  with_reducible refine (HC.out _).mono ?_
  rintro e w2 ⟨rfl, hb2⟩
  have hr2 : w2.heap[W.heap.size + 1 + 1]? = some (.cells #[.int .u64 0, .int .u64 0, .int .u64 0, .int .u64 0, .int .u64 0] 26 (0, 0)) := by rw [hb2.block _ (Array.getElem?_eq_some_iff.1 HR.out).1]; exact HR.out
  have HE : Hid (Below W.heap.size W (w2.setRow (W.heap.size + 1 + 1) S)) := Lib.hid (below_row (below_next HB1.out hb2) (by omega))
  clear hb2
  go_wp2_with (refine wpList_store_row rfl 26 (.tmp 4) (.tmp 30) rfl (W.heap.size + 1 + 1) S rfl rfl 26 #[.int .u64 0, .int .u64 0, .int .u64 0, .int .u64 0, .int .u64 0] hr2 iS sS oS ?_)
  (try simp only [Exit.inBlock, Exit.then])
  refine bodyPost_ret (results_cell_row rfl _ _ (W.heap.size + 1 + 1) _ S _ _ rfl (setRow_heap w2 _ _ _ _ _ hr2) Try.underlying26 rfl iS) rfl ?_
  exact HP.out _ HE.out

theorem val5_sub2 {a b c d e a' b' c' d' e' s0 s1 s2 s3 s4 : Nat} (h0 : s0 + a' = a + 4503599627370458) (h1 : s1 + b' = b + 4503599627370494) (h2 : s2 + c' = c + 4503599627370494) (h3 : s3 + d' = d + 4503599627370494) (h4 : s4 + e' = e + 4503599627370494) :
    val5 s0 s1 s2 s3 s4 + val5 a' b' c' d' e' = val5 a b c d e + 2 * PP := by
  unfold val5 M51 M102 M153 M204 PP
  omega
set_option maxHeartbeats 1600000 in
theorem fesub_any {c d : Array Value} {x y : Nat} (hx : feR c x) (hy : feR d y) (W : World) : Calls Try.prog 23 #[.agg c, .agg d] W (RetFe feR W ((x + (PP - y)) % PP)) := by
  obtain ⟨a0, a1, a2, a3, a4, rfl, ha0, ha1, ha2, ha3, ha4, rfl⟩ := hx
  obtain ⟨b0, b1, b2, b3, b4, rfl, hb0, hb1, hb2, hb3, hb4, rfl⟩ := hy
  unfold L51 at *
  obtain ⟨k0, w0, l0, m0⟩ : ∃ k : Nat, (a0 : Int) + 4503599627370458 = (k : Int) ∧ k < 18446744073709551616 ∧ k = a0 + 4503599627370458 := ⟨a0 + 4503599627370458, by omega, by omega, rfl⟩
  obtain ⟨k1, w1, l1, m1⟩ : ∃ k : Nat, (a1 : Int) + 4503599627370494 = (k : Int) ∧ k < 18446744073709551616 ∧ k = a1 + 4503599627370494 := ⟨a1 + 4503599627370494, by omega, by omega, rfl⟩
  obtain ⟨k2, w2, l2, m2⟩ : ∃ k : Nat, (a2 : Int) + 4503599627370494 = (k : Int) ∧ k < 18446744073709551616 ∧ k = a2 + 4503599627370494 := ⟨a2 + 4503599627370494, by omega, by omega, rfl⟩
  obtain ⟨k3, w3, l3, m3⟩ : ∃ k : Nat, (a3 : Int) + 4503599627370494 = (k : Int) ∧ k < 18446744073709551616 ∧ k = a3 + 4503599627370494 := ⟨a3 + 4503599627370494, by omega, by omega, rfl⟩
  obtain ⟨k4, w4, l4, m4⟩ : ∃ k : Nat, (a4 : Int) + 4503599627370494 = (k : Int) ∧ k < 18446744073709551616 ∧ k = a4 + 4503599627370494 := ⟨a4 + 4503599627370494, by omega, by omega, rfl⟩
  obtain ⟨s0, v0, n0, j0⟩ : ∃ s : Nat, (k0 : Int) - (b0 : Int) = (s : Int) ∧ s < 18446744073709551616 ∧ s + b0 = a0 + 4503599627370458 := ⟨k0 - b0, by omega, by omega, by omega⟩
  obtain ⟨s1, v1, n1, j1⟩ : ∃ s : Nat, (k1 : Int) - (b1 : Int) = (s : Int) ∧ s < 18446744073709551616 ∧ s + b1 = a1 + 4503599627370494 := ⟨k1 - b1, by omega, by omega, by omega⟩
  obtain ⟨s2, v2, n2, j2⟩ : ∃ s : Nat, (k2 : Int) - (b2 : Int) = (s : Int) ∧ s < 18446744073709551616 ∧ s + b2 = a2 + 4503599627370494 := ⟨k2 - b2, by omega, by omega, by omega⟩
  obtain ⟨s3, v3, n3, j3⟩ : ∃ s : Nat, (k3 : Int) - (b3 : Int) = (s : Int) ∧ s < 18446744073709551616 ∧ s + b3 = a3 + 4503599627370494 := ⟨k3 - b3, by omega, by omega, by omega⟩
  obtain ⟨s4, v4, n4, j4⟩ : ∃ s : Nat, (k4 : Int) - (b4 : Int) = (s : Int) ∧ s < 18446744073709551616 ∧ s + b4 = a4 + 4503599627370494 := ⟨k4 - b4, by omega, by omega, by omega⟩
  have hR : feR (limb5 (carr0 s0 s4) (carr1 s1 s0) (carr1 s2 s1) (carr1 s3 s2) (carr1 s4 s3)) ((val5 a0 a1 a2 a3 a4 % PP + (PP - val5 b0 b1 b2 b3 b4 % PP)) % PP) := feR_carr n0 n1 n2 n3 n4 (sub_mod (val5_sub2 j0 j1 j2 j3 j4))
  have HC : Hid (∀ W' : World, Calls Try.prog 33 #[.int .u64 (s0 : Int), .int .u64 (s1 : Int), .int .u64 (s2 : Int), .int .u64 (s3 : Int), .int .u64 (s4 : Int)] W' (RetV W' (.agg (limb5 (carr0 s0 s4) (carr1 s1 s0) (carr1 s2 s1) (carr1 s3 s2) (carr1 s4 s3))))) := Lib.hid fun W' => carried_any _ _ _ _ _ n0 n1 n2 n3 n4 W'
  clear j0 j1 j2 j3 j4 m0 m1 m2 m3 m4
  obtain ⟨S, hS⟩ : ∃ S, limb5 (carr0 s0 s4) (carr1 s1 s0) (carr1 s2 s1) (carr1 s3 s2) (carr1 s4 s3) = S := ⟨_, rfl⟩
  rw [hS] at HC hR
  have iS : (Try.prog.info? 26).map (·.size) = some S.size := by rw [← hS]; exact limb5_info _ _ _ _ _
  have sS : (#[.int .u64 0, .int .u64 0, .int .u64 0, .int .u64 0, .int .u64 0] : Array Value).size = S.size := by rw [← hS]; rfl
  have oS : S.all (·.oneCell') = true := by rw [← hS]; exact limb5_one _ _ _ _ _
  obtain ⟨n, hn⟩ : ∃ n, (val5 a0 a1 a2 a3 a4 % PP + (PP - val5 b0 b1 b2 b3 b4 % PP)) % PP = n := ⟨_, rfl⟩
  rw [hn] at hR ⊢
  have HP : Hid (∀ w', Below W.heap.size W w' → RetFe feR W n (.returned (.agg S)) w') := Lib.hid fun w' hb => ⟨S, rfl, hR, hb⟩
  clear hS hR hn
  unfold limb5
  have z0 : ((W.alloc (.cells #[.int .u64 (a0 : Int), .int .u64 (a1 : Int), .int .u64 (a2 : Int), .int .u64 (a3 : Int), .int .u64 (a4 : Int)] 26)).alloc (.cells #[.int .u64 (b0 : Int), .int .u64 (b1 : Int), .int .u64 (b2 : Int), .int .u64 (b3 : Int), .int .u64 (b4 : Int)] 26)).heap.size = W.heap.size + 1 + 1 := by (try simp only [World.size_alloc])
  obtain ⟨W1, hW1⟩ : ∃ W1, ((W.alloc (.cells #[.int .u64 (a0 : Int), .int .u64 (a1 : Int), .int .u64 (a2 : Int), .int .u64 (a3 : Int), .int .u64 (a4 : Int)] 26)).alloc (.cells #[.int .u64 (b0 : Int), .int .u64 (b1 : Int), .int .u64 (b2 : Int), .int .u64 (b3 : Int), .int .u64 (b4 : Int)] 26)).alloc (.cells #[.int .u64 0, .int .u64 0, .int .u64 0, .int .u64 0, .int .u64 0] 26) = W1 := ⟨_, rfl⟩
  have hb1 : Below W.heap.size W W1 := by rw [← hW1]; exact below_alloc (below_alloc (below_alloc (Below.refl _ _) _) _) _
  have hrow : W1.heap[W.heap.size + 1 + 1]? = some (.cells #[.int .u64 0, .int .u64 0, .int .u64 0, .int .u64 0, .int .u64 0] 26 (0, 0)) := by rw [← hW1, ← z0]; exact heap_alloc_new _ _
  have HB1 := Lib.hid hb1
  have HR := Lib.hid hrow
  have HW1 := Lib.hid hW1
  clear hb1 hrow hW1 z0
  clear ha0 hb0
  clear ha1 hb1
  clear ha2 hb2
  clear ha3 hb3
  clear ha4 hb4
  go_enter Try.func23, Try.ntmps23
  go_wp2_with fail
  rw [HW1.out]
  with_reducible refine (HC.out _).mono ?_
  rintro e w2 ⟨rfl, hb2⟩
  have hr2 : w2.heap[W.heap.size + 1 + 1]? = some (.cells #[.int .u64 0, .int .u64 0, .int .u64 0, .int .u64 0, .int .u64 0] 26 (0, 0)) := by rw [hb2.block _ (Array.getElem?_eq_some_iff.1 HR.out).1]; exact HR.out
  have HE : Hid (Below W.heap.size W (w2.setRow (W.heap.size + 1 + 1) S)) := Lib.hid (below_row (below_next HB1.out hb2) (by omega))
  clear hb2
  go_wp2_with (refine wpList_store_row rfl 26 (.tmp 4) (.tmp 35) rfl (W.heap.size + 1 + 1) S rfl rfl 26 #[.int .u64 0, .int .u64 0, .int .u64 0, .int .u64 0, .int .u64 0] hr2 iS sS oS ?_)
  (try simp only [Exit.inBlock, Exit.then])
  refine bodyPost_ret (results_cell_row rfl _ _ (W.heap.size + 1 + 1) _ S _ _ rfl (setRow_heap w2 _ _ _ _ _ hr2) Try.underlying26 rfl iS) rfl ?_
  exact HP.out _ HE.out

theorem zero5 : (#[.int .u64 0, .int .u64 0, .int .u64 0, .int .u64 0, .int .u64 0] : Array Value) = limb5 0 0 0 0 0 := rfl
theorem feR_zero : feR (#[.int .u64 0, .int .u64 0, .int .u64 0, .int .u64 0, .int .u64 0]) 0 := ⟨0, 0, 0, 0, 0, rfl, by decide, by decide, by decide, by decide, by decide, by decide⟩
theorem feR_info {c : Array Value} {x : Nat} (h : feR c x) : (Try.prog.info? 26).map (·.size) = some c.size := by
  obtain ⟨a, b, c, d, e, rfl, -⟩ := h; exact limb5_info _ _ _ _ _
theorem feR_one {c : Array Value} {x : Nat} (h : feR c x) : c.all (·.oneCell') = true := by
  obtain ⟨a, b, c, d, e, rfl, -⟩ := h; exact limb5_one _ _ _ _ _
theorem feR_size {c : Array Value} {x : Nat} (h : feR c x) : (#[.int .u64 0, .int .u64 0, .int .u64 0, .int .u64 0, .int .u64 0] : Array Value).size = c.size := by
  obtain ⟨a, b, c, d, e, rfl, -⟩ := h; rfl

set_option maxHeartbeats 1600000 in
theorem feneg_any {c : Array Value} {x : Nat} (hx : feR c x) (W : World) : Calls Try.prog 28 #[.agg c] W (RetFe feR W ((PP - x) % PP)) := by
  have HC : Hid (∀ W' : World, Calls Try.prog 23 #[.agg (#[.int .u64 0, .int .u64 0, .int .u64 0, .int .u64 0, .int .u64 0]), .agg c] W' (RetFe feR W' ((PP - x) % PP))) := Lib.hid fun W' => by
    have h := fesub_any feR_zero hx W'
    rwa [Nat.zero_add] at h
  have ic := feR_info hx
  have oc := feR_one hx
  have hrc : (W.alloc (.cells c 26)).heap[W.heap.size]? = some (.cells c 26 (0, 0)) := heap_alloc_new _ _
  generalize (PP - x) % PP = n at *
  clear hx
  have z0 : (W.alloc (.cells c 26)).heap.size = W.heap.size + 1 := by (try simp only [World.size_alloc])
  obtain ⟨W1, hW1⟩ : ∃ W1, (W.alloc (.cells c 26)).alloc (.cells #[.int .u64 0, .int .u64 0, .int .u64 0, .int .u64 0, .int .u64 0] 26) = W1 := ⟨_, rfl⟩
  have hb1 : Below W.heap.size W W1 := by rw [← hW1]; exact below_alloc (below_alloc (Below.refl _ _) _) _
  have hrow : W1.heap[W.heap.size + 1]? = some (.cells #[.int .u64 0, .int .u64 0, .int .u64 0, .int .u64 0, .int .u64 0] 26 (0, 0)) := by rw [← hW1, ← z0]; exact heap_alloc_new _ _
  have HB1 := Lib.hid hb1
  have HR := Lib.hid hrow
  have hc1 : ((W.alloc (.cells c 26)).alloc (.cells #[.int .u64 0, .int .u64 0, .int .u64 0, .int .u64 0, .int .u64 0] 26)).heap[W.heap.size]? = some (.cells c 26 (0, 0)) := by rw [heap_alloc_old _ _ (by rw [World.size_alloc]; omega)]; exact hrc
  have HW1 := Lib.hid hW1
  clear hb1 hrow hW1 z0 hrc
  go_enter Try.func28, Try.ntmps28
  go_wp2_with (refine wpList_load_row rfl 26 (.tmp 1) rfl W.heap.size rfl 26 c (0, 0) _ hc1 Try.underlying26 rfl ic ?_)
  rw [HW1.out]
  with_reducible refine (HC.out _).mono ?_
  rintro e w2 ⟨S, rfl, hR, hb2⟩
  have iS := feR_info hR
  have sS := feR_size hR
  have oS := feR_one hR
  have HP : Hid (∀ w', Below W.heap.size W w' → RetFe feR W n (.returned (.agg S)) w') := Lib.hid fun w' hb => ⟨S, rfl, hR, hb⟩
  clear hR
  have hr2 : w2.heap[W.heap.size + 1]? = some (.cells #[.int .u64 0, .int .u64 0, .int .u64 0, .int .u64 0, .int .u64 0] 26 (0, 0)) := by rw [hb2.block _ (Array.getElem?_eq_some_iff.1 HR.out).1]; exact HR.out
  have HE : Hid (Below W.heap.size W (w2.setRow (W.heap.size + 1) S)) := Lib.hid (below_row (below_next HB1.out hb2) (by omega))
  clear hb2
  go_wp2_with (refine wpList_store_row rfl 26 (.tmp 2) (.tmp 5) rfl (W.heap.size + 1) S rfl rfl 26 #[.int .u64 0, .int .u64 0, .int .u64 0, .int .u64 0, .int .u64 0] hr2 iS sS oS ?_)
  (try simp only [Exit.inBlock, Exit.then])
  refine bodyPost_ret (results_cell_row rfl _ _ (W.heap.size + 1) _ S _ _ rfl (setRow_heap w2 _ _ _ _ _ hr2) Try.underlying26 rfl iS) rfl ?_
  exact HP.out _ HE.out

set_option maxHeartbeats 1600000 in
theorem fesmall_any (n : Nat) (hn : n < 18446744073709551616) (W : World) : Calls Try.prog 14 #[.int .u64 (n : Int)] W (RetFe feR W n) := by
  have a0 := and51 n hn
  have d0 : (n : Int) / 2251799813685248 = ((n / 2251799813685248 : Nat) : Int) := by omega
  have hR : feR (limb5 (n % 2251799813685248) (n / 2251799813685248) 0 0 0) n := ⟨_, _, _, _, _, rfl, by unfold L51; omega, by unfold L51; omega, by decide, by decide, by decide, by
    unfold val5 M51 M102 M153 M204 PP; omega⟩
  have HP : Hid (∀ w', Below W.heap.size W w' → RetFe feR W n (.returned (.agg #[.int .u64 ((n % 2251799813685248 : Nat) : Int), .int .u64 ((n / 2251799813685248 : Nat) : Int), .int .u64 0, .int .u64 0, .int .u64 0])) w') := Lib.hid fun w' hb => ⟨_, rfl, hR, hb⟩
  have q0 : n / 2251799813685248 < 8192 := by omega
  have r0 : n % 2251799813685248 < 2251799813685248 := by omega
  clear hR
  generalize n / 2251799813685248 = u at *
  generalize n % 2251799813685248 = v at *
  clear hn
  go_enter Try.func14, Try.ntmps14
  go_wp2
  refine bodyPost_ret (v := .agg #[.int .u64 (v : Int), .int .u64 (u : Int), .int .u64 0, .int .u64 0, .int .u64 0]) (by simp [results, Try.results14, go_sem]) rfl (HP.out _ ?_)
  exact (Below.refl _ _).alloc (Nat.le_refl _) _
end Go.Proofs.Ytlhnjdnkjgnooaa

