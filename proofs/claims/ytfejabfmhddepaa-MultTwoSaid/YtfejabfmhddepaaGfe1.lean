/- The developers' field elements: five limbs of 51 bits and a little more. The contracts of the developers' Add, Sub, Neg, Small. The contracts of the developers' product, plus, limb, carry, narrowed. The contract of the developers' narrowed. -/
import Derived.Test.YtfejabfmhddepaaGwd
import Derived.Test.YtfejabfmhddepaaLaw9Spec
import Derived.Test.YtfejabfmhddepaaGheld
import Derived.Test.YtfejabfmhddepaaGroo1
import Derived.Deep.QuietTactic
import Derived.BigQuiet
import Derived.Laws.BitsAllLaws
namespace Go.Proofs.Ytfejabfmhddepaa
open Go.RowKit
set_option linter.unusedVariables false
set_option maxRecDepth 100000

/-- five limbs -/
def limb5 (a b c d e : Nat) : Array Value := #[.int .u64 (a : Int), .int .u64 (b : Int), .int .u64 (c : Int), .int .u64 (d : Int), .int .u64 (e : Int)]
/-- the cells stand for the number x -/
def feR (cs : Array Value) (x : Nat) : Prop := ∃ a b c d e : Nat, cs = limb5 a b c d e ∧ a < L51 ∧ b < L51 ∧ c < L51 ∧ d < L51 ∧ e < L51 ∧ val5 a b c d e % PP = x
/-- a sum of products in two words -/
def wide2 (v : Nat) : Array Value := #[.int .u64 ((v / 18446744073709551616 : Nat) : Int), .int .u64 ((v % 18446744073709551616 : Nat) : Int)]
theorem and51 (n : Nat) (h : n < 18446744073709551616) : bits .and .u64 (n : Int) 2251799813685247 = ((n % 2251799813685248 : Nat) : Int) := by
  have h := u64_and_nat n 2251799813685247 h (by omega)
  rw [show (2251799813685247 : Nat) = 2 ^ 51 - 1 by decide, Nat.and_two_pow_sub_one_eq_mod] at h
  exact h
theorem limb5_info (a b c d e : Nat) : (Try.prog.info? 26).map (·.size) = some (limb5 a b c d e).size := by kernel_rfl
theorem limb5_one (a b c d e : Nat) : (limb5 a b c d e).all (·.oneCell') = true := by simp [limb5, Value.oneCell']

set_option maxHeartbeats 1600000 in
theorem carried_any (l0 l1 l2 l3 l4 : Nat) (h0 : l0 < 18446744073709551616) (h1 : l1 < 18446744073709551616) (h2 : l2 < 18446744073709551616) (h3 : l3 < 18446744073709551616) (h4 : l4 < 18446744073709551616) (W : World) :
    Calls Try.prog 82 #[.int .u64 (l0 : Int), .int .u64 (l1 : Int), .int .u64 (l2 : Int), .int .u64 (l3 : Int), .int .u64 (l4 : Int)] W
      (RetV W (.agg (limb5 (l0 % M51 + 19 * (l4 / M51)) (l1 % M51 + l0 / M51) (l2 % M51 + l1 / M51) (l3 % M51 + l2 / M51) (l4 % M51 + l3 / M51)))) := by
  have a0 := and51 l0 h0
  have a1 := and51 l1 h1
  have a2 := and51 l2 h2
  have a3 := and51 l3 h3
  have a4 := and51 l4 h4
  have d0 : (l0 : Int) / 2251799813685248 = ((l0 / 2251799813685248 : Nat) : Int) := by omega
  have d1 : (l1 : Int) / 2251799813685248 = ((l1 / 2251799813685248 : Nat) : Int) := by omega
  have d2 : (l2 : Int) / 2251799813685248 = ((l2 / 2251799813685248 : Nat) : Int) := by omega
  have d3 : (l3 : Int) / 2251799813685248 = ((l3 / 2251799813685248 : Nat) : Int) := by omega
  have d4 : (l4 : Int) / 2251799813685248 = ((l4 / 2251799813685248 : Nat) : Int) := by omega
  have q4 : l4 / 2251799813685248 < 8192 := by omega
  have q3 : l3 / 2251799813685248 < 8192 := by omega
  have q2 : l2 / 2251799813685248 < 8192 := by omega
  have q1 : l1 / 2251799813685248 < 8192 := by omega
  have q0 : l0 / 2251799813685248 < 8192 := by omega
  have r4 : l4 % 2251799813685248 < 2251799813685248 := by omega
  have r3 : l3 % 2251799813685248 < 2251799813685248 := by omega
  have r2 : l2 % 2251799813685248 < 2251799813685248 := by omega
  have r1 : l1 % 2251799813685248 < 2251799813685248 := by omega
  have r0 : l0 % 2251799813685248 < 2251799813685248 := by omega
  unfold M51
  generalize l0 / 2251799813685248 = u0 at *
  generalize l1 / 2251799813685248 = u1 at *
  generalize l2 / 2251799813685248 = u2 at *
  generalize l3 / 2251799813685248 = u3 at *
  generalize l4 / 2251799813685248 = u4 at *
  generalize l0 % 2251799813685248 = v0 at *
  generalize l1 % 2251799813685248 = v1 at *
  generalize l2 % 2251799813685248 = v2 at *
  generalize l3 % 2251799813685248 = v3 at *
  generalize l4 % 2251799813685248 = v4 at *
  clear h0 h1 h2 h3 h4
  unfold limb5
  go_enter Try.func82, Try.ntmps82
  go_wp2
  refine bodyPost_ret (v := .agg #[.int .u64 ((v0 + 19 * u4 : Nat) : Int), .int .u64 ((v1 + u0 : Nat) : Int), .int .u64 ((v2 + u1 : Nat) : Int), .int .u64 ((v3 + u2 : Nat) : Int), .int .u64 ((v4 + u3 : Nat) : Int)]) (by simp [results, Try.results82, go_sem]) rfl ⟨rfl, (Below.refl _ _).alloc (Nat.le_refl _) _⟩
end Go.Proofs.Ytfejabfmhddepaa

namespace Go.Proofs.Ytfejabfmhddepaa
open Go.RowKit
set_option linter.unusedVariables false
set_option maxRecDepth 100000

abbrev carr0 (a e : Nat) : Nat := a % M51 + 19 * (e / M51)
abbrev carr1 (a b : Nat) : Nat := a % M51 + b / M51
theorem feR_carr {a b c d e x : Nat} (ha : a < 18446744073709551616) (hb : b < 18446744073709551616) (hc : c < 18446744073709551616) (hd : d < 18446744073709551616) (he : e < 18446744073709551616) (h : val5 a b c d e % PP = x) :
    feR (limb5 (carr0 a e) (carr1 b a) (carr1 c b) (carr1 d c) (carr1 e d)) x :=
  ⟨_, _, _, _, _, rfl, by unfold carr0 M51 L51; omega, by unfold carr1 M51 L51; omega, by unfold carr1 M51 L51; omega, by unfold carr1 M51 L51; omega, by unfold carr1 M51 L51; omega, by rw [← h]; exact val5_mod⟩

set_option maxHeartbeats 1600000 in
theorem feadd_any {c d : Array Value} {x y : Nat} (hx : feR c x) (hy : feR d y) (W : World) : Calls Try.prog 54 #[.agg c, .agg d] W (RetFe feR W ((x + y) % PP)) := by
  obtain ⟨a0, a1, a2, a3, a4, rfl, ha0, ha1, ha2, ha3, ha4, rfl⟩ := hx
  obtain ⟨b0, b1, b2, b3, b4, rfl, hb0, hb1, hb2, hb3, hb4, rfl⟩ := hy
  unfold L51 at *
  have hR : feR (limb5 (carr0 (a0 + b0) (a4 + b4)) (carr1 (a1 + b1) (a0 + b0)) (carr1 (a2 + b2) (a1 + b1)) (carr1 (a3 + b3) (a2 + b2)) (carr1 (a4 + b4) (a3 + b3))) ((val5 a0 a1 a2 a3 a4 % PP + val5 b0 b1 b2 b3 b4 % PP) % PP) :=
    feR_carr (by omega) (by omega) (by omega) (by omega) (by omega) (by rw [val5_add, add_mod5])
  have HC : Hid (∀ W' : World, Calls Try.prog 82 #[.int .u64 ((a0 + b0 : Nat) : Int), .int .u64 ((a1 + b1 : Nat) : Int), .int .u64 ((a2 + b2 : Nat) : Int), .int .u64 ((a3 + b3 : Nat) : Int), .int .u64 ((a4 + b4 : Nat) : Int)] W'
      (RetV W' (.agg (limb5 (carr0 (a0 + b0) (a4 + b4)) (carr1 (a1 + b1) (a0 + b0)) (carr1 (a2 + b2) (a1 + b1)) (carr1 (a3 + b3) (a2 + b2)) (carr1 (a4 + b4) (a3 + b3)))))) := Lib.hid fun W' => carried_any _ _ _ _ _ (by omega) (by omega) (by omega) (by omega) (by omega) W'
  have w0 : (a0 : Int) + (b0 : Int) = ((a0 + b0 : Nat) : Int) := (Int.natCast_add _ _).symm
  have w1 : (a1 : Int) + (b1 : Int) = ((a1 + b1 : Nat) : Int) := (Int.natCast_add _ _).symm
  have w2 : (a2 : Int) + (b2 : Int) = ((a2 + b2 : Nat) : Int) := (Int.natCast_add _ _).symm
  have w3 : (a3 : Int) + (b3 : Int) = ((a3 + b3 : Nat) : Int) := (Int.natCast_add _ _).symm
  have w4 : (a4 : Int) + (b4 : Int) = ((a4 + b4 : Nat) : Int) := (Int.natCast_add _ _).symm
  have l0 : a0 + b0 < 18446744073709551616 := by omega
  have l1 : a1 + b1 < 18446744073709551616 := by omega
  have l2 : a2 + b2 < 18446744073709551616 := by omega
  have l3 : a3 + b3 < 18446744073709551616 := by omega
  have l4 : a4 + b4 < 18446744073709551616 := by omega
  obtain ⟨S, hS⟩ : ∃ S, limb5 (carr0 (a0 + b0) (a4 + b4)) (carr1 (a1 + b1) (a0 + b0)) (carr1 (a2 + b2) (a1 + b1)) (carr1 (a3 + b3) (a2 + b2)) (carr1 (a4 + b4) (a3 + b3)) = S := ⟨_, rfl⟩
  rw [hS] at HC hR
  have iS : (Try.prog.info? 26).map (·.size) = some S.size := by rw [← hS]; exact limb5_info _ _ _ _ _
  have sS : (#[.int .u64 0, .int .u64 0, .int .u64 0, .int .u64 0, .int .u64 0] : Array Value).size = S.size := by rw [← hS]; rfl
  have oS : S.all (·.oneCell') = true := by rw [← hS]; exact limb5_one _ _ _ _ _
  have HP : Hid (∀ w', Below W.heap.size W w' → RetFe feR W ((val5 a0 a1 a2 a3 a4 % PP + val5 b0 b1 b2 b3 b4 % PP) % PP) (.returned (.agg S)) w') := Lib.hid fun w' hb => ⟨S, rfl, hR, hb⟩
  clear hS hR
  generalize a0 + b0 = s0 at *
  generalize a1 + b1 = s1 at *
  generalize a2 + b2 = s2 at *
  generalize a3 + b3 = s3 at *
  generalize a4 + b4 = s4 at *
  unfold limb5
  have z0 : ((W.alloc (.cells #[.int .u64 (a0 : Int), .int .u64 (a1 : Int), .int .u64 (a2 : Int), .int .u64 (a3 : Int), .int .u64 (a4 : Int)] 26)).alloc (.cells #[.int .u64 (b0 : Int), .int .u64 (b1 : Int), .int .u64 (b2 : Int), .int .u64 (b3 : Int), .int .u64 (b4 : Int)] 26)).heap.size = W.heap.size + 1 + 1 := by (try simp only [World.size_alloc])
  obtain ⟨W1, hW1⟩ : ∃ W1, ((W.alloc (.cells #[.int .u64 (a0 : Int), .int .u64 (a1 : Int), .int .u64 (a2 : Int), .int .u64 (a3 : Int), .int .u64 (a4 : Int)] 26)).alloc (.cells #[.int .u64 (b0 : Int), .int .u64 (b1 : Int), .int .u64 (b2 : Int), .int .u64 (b3 : Int), .int .u64 (b4 : Int)] 26)).alloc (.cells #[.int .u64 0, .int .u64 0, .int .u64 0, .int .u64 0, .int .u64 0] 26) = W1 := ⟨_, rfl⟩
  have hb1 : Below W.heap.size W W1 := by rw [← hW1]; exact below_alloc (below_alloc (below_alloc (Below.refl _ _) _) _) _
  have hrow : W1.heap[W.heap.size + 1 + 1]? = some (.cells #[.int .u64 0, .int .u64 0, .int .u64 0, .int .u64 0, .int .u64 0] 26 (0, 0)) := by rw [← hW1, ← z0]; exact heap_alloc_new _ _
  have HB1 := Lib.hid hb1
  have HR := Lib.hid hrow
  have HW1 := Lib.hid hW1
  clear hb1 hrow hW1 z0
  clear ha0 hb0
  clear ha1 hb1
  clear ha2 hb2
  clear ha3 hb3
  clear ha4 hb4
  go_enter Try.func54, Try.ntmps54
  go_wp2_with fail
  rw [HW1.out]
  with_reducible refine (HC.out _).mono ?_
  rintro e w2 ⟨rfl, hb2⟩
  have hr2 : w2.heap[W.heap.size + 1 + 1]? = some (.cells #[.int .u64 0, .int .u64 0, .int .u64 0, .int .u64 0, .int .u64 0] 26 (0, 0)) := by rw [hb2.block _ (Array.getElem?_eq_some_iff.1 HR.out).1]; exact HR.out
  have HE : Hid (Below W.heap.size W (w2.setRow (W.heap.size + 1 + 1) S)) := Lib.hid (below_row (below_next HB1.out hb2) (by omega))
  clear hb2
  go_wp2_with (refine wpList_store_row rfl 26 (.tmp 4) (.tmp 30) rfl (W.heap.size + 1 + 1) S rfl rfl 26 #[.int .u64 0, .int .u64 0, .int .u64 0, .int .u64 0, .int .u64 0] hr2 iS sS oS ?_)
  (try simp only [Exit.inBlock, Exit.then])
  refine bodyPost_ret (results_cell_row rfl _ _ (W.heap.size + 1 + 1) _ S _ _ rfl (setRow_heap w2 _ _ _ _ _ hr2) Try.underlying26 rfl iS) rfl ?_
  exact HP.out _ HE.out

theorem val5_sub2 {a b c d e a' b' c' d' e' s0 s1 s2 s3 s4 : Nat} (h0 : s0 + a' = a + 4503599627370458) (h1 : s1 + b' = b + 4503599627370494) (h2 : s2 + c' = c + 4503599627370494) (h3 : s3 + d' = d + 4503599627370494) (h4 : s4 + e' = e + 4503599627370494) :
    val5 s0 s1 s2 s3 s4 + val5 a' b' c' d' e' = val5 a b c d e + 2 * PP := by
  unfold val5 M51 M102 M153 M204 PP
  omega
set_option maxHeartbeats 1600000 in
theorem fesub_any {c d : Array Value} {x y : Nat} (hx : feR c x) (hy : feR d y) (W : World) : Calls Try.prog 53 #[.agg c, .agg d] W (RetFe feR W ((x + (PP - y)) % PP)) := by
  obtain ⟨a0, a1, a2, a3, a4, rfl, ha0, ha1, ha2, ha3, ha4, rfl⟩ := hx
  obtain ⟨b0, b1, b2, b3, b4, rfl, hb0, hb1, hb2, hb3, hb4, rfl⟩ := hy
  unfold L51 at *
  obtain ⟨k0, w0, l0, m0⟩ : ∃ k : Nat, (a0 : Int) + 4503599627370458 = (k : Int) ∧ k < 18446744073709551616 ∧ k = a0 + 4503599627370458 := ⟨a0 + 4503599627370458, by omega, by omega, rfl⟩
  obtain ⟨k1, w1, l1, m1⟩ : ∃ k : Nat, (a1 : Int) + 4503599627370494 = (k : Int) ∧ k < 18446744073709551616 ∧ k = a1 + 4503599627370494 := ⟨a1 + 4503599627370494, by omega, by omega, rfl⟩
  obtain ⟨k2, w2, l2, m2⟩ : ∃ k : Nat, (a2 : Int) + 4503599627370494 = (k : Int) ∧ k < 18446744073709551616 ∧ k = a2 + 4503599627370494 := ⟨a2 + 4503599627370494, by omega, by omega, rfl⟩
  obtain ⟨k3, w3, l3, m3⟩ : ∃ k : Nat, (a3 : Int) + 4503599627370494 = (k : Int) ∧ k < 18446744073709551616 ∧ k = a3 + 4503599627370494 := ⟨a3 + 4503599627370494, by omega, by omega, rfl⟩
  obtain ⟨k4, w4, l4, m4⟩ : ∃ k : Nat, (a4 : Int) + 4503599627370494 = (k : Int) ∧ k < 18446744073709551616 ∧ k = a4 + 4503599627370494 := ⟨a4 + 4503599627370494, by omega, by omega, rfl⟩
  obtain ⟨s0, v0, n0, j0⟩ : ∃ s : Nat, (k0 : Int) - (b0 : Int) = (s : Int) ∧ s < 18446744073709551616 ∧ s + b0 = a0 + 4503599627370458 := ⟨k0 - b0, by omega, by omega, by omega⟩
  obtain ⟨s1, v1, n1, j1⟩ : ∃ s : Nat, (k1 : Int) - (b1 : Int) = (s : Int) ∧ s < 18446744073709551616 ∧ s + b1 = a1 + 4503599627370494 := ⟨k1 - b1, by omega, by omega, by omega⟩
  obtain ⟨s2, v2, n2, j2⟩ : ∃ s : Nat, (k2 : Int) - (b2 : Int) = (s : Int) ∧ s < 18446744073709551616 ∧ s + b2 = a2 + 4503599627370494 := ⟨k2 - b2, by omega, by omega, by omega⟩
  obtain ⟨s3, v3, n3, j3⟩ : ∃ s : Nat, (k3 : Int) - (b3 : Int) = (s : Int) ∧ s < 18446744073709551616 ∧ s + b3 = a3 + 4503599627370494 := ⟨k3 - b3, by omega, by omega, by omega⟩
  obtain ⟨s4, v4, n4, j4⟩ : ∃ s : Nat, (k4 : Int) - (b4 : Int) = (s : Int) ∧ s < 18446744073709551616 ∧ s + b4 = a4 + 4503599627370494 := ⟨k4 - b4, by omega, by omega, by omega⟩
  have hR : feR (limb5 (carr0 s0 s4) (carr1 s1 s0) (carr1 s2 s1) (carr1 s3 s2) (carr1 s4 s3)) ((val5 a0 a1 a2 a3 a4 % PP + (PP - val5 b0 b1 b2 b3 b4 % PP)) % PP) := feR_carr n0 n1 n2 n3 n4 (sub_mod (val5_sub2 j0 j1 j2 j3 j4))
  have HC : Hid (∀ W' : World, Calls Try.prog 82 #[.int .u64 (s0 : Int), .int .u64 (s1 : Int), .int .u64 (s2 : Int), .int .u64 (s3 : Int), .int .u64 (s4 : Int)] W' (RetV W' (.agg (limb5 (carr0 s0 s4) (carr1 s1 s0) (carr1 s2 s1) (carr1 s3 s2) (carr1 s4 s3))))) := Lib.hid fun W' => carried_any _ _ _ _ _ n0 n1 n2 n3 n4 W'
  clear j0 j1 j2 j3 j4 m0 m1 m2 m3 m4
  obtain ⟨S, hS⟩ : ∃ S, limb5 (carr0 s0 s4) (carr1 s1 s0) (carr1 s2 s1) (carr1 s3 s2) (carr1 s4 s3) = S := ⟨_, rfl⟩
  rw [hS] at HC hR
  have iS : (Try.prog.info? 26).map (·.size) = some S.size := by rw [← hS]; exact limb5_info _ _ _ _ _
  have sS : (#[.int .u64 0, .int .u64 0, .int .u64 0, .int .u64 0, .int .u64 0] : Array Value).size = S.size := by rw [← hS]; rfl
  have oS : S.all (·.oneCell') = true := by rw [← hS]; exact limb5_one _ _ _ _ _
  obtain ⟨n, hn⟩ : ∃ n, (val5 a0 a1 a2 a3 a4 % PP + (PP - val5 b0 b1 b2 b3 b4 % PP)) % PP = n := ⟨_, rfl⟩
  rw [hn] at hR ⊢
  have HP : Hid (∀ w', Below W.heap.size W w' → RetFe feR W n (.returned (.agg S)) w') := Lib.hid fun w' hb => ⟨S, rfl, hR, hb⟩
  clear hS hR hn
  unfold limb5
  have z0 : ((W.alloc (.cells #[.int .u64 (a0 : Int), .int .u64 (a1 : Int), .int .u64 (a2 : Int), .int .u64 (a3 : Int), .int .u64 (a4 : Int)] 26)).alloc (.cells #[.int .u64 (b0 : Int), .int .u64 (b1 : Int), .int .u64 (b2 : Int), .int .u64 (b3 : Int), .int .u64 (b4 : Int)] 26)).heap.size = W.heap.size + 1 + 1 := by (try simp only [World.size_alloc])
  obtain ⟨W1, hW1⟩ : ∃ W1, ((W.alloc (.cells #[.int .u64 (a0 : Int), .int .u64 (a1 : Int), .int .u64 (a2 : Int), .int .u64 (a3 : Int), .int .u64 (a4 : Int)] 26)).alloc (.cells #[.int .u64 (b0 : Int), .int .u64 (b1 : Int), .int .u64 (b2 : Int), .int .u64 (b3 : Int), .int .u64 (b4 : Int)] 26)).alloc (.cells #[.int .u64 0, .int .u64 0, .int .u64 0, .int .u64 0, .int .u64 0] 26) = W1 := ⟨_, rfl⟩
  have hb1 : Below W.heap.size W W1 := by rw [← hW1]; exact below_alloc (below_alloc (below_alloc (Below.refl _ _) _) _) _
  have hrow : W1.heap[W.heap.size + 1 + 1]? = some (.cells #[.int .u64 0, .int .u64 0, .int .u64 0, .int .u64 0, .int .u64 0] 26 (0, 0)) := by rw [← hW1, ← z0]; exact heap_alloc_new _ _
  have HB1 := Lib.hid hb1
  have HR := Lib.hid hrow
  have HW1 := Lib.hid hW1
  clear hb1 hrow hW1 z0
  clear ha0 hb0
  clear ha1 hb1
  clear ha2 hb2
  clear ha3 hb3
  clear ha4 hb4
  go_enter Try.func53, Try.ntmps53
  go_wp2_with fail
  rw [HW1.out]
  with_reducible refine (HC.out _).mono ?_
  rintro e w2 ⟨rfl, hb2⟩
  have hr2 : w2.heap[W.heap.size + 1 + 1]? = some (.cells #[.int .u64 0, .int .u64 0, .int .u64 0, .int .u64 0, .int .u64 0] 26 (0, 0)) := by rw [hb2.block _ (Array.getElem?_eq_some_iff.1 HR.out).1]; exact HR.out
  have HE : Hid (Below W.heap.size W (w2.setRow (W.heap.size + 1 + 1) S)) := Lib.hid (below_row (below_next HB1.out hb2) (by omega))
  clear hb2
  go_wp2_with (refine wpList_store_row rfl 26 (.tmp 4) (.tmp 35) rfl (W.heap.size + 1 + 1) S rfl rfl 26 #[.int .u64 0, .int .u64 0, .int .u64 0, .int .u64 0, .int .u64 0] hr2 iS sS oS ?_)
  (try simp only [Exit.inBlock, Exit.then])
  refine bodyPost_ret (results_cell_row rfl _ _ (W.heap.size + 1 + 1) _ S _ _ rfl (setRow_heap w2 _ _ _ _ _ hr2) Try.underlying26 rfl iS) rfl ?_
  exact HP.out _ HE.out

theorem zero5 : (#[.int .u64 0, .int .u64 0, .int .u64 0, .int .u64 0, .int .u64 0] : Array Value) = limb5 0 0 0 0 0 := rfl
theorem feR_zero : feR (#[.int .u64 0, .int .u64 0, .int .u64 0, .int .u64 0, .int .u64 0]) 0 := ⟨0, 0, 0, 0, 0, rfl, by decide, by decide, by decide, by decide, by decide, by decide⟩
theorem feR_info {c : Array Value} {x : Nat} (h : feR c x) : (Try.prog.info? 26).map (·.size) = some c.size := by
  obtain ⟨a, b, c, d, e, rfl, -⟩ := h; exact limb5_info _ _ _ _ _
theorem feR_one {c : Array Value} {x : Nat} (h : feR c x) : c.all (·.oneCell') = true := by
  obtain ⟨a, b, c, d, e, rfl, -⟩ := h; exact limb5_one _ _ _ _ _
theorem feR_size {c : Array Value} {x : Nat} (h : feR c x) : (#[.int .u64 0, .int .u64 0, .int .u64 0, .int .u64 0, .int .u64 0] : Array Value).size = c.size := by
  obtain ⟨a, b, c, d, e, rfl, -⟩ := h; rfl

set_option maxHeartbeats 1600000 in
theorem feneg_any {c : Array Value} {x : Nat} (hx : feR c x) (W : World) : Calls Try.prog 57 #[.agg c] W (RetFe feR W ((PP - x) % PP)) := by
  have HC : Hid (∀ W' : World, Calls Try.prog 53 #[.agg (#[.int .u64 0, .int .u64 0, .int .u64 0, .int .u64 0, .int .u64 0]), .agg c] W' (RetFe feR W' ((PP - x) % PP))) := Lib.hid fun W' => by
    have h := fesub_any feR_zero hx W'
    rwa [Nat.zero_add] at h
  have ic := feR_info hx
  have oc := feR_one hx
  have hrc : (W.alloc (.cells c 26)).heap[W.heap.size]? = some (.cells c 26 (0, 0)) := heap_alloc_new _ _
  generalize (PP - x) % PP = n at *
  clear hx
  have z0 : (W.alloc (.cells c 26)).heap.size = W.heap.size + 1 := by (try simp only [World.size_alloc])
  obtain ⟨W1, hW1⟩ : ∃ W1, (W.alloc (.cells c 26)).alloc (.cells #[.int .u64 0, .int .u64 0, .int .u64 0, .int .u64 0, .int .u64 0] 26) = W1 := ⟨_, rfl⟩
  have hb1 : Below W.heap.size W W1 := by rw [← hW1]; exact below_alloc (below_alloc (Below.refl _ _) _) _
  have hrow : W1.heap[W.heap.size + 1]? = some (.cells #[.int .u64 0, .int .u64 0, .int .u64 0, .int .u64 0, .int .u64 0] 26 (0, 0)) := by rw [← hW1, ← z0]; exact heap_alloc_new _ _
  have HB1 := Lib.hid hb1
  have HR := Lib.hid hrow
  have hc1 : ((W.alloc (.cells c 26)).alloc (.cells #[.int .u64 0, .int .u64 0, .int .u64 0, .int .u64 0, .int .u64 0] 26)).heap[W.heap.size]? = some (.cells c 26 (0, 0)) := by rw [heap_alloc_old _ _ (by rw [World.size_alloc]; omega)]; exact hrc
  have HW1 := Lib.hid hW1
  clear hb1 hrow hW1 z0 hrc
  go_enter Try.func57, Try.ntmps57
  go_wp2_with (refine wpList_load_row rfl 26 (.tmp 1) rfl W.heap.size rfl 26 c (0, 0) _ hc1 Try.underlying26 rfl ic ?_)
  rw [HW1.out]
  with_reducible refine (HC.out _).mono ?_
  rintro e w2 ⟨S, rfl, hR, hb2⟩
  have iS := feR_info hR
  have sS := feR_size hR
  have oS := feR_one hR
  have HP : Hid (∀ w', Below W.heap.size W w' → RetFe feR W n (.returned (.agg S)) w') := Lib.hid fun w' hb => ⟨S, rfl, hR, hb⟩
  clear hR
  have hr2 : w2.heap[W.heap.size + 1]? = some (.cells #[.int .u64 0, .int .u64 0, .int .u64 0, .int .u64 0, .int .u64 0] 26 (0, 0)) := by rw [hb2.block _ (Array.getElem?_eq_some_iff.1 HR.out).1]; exact HR.out
  have HE : Hid (Below W.heap.size W (w2.setRow (W.heap.size + 1) S)) := Lib.hid (below_row (below_next HB1.out hb2) (by omega))
  clear hb2
  go_wp2_with (refine wpList_store_row rfl 26 (.tmp 2) (.tmp 5) rfl (W.heap.size + 1) S rfl rfl 26 #[.int .u64 0, .int .u64 0, .int .u64 0, .int .u64 0, .int .u64 0] hr2 iS sS oS ?_)
  (try simp only [Exit.inBlock, Exit.then])
  refine bodyPost_ret (results_cell_row rfl _ _ (W.heap.size + 1) _ S _ _ rfl (setRow_heap w2 _ _ _ _ _ hr2) Try.underlying26 rfl iS) rfl ?_
  exact HP.out _ HE.out

set_option maxHeartbeats 1600000 in
theorem fesmall_any (n : Nat) (hn : n < 18446744073709551616) (W : World) : Calls Try.prog 59 #[.int .u64 (n : Int)] W (RetFe feR W n) := by
  have a0 := and51 n hn
  have d0 : (n : Int) / 2251799813685248 = ((n / 2251799813685248 : Nat) : Int) := by omega
  have hR : feR (limb5 (n % 2251799813685248) (n / 2251799813685248) 0 0 0) n := ⟨_, _, _, _, _, rfl, by unfold L51; omega, by unfold L51; omega, by decide, by decide, by decide, by
    unfold val5 M51 M102 M153 M204 PP; omega⟩
  have HP : Hid (∀ w', Below W.heap.size W w' → RetFe feR W n (.returned (.agg #[.int .u64 ((n % 2251799813685248 : Nat) : Int), .int .u64 ((n / 2251799813685248 : Nat) : Int), .int .u64 0, .int .u64 0, .int .u64 0])) w') := Lib.hid fun w' hb => ⟨_, rfl, hR, hb⟩
  have q0 : n / 2251799813685248 < 8192 := by omega
  have r0 : n % 2251799813685248 < 2251799813685248 := by omega
  clear hR
  generalize n / 2251799813685248 = u at *
  generalize n % 2251799813685248 = v at *
  clear hn
  go_enter Try.func59, Try.ntmps59
  go_wp2
  refine bodyPost_ret (v := .agg #[.int .u64 (v : Int), .int .u64 (u : Int), .int .u64 0, .int .u64 0, .int .u64 0]) (by simp [results, Try.results59, go_sem]) rfl (HP.out _ ?_)
  exact (Below.refl _ _).alloc (Nat.le_refl _) _
end Go.Proofs.Ytfejabfmhddepaa

namespace Go.Proofs.Ytfejabfmhddepaa
open Go.RowKit
set_option linter.unusedVariables false
set_option maxRecDepth 100000

theorem or_add13 (h q : Nat) (hq : q < 8192) (hh : h * 8192 < 18446744073709551616) : bits .or .u64 ((h * 8192 : Nat) : Int) (q : Int) = ((h * 8192 + q : Nat) : Int) := by
  have e := u64_or_nat (h * 8192) q hh (by omega)
  rw [e, show h * 8192 = 2 ^ 13 * h by rw [Nat.mul_comm], ← Nat.two_pow_add_eq_or_of_lt (show q < 2 ^ 13 from hq)]
theorem wide2_info (v : Nat) : (Try.prog.info? 92).map (·.size) = some (wide2 v).size := by kernel_rfl
theorem wide2_one (v : Nat) : (wide2 v).all (·.oneCell') = true := by simp [wide2, Value.oneCell']

set_option maxHeartbeats 1600000 in
theorem product_any (x y : Nat) (hx : x < 18446744073709551616) (hy : y < 18446744073709551616) (W : World) :
    Calls Try.prog 75 #[.int .u64 (x : Int), .int .u64 (y : Int)] W (RetV W (.agg (wide2 (x * y)))) := by
  have HM : Hid (∀ W' : World, Calls Try.prog 90 #[.int .u64 (x : Int), .int .u64 (y : Int)] W' fun e w' => e = .returned (.tuple #[.int .u64 ((x * y / 18446744073709551616 : Nat) : Int), .int .u64 ((x * y % 18446744073709551616 : Nat) : Int)]) ∧ w' = W') := Lib.hid fun W' => mul_any x y hx hy W'
  unfold wide2
  generalize x * y / 18446744073709551616 = h at *
  generalize x * y % 18446744073709551616 = l at *
  clear hx hy
  go_enter Try.func75, Try.ntmps75
  go_wp2_with fail
  with_reducible refine (HM.out _).mono ?_
  rintro e w2 ⟨rfl, h2⟩
  rw [h2]
  clear h2 w2
  go_wp2_with fail
  refine bodyPost_ret (v := .agg #[.int .u64 (h : Int), .int .u64 (l : Int)]) (by simp [results, Try.results75, go_sem]) rfl ⟨rfl, ?_⟩
  exact (Below.refl _ _).alloc (Nat.le_refl _) _

set_option maxHeartbeats 1600000 in
theorem plus_any (v x y : Nat) (hx : x < 18446744073709551616) (hy : y < 18446744073709551616) (hv : v + x * y < 340282366920938463463374607431768211456) (W : World) :
    Calls Try.prog 76 #[.agg (wide2 v), .int .u64 (x : Int), .int .u64 (y : Int)] W (RetV W (.agg (wide2 (v + x * y)))) := by
  obtain ⟨h, l, HM, e, hl, hh⟩ := mul_ex x y hx hy
  generalize x * y = p at *
  have v1 : v / 18446744073709551616 < 18446744073709551616 := by omega
  have v0 : v % 18446744073709551616 < 18446744073709551616 := by omega
  have ve : v = v / 18446744073709551616 * 18446744073709551616 + v % 18446744073709551616 := by omega
  obtain ⟨z0, d0, s0, e0, k0⟩ := add_ex l (v % 18446744073709551616) 0 (by omega)
  obtain ⟨z1, d1, s1, e1, k1⟩ := add_ex h (v / 18446744073709551616) d0 (by omega)
  have r1 : (v + p) / 18446744073709551616 = z1 := by omega
  have r0 : (v + p) % 18446744073709551616 = z0 := by omega
  unfold wide2
  rw [r1, r0]
  generalize v / 18446744073709551616 = a1 at *
  generalize v % 18446744073709551616 = a0 at *
  simp only [Int.ofNat_zero] at s0
  clear e hl hh v1 v0 ve e0 e1 k0 k1 r1 r0 hv hx hy
  go_enter Try.func76, Try.ntmps76
  go_wp2_with fail
  with_reducible refine (HM.out _).mono ?_
  rintro e w2 ⟨rfl, h2⟩
  rw [h2]
  clear h2 w2
  go_wp2_with fail
  refine bodyPost_ret (v := .agg #[.int .u64 (z1 : Int), .int .u64 (z0 : Int)]) (by simp [results, Try.results76, go_sem]) rfl ⟨rfl, ?_⟩
  exact ((Below.refl _ _).alloc (Nat.le_refl _) _).alloc (by simp) _

set_option maxHeartbeats 1600000 in
theorem limb_any (v : Nat) (W : World) : Calls Try.prog 92 #[.agg (wide2 v)] W (RetV W (.int .u64 ((v % M51 : Nat) : Int))) := by
  have a0 := and51 (v % 18446744073709551616) (by omega)
  rw [show v % 18446744073709551616 % 2251799813685248 = v % 2251799813685248 by omega] at a0
  unfold wide2 M51
  generalize v / 18446744073709551616 = h at *
  generalize v % 18446744073709551616 = l at *
  generalize v % 2251799813685248 = r at *
  go_enter Try.func92, Try.ntmps92
  go_wp2
  go_ret
  exact ⟨rfl, (Below.refl _ _).alloc (Nat.le_refl _) _⟩

set_option maxHeartbeats 1600000 in
theorem carry_any (v : Nat) (hv : v < 41538374868278621028243970633760768) (W : World) : Calls Try.prog 93 #[.agg (wide2 v)] W (RetV W (.int .u64 ((v / M51 : Nat) : Int))) := by
  have b1 : v / 18446744073709551616 < 2251799813685248 := by omega
  have b0 : v % 18446744073709551616 / 2251799813685248 < 8192 := by omega
  have a0 := or_add13 (v / 18446744073709551616) (v % 18446744073709551616 / 2251799813685248) b0 (by omega)
  rw [show v / 18446744073709551616 * 8192 + v % 18446744073709551616 / 2251799813685248 = v / 2251799813685248 by omega] at a0
  have d0 : ((v % 18446744073709551616 : Nat) : Int) / 2251799813685248 = ((v % 18446744073709551616 / 2251799813685248 : Nat) : Int) := by omega
  have m0 : ((v / 18446744073709551616 : Nat) : Int) * 8192 = ((v / 18446744073709551616 * 8192 : Nat) : Int) := by omega
  have m1 : v / 18446744073709551616 * 8192 < 18446744073709551616 := by omega
  unfold wide2 M51
  generalize v % 18446744073709551616 / 2251799813685248 = q at *
  generalize v / 18446744073709551616 * 8192 = k at *
  generalize v / 18446744073709551616 = h at *
  generalize v % 18446744073709551616 = l at *
  generalize v / 2251799813685248 = r at *
  clear hv
  go_enter Try.func93, Try.ntmps93
  go_wp2
  go_ret
  exact ⟨rfl, (Below.refl _ _).alloc (Nat.le_refl _) _⟩
end Go.Proofs.Ytfejabfmhddepaa

namespace Go.Proofs.Ytfejabfmhddepaa
open Go.RowKit
set_option linter.unusedVariables false
set_option maxRecDepth 100000

set_option maxHeartbeats 3200000 in
theorem narrowed_any (v0 v1 v2 v3 v4 : Nat) (b0 : v0 < 1298074214633706907132624082305024) (b1 : v1 < 1298074214633706907132624082305024) (b2 : v2 < 1298074214633706907132624082305024) (b3 : v3 < 1298074214633706907132624082305024) (b4 : v4 < 1298074214633706907132624082305024) (W : World) :
    Calls Try.prog 77 #[.agg (wide2 v0), .agg (wide2 v1), .agg (wide2 v2), .agg (wide2 v3), .agg (wide2 v4)] W (RetFe feR W (val5 v0 v1 v2 v3 v4 % PP)) := by
  have HL0 : Hid (∀ W' : World, Calls Try.prog 92 #[.agg (wide2 v0)] W' (RetV W' (.int .u64 ((v0 % M51 : Nat) : Int)))) := Lib.hid fun W' => limb_any v0 W'
  have HQ0 : Hid (∀ W' : World, Calls Try.prog 93 #[.agg (wide2 v0)] W' (RetV W' (.int .u64 ((v0 / M51 : Nat) : Int)))) := Lib.hid fun W' => carry_any v0 (by omega) W'
  have r0 : v0 % M51 < 2251799813685248 := Nat.mod_lt _ (by decide)
  have q0 : v0 / M51 < 576460752303423488 := by unfold M51; omega
  have i0 := wide2_info v0
  have HL1 : Hid (∀ W' : World, Calls Try.prog 92 #[.agg (wide2 v1)] W' (RetV W' (.int .u64 ((v1 % M51 : Nat) : Int)))) := Lib.hid fun W' => limb_any v1 W'
  have HQ1 : Hid (∀ W' : World, Calls Try.prog 93 #[.agg (wide2 v1)] W' (RetV W' (.int .u64 ((v1 / M51 : Nat) : Int)))) := Lib.hid fun W' => carry_any v1 (by omega) W'
  have r1 : v1 % M51 < 2251799813685248 := Nat.mod_lt _ (by decide)
  have q1 : v1 / M51 < 576460752303423488 := by unfold M51; omega
  have i1 := wide2_info v1
  have HL2 : Hid (∀ W' : World, Calls Try.prog 92 #[.agg (wide2 v2)] W' (RetV W' (.int .u64 ((v2 % M51 : Nat) : Int)))) := Lib.hid fun W' => limb_any v2 W'
  have HQ2 : Hid (∀ W' : World, Calls Try.prog 93 #[.agg (wide2 v2)] W' (RetV W' (.int .u64 ((v2 / M51 : Nat) : Int)))) := Lib.hid fun W' => carry_any v2 (by omega) W'
  have r2 : v2 % M51 < 2251799813685248 := Nat.mod_lt _ (by decide)
  have q2 : v2 / M51 < 576460752303423488 := by unfold M51; omega
  have i2 := wide2_info v2
  have HL3 : Hid (∀ W' : World, Calls Try.prog 92 #[.agg (wide2 v3)] W' (RetV W' (.int .u64 ((v3 % M51 : Nat) : Int)))) := Lib.hid fun W' => limb_any v3 W'
  have HQ3 : Hid (∀ W' : World, Calls Try.prog 93 #[.agg (wide2 v3)] W' (RetV W' (.int .u64 ((v3 / M51 : Nat) : Int)))) := Lib.hid fun W' => carry_any v3 (by omega) W'
  have r3 : v3 % M51 < 2251799813685248 := Nat.mod_lt _ (by decide)
  have q3 : v3 / M51 < 576460752303423488 := by unfold M51; omega
  have i3 := wide2_info v3
  have HL4 : Hid (∀ W' : World, Calls Try.prog 92 #[.agg (wide2 v4)] W' (RetV W' (.int .u64 ((v4 % M51 : Nat) : Int)))) := Lib.hid fun W' => limb_any v4 W'
  have HQ4 : Hid (∀ W' : World, Calls Try.prog 93 #[.agg (wide2 v4)] W' (RetV W' (.int .u64 ((v4 / M51 : Nat) : Int)))) := Lib.hid fun W' => carry_any v4 (by omega) W'
  have r4 : v4 % M51 < 2251799813685248 := Nat.mod_lt _ (by decide)
  have q4 : v4 / M51 < 576460752303423488 := by unfold M51; omega
  have i4 := wide2_info v4
  rw [← @val5_mod v0 v1 v2 v3 v4]
  generalize wide2 v0 = V0 at *
  generalize v0 % M51 = r0n at *
  generalize v0 / M51 = q0n at *
  generalize wide2 v1 = V1 at *
  generalize v1 % M51 = r1n at *
  generalize v1 / M51 = q1n at *
  generalize wide2 v2 = V2 at *
  generalize v2 % M51 = r2n at *
  generalize v2 / M51 = q2n at *
  generalize wide2 v3 = V3 at *
  generalize v3 % M51 = r3n at *
  generalize v3 / M51 = q3n at *
  generalize wide2 v4 = V4 at *
  generalize v4 % M51 = r4n at *
  generalize v4 / M51 = q4n at *
  clear b0 b1 b2 b3 b4
  obtain ⟨p4, w5, w6⟩ : ∃ p : Nat, IntKind.u64.wrap (19 * (q4n : Int)) = (p : Int) ∧ p = 19 * q4n := ⟨19 * q4n, by rw [IntKind.wrap_u64]; omega, rfl⟩
  obtain ⟨s0, w0, n0, j0⟩ : ∃ s : Nat, IntKind.u64.wrap ((r0n : Int) + (p4 : Int)) = (s : Int) ∧ s < 18446744073709551616 ∧ s = r0n + 19 * q4n := ⟨r0n + 19 * q4n, by rw [IntKind.wrap_u64]; omega, by omega, rfl⟩
  obtain ⟨s1, w1, n1, j1⟩ : ∃ s : Nat, IntKind.u64.wrap ((r1n : Int) + (q0n : Int)) = (s : Int) ∧ s < 18446744073709551616 ∧ s = r1n + q0n := ⟨r1n + q0n, by rw [IntKind.wrap_u64]; omega, by omega, rfl⟩
  obtain ⟨s2, w2, n2, j2⟩ : ∃ s : Nat, IntKind.u64.wrap ((r2n : Int) + (q1n : Int)) = (s : Int) ∧ s < 18446744073709551616 ∧ s = r2n + q1n := ⟨r2n + q1n, by rw [IntKind.wrap_u64]; omega, by omega, rfl⟩
  obtain ⟨s3, w3, n3, j3⟩ : ∃ s : Nat, IntKind.u64.wrap ((r3n : Int) + (q2n : Int)) = (s : Int) ∧ s < 18446744073709551616 ∧ s = r3n + q2n := ⟨r3n + q2n, by rw [IntKind.wrap_u64]; omega, by omega, rfl⟩
  obtain ⟨s4, w4, n4, j4⟩ : ∃ s : Nat, IntKind.u64.wrap ((r4n : Int) + (q3n : Int)) = (s : Int) ∧ s < 18446744073709551616 ∧ s = r4n + q3n := ⟨r4n + q3n, by rw [IntKind.wrap_u64]; omega, by omega, rfl⟩
  rw [← j0, ← j1, ← j2, ← j3, ← j4]
  have hR : feR (limb5 (carr0 s0 s4) (carr1 s1 s0) (carr1 s2 s1) (carr1 s3 s2) (carr1 s4 s3)) (val5 s0 s1 s2 s3 s4 % PP) := feR_carr n0 n1 n2 n3 n4 rfl
  have HC : Hid (∀ W' : World, Calls Try.prog 82 #[.int .u64 (s0 : Int), .int .u64 (s1 : Int), .int .u64 (s2 : Int), .int .u64 (s3 : Int), .int .u64 (s4 : Int)] W' (RetV W' (.agg (limb5 (carr0 s0 s4) (carr1 s1 s0) (carr1 s2 s1) (carr1 s3 s2) (carr1 s4 s3))))) := Lib.hid fun W' => carried_any _ _ _ _ _ n0 n1 n2 n3 n4 W'
  clear j0 j1 j2 j3 j4 w6
  have x0 : IntKind.u64.wrap (s0 : Int) = (s0 : Int) := by rw [IntKind.wrap_u64]; omega
  have x1 : IntKind.u64.wrap (s1 : Int) = (s1 : Int) := by rw [IntKind.wrap_u64]; omega
  have x2 : IntKind.u64.wrap (s2 : Int) = (s2 : Int) := by rw [IntKind.wrap_u64]; omega
  have x3 : IntKind.u64.wrap (s3 : Int) = (s3 : Int) := by rw [IntKind.wrap_u64]; omega
  have x4 : IntKind.u64.wrap (s4 : Int) = (s4 : Int) := by rw [IntKind.wrap_u64]; omega
  obtain ⟨S, hS⟩ : ∃ S, limb5 (carr0 s0 s4) (carr1 s1 s0) (carr1 s2 s1) (carr1 s3 s2) (carr1 s4 s3) = S := ⟨_, rfl⟩
  rw [hS] at HC hR
  have iS : (Try.prog.info? 26).map (·.size) = some S.size := by rw [← hS]; exact limb5_info _ _ _ _ _
  have sS : (#[.int .u64 0, .int .u64 0, .int .u64 0, .int .u64 0, .int .u64 0] : Array Value).size = S.size := by rw [← hS]; rfl
  have oS : S.all (·.oneCell') = true := by rw [← hS]; exact limb5_one _ _ _ _ _
  obtain ⟨n, hn⟩ : ∃ n, val5 s0 s1 s2 s3 s4 % PP = n := ⟨_, rfl⟩
  rw [hn] at hR ⊢
  have HP : Hid (∀ w', Below W.heap.size W w' → RetFe feR W n (.returned (.agg S)) w') := Lib.hid fun w' hb => ⟨S, rfl, hR, hb⟩
  clear hS hR hn
  clear r0 r1 r2 r3 r4 q0 q1 q2 q3 q4 n0 n1 n2 n3 n4
  have hrr : RowsW ((((((W.alloc (.cells V0 92)).alloc (.cells V1 92)).alloc (.cells V2 92)).alloc (.cells V3 92)).alloc (.cells V4 92)).alloc (.cells #[.int .u64 0, .int .u64 0, .int .u64 0, .int .u64 0, .int .u64 0] 26)) [(W.heap.size + 1 + 1 + 1 + 1 + 1, #[.int .u64 0, .int .u64 0, .int .u64 0, .int .u64 0, .int .u64 0], 26), (W.heap.size + 1 + 1 + 1 + 1, V4, 92), (W.heap.size + 1 + 1 + 1, V3, 92), (W.heap.size + 1 + 1, V2, 92), (W.heap.size + 1, V1, 92), (W.heap.size, V0, 92)] := by have h := (RowsW.box (RowsW.box (RowsW.box (RowsW.box (RowsW.box (RowsW.box (RowsW.nil W) V0 92) V1 92) V2 92) V3 92) V4 92) #[.int .u64 0, .int .u64 0, .int .u64 0, .int .u64 0, .int .u64 0] 26); simp only [World.size_alloc] at h; exact h
  obtain ⟨W1, hW1⟩ : ∃ W1, ((((((W.alloc (.cells V0 92)).alloc (.cells V1 92)).alloc (.cells V2 92)).alloc (.cells V3 92)).alloc (.cells V4 92)).alloc (.cells #[.int .u64 0, .int .u64 0, .int .u64 0, .int .u64 0, .int .u64 0] 26)) = W1 := ⟨_, rfl⟩
  rw [hW1] at hrr
  have hb1 : Below W.heap.size W W1 := by rw [← hW1]; exact below_alloc (below_alloc (below_alloc (below_alloc (below_alloc (below_alloc (Below.refl _ _) _) _) _) _) _) _
  have HR := Lib.hid hrr
  have HB1 := Lib.hid hb1
  have HW1 := Lib.hid hW1
  clear hrr hb1 hW1
  go_enter Try.func77, Try.ntmps77
  go_upto_region 1 with fail
  rw [HW1.out]
  refine wp_region_noPanic ?_
  refine wp_region_held_tail (S := fun W => Below W1.heap.size W1 W) 26 (by kernel_rfl) ⟨by kernel_rfl, by kernel_rfl, by kernel_rfl, by kernel_rfl⟩ (by exact (Below.refl _ _).drew) (fun hT inv hS => ?_)
  refine' take_atT 0 hT inv rfl (by omega) (by kernel_rfl) (by kernel_rfl) (fun _ _ _ h => h) (by rfl) hS ?_ ?_ ?_
  rotate_left 2
  · intro W hSW; exact run_loadR rfl rfl (HR.out.below hSW).tail.tail.tail.tail.tail.head Try.underlying92 rfl i0
  · simp only [List.set_cons_succ, List.set_cons_zero]; rfl
  intro inv
  refine' take_atT 2 hT inv rfl (by omega) (by kernel_rfl) (by kernel_rfl) (fun _ _ _ h => h) (by rfl) hS ?_ ?_ ?_
  rotate_left 2
  · intro W hSW; exact run_loadR rfl rfl (HR.out.below hSW).tail.head Try.underlying92 rfl i4
  · simp only [List.set_cons_succ, List.set_cons_zero]; rfl
  intro inv
  refine' take_atT 6 hT inv rfl (by omega) (by kernel_rfl) (by kernel_rfl) (fun _ _ _ h => h) (by rfl) hS ?_ ?_ ?_
  rotate_left 2
  · intro W hSW; exact run_loadR rfl rfl (HR.out.below hSW).tail.tail.tail.tail.head Try.underlying92 rfl i1
  · simp only [List.set_cons_succ, List.set_cons_zero]; rfl
  intro inv
  refine' take_atT 8 hT inv rfl (by omega) (by kernel_rfl) (by kernel_rfl) (fun _ _ _ h => h) (by rfl) hS ?_ ?_ ?_
  rotate_left 2
  · intro W hSW; exact run_loadR rfl rfl (HR.out.below hSW).tail.tail.tail.tail.tail.head Try.underlying92 rfl i0
  · simp only [List.set_cons_succ, List.set_cons_zero]; rfl
  intro inv
  refine' take_atT 11 hT inv rfl (by omega) (by kernel_rfl) (by kernel_rfl) (fun _ _ _ h => h) (by rfl) hS ?_ ?_ ?_
  rotate_left 2
  · intro W hSW; exact run_loadR rfl rfl (HR.out.below hSW).tail.tail.tail.head Try.underlying92 rfl i2
  · simp only [List.set_cons_succ, List.set_cons_zero]; rfl
  intro inv
  refine' take_atT 13 hT inv rfl (by omega) (by kernel_rfl) (by kernel_rfl) (fun _ _ _ h => h) (by rfl) hS ?_ ?_ ?_
  rotate_left 2
  · intro W hSW; exact run_loadR rfl rfl (HR.out.below hSW).tail.tail.tail.tail.head Try.underlying92 rfl i1
  · simp only [List.set_cons_succ, List.set_cons_zero]; rfl
  intro inv
  refine' take_atT 16 hT inv rfl (by omega) (by kernel_rfl) (by kernel_rfl) (fun _ _ _ h => h) (by rfl) hS ?_ ?_ ?_
  rotate_left 2
  · intro W hSW; exact run_loadR rfl rfl (HR.out.below hSW).tail.tail.head Try.underlying92 rfl i3
  · simp only [List.set_cons_succ, List.set_cons_zero]; rfl
  intro inv
  refine' take_atT 18 hT inv rfl (by omega) (by kernel_rfl) (by kernel_rfl) (fun _ _ _ h => h) (by rfl) hS ?_ ?_ ?_
  rotate_left 2
  · intro W hSW; exact run_loadR rfl rfl (HR.out.below hSW).tail.tail.tail.head Try.underlying92 rfl i2
  · simp only [List.set_cons_succ, List.set_cons_zero]; rfl
  intro inv
  refine' take_atT 21 hT inv rfl (by omega) (by kernel_rfl) (by kernel_rfl) (fun _ _ _ h => h) (by rfl) hS ?_ ?_ ?_
  rotate_left 2
  · intro W hSW; exact run_loadR rfl rfl (HR.out.below hSW).tail.head Try.underlying92 rfl i4
  · simp only [List.set_cons_succ, List.set_cons_zero]; rfl
  intro inv
  refine' take_atT 23 hT inv rfl (by omega) (by kernel_rfl) (by kernel_rfl) (fun _ _ _ h => h) (by rfl) hS ?_ ?_ ?_
  rotate_left 2
  · intro W hSW; exact run_loadR rfl rfl (HR.out.below hSW).tail.tail.head Try.underlying92 rfl i3
  · simp only [List.set_cons_succ, List.set_cons_zero]; rfl
  intro inv
  refine call_atT 1 inv rfl (by omega) (by kernel_rfl) (by rfl) (fun K hK => ?_)
  go_simp
  with_reducible refine (HL0.out _).mono ?_
  rintro e u1 ⟨rfl, hb1⟩
  have kb1 := below_next hS hb1
  clear hS hb1
  refine hK.out _ _ (by exact kb1) (fun inv hS => ?_)
  clear hK K
  refine call_atT 3 inv rfl (by omega) (by kernel_rfl) (by rfl) (fun K hK => ?_)
  go_simp
  with_reducible refine (HQ4.out _).mono ?_
  rintro e u2 ⟨rfl, hb2⟩
  have kb2 := below_next hS hb2
  clear hS hb2
  refine hK.out _ _ (by exact kb2) (fun inv hS => ?_)
  clear hK K
  refine' take_atT 4 hT inv rfl (by omega) (by kernel_rfl) (by kernel_rfl) (fun _ _ _ h => h) (by rfl) hS ?_ ?_ ?_
  rotate_left 2
  · intro W hSW; go_simp; try with_reducible rfl
  · simp only [List.set_cons_succ, List.set_cons_zero]; rfl
  intro inv
  refine' take_atT 5 hT inv rfl (by omega) (by kernel_rfl) (by kernel_rfl) (fun _ _ _ h => h) (by rfl) hS ?_ ?_ ?_
  rotate_left 2
  · intro W hSW; go_simp; try with_reducible rfl
  · simp only [List.set_cons_succ, List.set_cons_zero]; rfl
  intro inv
  refine call_atT 7 inv rfl (by omega) (by kernel_rfl) (by rfl) (fun K hK => ?_)
  go_simp
  with_reducible refine (HL1.out _).mono ?_
  rintro e u3 ⟨rfl, hb3⟩
  have kb3 := below_next hS hb3
  clear hS hb3
  refine hK.out _ _ (by exact kb3) (fun inv hS => ?_)
  clear hK K
  refine call_atT 9 inv rfl (by omega) (by kernel_rfl) (by rfl) (fun K hK => ?_)
  go_simp
  with_reducible refine (HQ0.out _).mono ?_
  rintro e u4 ⟨rfl, hb4⟩
  have kb4 := below_next hS hb4
  clear hS hb4
  refine hK.out _ _ (by exact kb4) (fun inv hS => ?_)
  clear hK K
  refine' take_atT 10 hT inv rfl (by omega) (by kernel_rfl) (by kernel_rfl) (fun _ _ _ h => h) (by rfl) hS ?_ ?_ ?_
  rotate_left 2
  · intro W hSW; go_simp; try with_reducible rfl
  · simp only [List.set_cons_succ, List.set_cons_zero]; rfl
  intro inv
  refine call_atT 12 inv rfl (by omega) (by kernel_rfl) (by rfl) (fun K hK => ?_)
  go_simp
  with_reducible refine (HL2.out _).mono ?_
  rintro e u5 ⟨rfl, hb5⟩
  have kb5 := below_next hS hb5
  clear hS hb5
  refine hK.out _ _ (by exact kb5) (fun inv hS => ?_)
  clear hK K
  refine call_atT 14 inv rfl (by omega) (by kernel_rfl) (by rfl) (fun K hK => ?_)
  go_simp
  with_reducible refine (HQ1.out _).mono ?_
  rintro e u6 ⟨rfl, hb6⟩
  have kb6 := below_next hS hb6
  clear hS hb6
  refine hK.out _ _ (by exact kb6) (fun inv hS => ?_)
  clear hK K
  refine' take_atT 15 hT inv rfl (by omega) (by kernel_rfl) (by kernel_rfl) (fun _ _ _ h => h) (by rfl) hS ?_ ?_ ?_
  rotate_left 2
  · intro W hSW; go_simp; try with_reducible rfl
  · simp only [List.set_cons_succ, List.set_cons_zero]; rfl
  intro inv
  refine call_atT 17 inv rfl (by omega) (by kernel_rfl) (by rfl) (fun K hK => ?_)
  go_simp
  with_reducible refine (HL3.out _).mono ?_
  rintro e u7 ⟨rfl, hb7⟩
  have kb7 := below_next hS hb7
  clear hS hb7
  refine hK.out _ _ (by exact kb7) (fun inv hS => ?_)
  clear hK K
  refine call_atT 19 inv rfl (by omega) (by kernel_rfl) (by rfl) (fun K hK => ?_)
  go_simp
  with_reducible refine (HQ2.out _).mono ?_
  rintro e u8 ⟨rfl, hb8⟩
  have kb8 := below_next hS hb8
  clear hS hb8
  refine hK.out _ _ (by exact kb8) (fun inv hS => ?_)
  clear hK K
  refine' take_atT 20 hT inv rfl (by omega) (by kernel_rfl) (by kernel_rfl) (fun _ _ _ h => h) (by rfl) hS ?_ ?_ ?_
  rotate_left 2
  · intro W hSW; go_simp; try with_reducible rfl
  · simp only [List.set_cons_succ, List.set_cons_zero]; rfl
  intro inv
  refine call_atT 22 inv rfl (by omega) (by kernel_rfl) (by rfl) (fun K hK => ?_)
  go_simp
  with_reducible refine (HL4.out _).mono ?_
  rintro e u9 ⟨rfl, hb9⟩
  have kb9 := below_next hS hb9
  clear hS hb9
  refine hK.out _ _ (by exact kb9) (fun inv hS => ?_)
  clear hK K
  refine call_atT 24 inv rfl (by omega) (by kernel_rfl) (by rfl) (fun K hK => ?_)
  go_simp
  with_reducible refine (HQ3.out _).mono ?_
  rintro e u10 ⟨rfl, hb10⟩
  have kb10 := below_next hS hb10
  clear hS hb10
  refine hK.out _ _ (by exact kb10) (fun inv hS => ?_)
  clear hK K
  refine' take_atT 25 hT inv rfl (by omega) (by kernel_rfl) (by kernel_rfl) (fun _ _ _ h => h) (by rfl) hS ?_ ?_ ?_
  rotate_left 2
  · intro W hSW; go_simp; try with_reducible rfl
  · simp only [List.set_cons_succ, List.set_cons_zero]; rfl
  intro inv
  refine done_atT (by kernel_rfl) ?_
  simp only [List.drop_succ_cons, List.drop_zero]
  clear hS
  (try simp only [Act.put])
  have HR2 := Lib.hid (HR.out.below kb10)
  have HB2 := Lib.hid (below_next HB1.out kb10)
  clear kb1 kb2 kb3 kb4 kb5 kb6 kb7 kb8 kb9 kb10
  go_wp2_with fail
  with_reducible refine (HC.out _).mono ?_
  rintro e w2 ⟨rfl, hb2⟩
  have hr2 := (HR2.out.below hb2).head
  have HE : Hid (Below W.heap.size W (w2.setRow (W.heap.size + 1 + 1 + 1 + 1 + 1) S)) := Lib.hid (below_row (below_next HB2.out hb2) (by omega))
  clear hb2
  go_wp2_with (refine wpList_store_row rfl 26 (.tmp 10) (.tmp 37) rfl (W.heap.size + 1 + 1 + 1 + 1 + 1) S rfl rfl 26 #[.int .u64 0, .int .u64 0, .int .u64 0, .int .u64 0, .int .u64 0] hr2 iS sS oS ?_)
  refine NoPanic.normal ?_
  go_wp2_with fail
  (try simp only [Exit.inBlock, Exit.then])
  refine bodyPost_ret (results_cell_row rfl _ _ (W.heap.size + 1 + 1 + 1 + 1 + 1) _ S _ _ rfl (setRow_heap w2 _ _ _ _ _ hr2) Try.underlying26 rfl iS) rfl ?_
  exact HP.out _ HE.out
end Go.Proofs.Ytfejabfmhddepaa

