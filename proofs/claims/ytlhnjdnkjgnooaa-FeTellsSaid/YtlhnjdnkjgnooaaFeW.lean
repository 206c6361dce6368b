/- Four words of 64 bits by bytes; disjoint bits joined. No program is named here. -/
import Derived.Test.YtlhnjdnkjgnooaaFe51
import Derived.Test.YtlhnjdnkjgnooaaGbase
import Derived.Laws.BitsAllLaws
import Derived.Test.YtlhnjdnkjgnooaaArrB
namespace Go.Proofs.Ytlhnjdnkjgnooaa
set_option linter.unusedVariables false
set_option maxRecDepth 100000

abbrev Q64 : Nat := 18446744073709551616
/-- word d of a number -/
def wq (n d : Nat) : Nat := n / Q64 ^ d % Q64
theorem wq_lt (n d : Nat) : wq n d < Q64 := Nat.mod_lt _ (by decide)
theorem byte_of (V i : Nat) (hi : i < 32) : wq V (i / 8) / 2 ^ (i % 8 * 8) % 256 = V / 256 ^ i % 256 := by
  unfold wq Q64
  have h : i = 0 ∨ i = 1 ∨ i = 2 ∨ i = 3 ∨ i = 4 ∨ i = 5 ∨ i = 6 ∨ i = 7 ∨ i = 8 ∨ i = 9 ∨ i = 10 ∨ i = 11 ∨ i = 12 ∨ i = 13 ∨ i = 14 ∨ i = 15 ∨ i = 16 ∨ i = 17 ∨ i = 18 ∨ i = 19 ∨ i = 20 ∨ i = 21 ∨ i = 22 ∨ i = 23 ∨ i = 24 ∨ i = 25 ∨ i = 26 ∨ i = 27 ∨ i = 28 ∨ i = 29 ∨ i = 30 ∨ i = 31 := by omega
  rcases h with rfl | rfl | rfl | rfl | rfl | rfl | rfl | rfl | rfl | rfl | rfl | rfl | rfl | rfl | rfl | rfl | rfl | rfl | rfl | rfl | rfl | rfl | rfl | rfl | rfl | rfl | rfl | rfl | rfl | rfl | rfl | rfl <;>
    (simp only [Nat.reduceDiv, Nat.reduceMod, Nat.reduceMul, Nat.reducePow]; omega)
theorem word_step (n b k : Nat) (hk : k < 32) (hn : n < 256 ^ k) (hb : b < 256) : wq n (k / 8) < 2 ^ (k % 8 * 8) ∧ 2 ^ (k % 8 * 8) * b < Q64 ∧ wq (n + b * 256 ^ k) (k / 8) = wq n (k / 8) + 2 ^ (k % 8 * 8) * b ∧
    ∀ j, j < 4 → j ≠ k / 8 → wq (n + b * 256 ^ k) j = wq n j := by
  unfold wq Q64
  have h : k = 0 ∨ k = 1 ∨ k = 2 ∨ k = 3 ∨ k = 4 ∨ k = 5 ∨ k = 6 ∨ k = 7 ∨ k = 8 ∨ k = 9 ∨ k = 10 ∨ k = 11 ∨ k = 12 ∨ k = 13 ∨ k = 14 ∨ k = 15 ∨ k = 16 ∨ k = 17 ∨ k = 18 ∨ k = 19 ∨ k = 20 ∨ k = 21 ∨ k = 22 ∨ k = 23 ∨ k = 24 ∨ k = 25 ∨ k = 26 ∨ k = 27 ∨ k = 28 ∨ k = 29 ∨ k = 30 ∨ k = 31 := by omega
  rcases h with rfl | rfl | rfl | rfl | rfl | rfl | rfl | rfl | rfl | rfl | rfl | rfl | rfl | rfl | rfl | rfl | rfl | rfl | rfl | rfl | rfl | rfl | rfl | rfl | rfl | rfl | rfl | rfl | rfl | rfl | rfl | rfl <;>
    (simp only [Nat.reduceDiv, Nat.reduceMod, Nat.reduceMul, Nat.reducePow] at hn ⊢
     refine ⟨by omega, by omega, by omega, fun j hj hne => ?_⟩
     have hj' : j = 0 ∨ j = 1 ∨ j = 2 ∨ j = 3 := by omega
     rcases hj' with rfl | rfl | rfl | rfl <;> first | exact absurd rfl hne | (simp only [Nat.reducePow]; omega))
theorem or_low (p z k : Nat) (hp : p < 2 ^ k) (hp2 : p < 18446744073709551616) (hm : 2 ^ k * z < 18446744073709551616) : bits .or .u64 (p : Int) ((2 ^ k * z : Nat) : Int) = ((p + 2 ^ k * z : Nat) : Int) := by
  rw [u64_or_nat p (2 ^ k * z) hp2 hm, Nat.or_comm, ← Nat.two_pow_add_eq_or_of_lt hp, Nat.add_comm]
/-- four words in a row -/
def wdA (n : Nat) : Array Value := ((List.range 4).map fun d => Value.int .u64 (wq n d : Int)).toArray
theorem wdA_size (n : Nat) : (wdA n).size = 4 := rfl
theorem wdA_get (n d : Nat) (h : d < 4) : (wdA n)[d]? = some (.int .u64 (wq n d : Int)) := by
  have : d = 0 ∨ d = 1 ∨ d = 2 ∨ d = 3 := by omega
  rcases this with rfl | rfl | rfl | rfl <;> rfl
theorem wdA_set (n m d : Nat) (hd : d < 4) (h : ∀ j, j < 4 → j ≠ d → wq m j = wq n j) : (wdA n).setIfInBounds d (.int .u64 (wq m d : Int)) = wdA m := by
  have h0 := h 0; have h1 := h 1; have h2 := h 2; have h3 := h 3
  have e : ∀ k, wdA k = #[.int .u64 (wq k 0 : Int), .int .u64 (wq k 1 : Int), .int .u64 (wq k 2 : Int), .int .u64 (wq k 3 : Int)] := fun _ => rfl
  rw [e n, e m]
  have : d = 0 ∨ d = 1 ∨ d = 2 ∨ d = 3 := by omega
  rcases this with rfl | rfl | rfl | rfl
  · rw [h1 (by omega) (by omega), h2 (by omega) (by omega), h3 (by omega) (by omega)]; rfl
  · rw [h0 (by omega) (by omega), h2 (by omega) (by omega), h3 (by omega) (by omega)]; rfl
  · rw [h0 (by omega) (by omega), h1 (by omega) (by omega), h3 (by omega) (by omega)]; rfl
  · rw [h0 (by omega) (by omega), h1 (by omega) (by omega), h2 (by omega) (by omega)]; rfl
theorem wdA_zero : wdA 0 = #[.int .u64 0, .int .u64 0, .int .u64 0, .int .u64 0] := rfl
theorem leN_take (l : List UInt8) (k : Nat) (h : k < l.length) : leN (l.take (k + 1)) = leN (l.take k) + (l.getD k 0).toNat * 256 ^ k := by
  have e : l.take (k + 1) = l.take k ++ [l.getD k 0] := by
    rw [List.take_succ_eq_append_getElem h]
    simp [List.getD, List.getElem?_eq_getElem h]
  rw [e, leN_snoc, List.length_take, Nat.min_eq_left (by omega)]
theorem leN_take_lt (l : List UInt8) (k : Nat) (h : k ≤ l.length) : leN (l.take k) < 256 ^ k := by
  have := leN_lt (l.take k)
  rwa [List.length_take, Nat.min_eq_left h] at this
/-- the five limbs of four words -/
theorem from_limbs (V : Nat) (hV : V < 256 ^ 32) : (wq V 0 % M51 = V % M51) ∧ ((wq V 0 / M51 + 2 ^ 13 * (wq V 1 % 2251799813685248)) % M51 = V / M51 % M51) ∧
    ((wq V 1 / 274877906944 + 2 ^ 26 * (wq V 2 % 274877906944)) % M51 = V / M102 % M51) ∧ ((wq V 2 / 33554432 + 2 ^ 39 * (wq V 3 % 33554432)) % M51 = V / M153 % M51) ∧ (wq V 3 / 4096 % M51 = V / M204 % M51) := by
  unfold wq Q64 M51 M102 M153 M204
  simp only [Nat.reducePow] at hV ⊢
  refine ⟨by omega, by omega, by omega, by omega, by omega⟩
/-- the words of five limbs -/
theorem bytes_words (r0 r1 r2 r3 r4 V : Nat) (h0 : r0 < M51) (h1 : r1 < M51) (h2 : r2 < M51) (h3 : r3 < M51) (h4 : r4 < M51) (h : val5 r0 r1 r2 r3 r4 = V) :
    r0 + 2 ^ 51 * (r1 % 8192) = wq V 0 ∧ r1 / 8192 + 2 ^ 38 * (r2 % 67108864) = wq V 1 ∧ r2 / 67108864 + 2 ^ 25 * (r3 % 549755813888) = wq V 2 ∧ r3 / 549755813888 + 2 ^ 12 * r4 = wq V 3 := by
  subst h
  unfold wq Q64 val5 M102 M153 M204
  unfold M51 at *
  simp only [Nat.reducePow]
  refine ⟨by omega, by omega, by omega, by omega⟩
end Go.Proofs.Ytlhnjdnkjgnooaa

