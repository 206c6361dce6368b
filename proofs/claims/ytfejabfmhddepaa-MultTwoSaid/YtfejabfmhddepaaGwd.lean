/- Numbers modulo 2^255 - 19 by five limbs of 51 bits: carrying, the product, what is left when it is reduced. No program is named here. Four words of 64 bits by bytes; disjoint bits joined. No program is named here. -/
import Derived.Test.YtfejabfmhddepaaGfb
import Derived.Test.YtfejabfmhddepaaGbase
import Derived.Laws.BitsAllLaws
namespace Go.Proofs.Ytfejabfmhddepaa
set_option linter.unusedVariables false
set_option maxRecDepth 100000

abbrev M51 : Nat := 2251799813685248
abbrev M102 : Nat := 5070602400912917605986812821504
abbrev M153 : Nat := 11417981541647679048466287755595961091061972992
abbrev M204 : Nat := 25711008708143844408671393477458601640355247900524685364822016
/-- five limbs, the lowest first -/
def val5 (a b c d e : Nat) : Nat := a + b * M51 + c * M102 + d * M153 + e * M204
theorem val5_carry (a b c d e : Nat) : val5 (a % M51 + 19 * (e / M51)) (b % M51 + a / M51) (c % M51 + b / M51) (d % M51 + c / M51) (e % M51 + d / M51) + (e / M51) * PP = val5 a b c d e := by
  unfold val5
  unfold M51 M102 M153 M204 PP
  omega
theorem val5_mod {a b c d e : Nat} : val5 (a % M51 + 19 * (e / M51)) (b % M51 + a / M51) (c % M51 + b / M51) (d % M51 + c / M51) (e % M51 + d / M51) % PP = val5 a b c d e % PP := by
  rw [← val5_carry a b c d e, Nat.add_mul_mod_self_right]
theorem val5_add (a b c d e a' b' c' d' e' : Nat) : val5 (a + a') (b + b') (c + c') (d + d') (e + e') = val5 a b c d e + val5 a' b' c' d' e' := by
  unfold val5; unfold M51 M102 M153 M204; omega
/-- a number's bound -/
abbrev L51 : Nat := 2251799813947392
theorem val5_lt {a b c d e : Nat} (ha : a < L51) (hb : b < L51) (hc : c < L51) (hd : d < L51) (he : e < L51) : val5 a b c d e + 38 < 2 * TT := by
  unfold val5 M51 M102 M153 M204 TT
  unfold L51 at *
  omega
theorem val5_sub {a b c d e a' b' c' d' e' : Nat} (ha : a' < L51) (hb : b' < L51) (hc : c' < L51) (hd : d' < L51) (he : e' < L51) :
    val5 (a + 4503599627370458 - a') (b + 4503599627370494 - b') (c + 4503599627370494 - c') (d + 4503599627370494 - d') (e + 4503599627370494 - e') + val5 a' b' c' d' e' = val5 a b c d e + 2 * PP := by
  unfold val5 M51 M102 M153 M204 PP
  unfold L51 at *
  omega
theorem sub_mod {x y s : Nat} (h : s + y = x + 2 * PP) : s % PP = (x % PP + (PP - y % PP)) % PP := by
  unfold PP at *; omega
theorem add_mod5 (x y : Nat) : (x + y) % PP = (x % PP + y % PP) % PP := Nat.add_mod x y PP
theorem mul_id (x0 x1 x2 x3 x4 y0 y1 y2 y3 y4 m t : Nat) (h : m * m * m * m * m = t + 19) :
    (x0 + x1 * m + x2 * (m * m) + x3 * (m * m * m) + x4 * (m * m * m * m)) * (y0 + y1 * m + y2 * (m * m) + y3 * (m * m * m) + y4 * (m * m * m * m)) =
    (x0 * y0 + x1 * (19 * y4) + x2 * (19 * y3) + x3 * (19 * y2) + x4 * (19 * y1)) + (x0 * y1 + x1 * y0 + x2 * (19 * y4) + x3 * (19 * y3) + x4 * (19 * y2)) * m +
    (x0 * y2 + x1 * y1 + x2 * y0 + x3 * (19 * y4) + x4 * (19 * y3)) * (m * m) + (x0 * y3 + x1 * y2 + x2 * y1 + x3 * y0 + x4 * (19 * y4)) * (m * m * m) +
    (x0 * y4 + x1 * y3 + x2 * y2 + x3 * y1 + x4 * y0) * (m * m * m * m) +
    (x1 * y4 + x2 * y3 + x3 * y2 + x4 * y1 + (x2 * y4 + x3 * y3 + x4 * y2) * m + (x3 * y4 + x4 * y3) * (m * m) + x4 * y4 * (m * m * m)) * t := by
  have ht : ∀ k : Nat, k * t + k * 19 = k * (m * m * m * m * m) := fun k => by rw [h, Nat.mul_add]
  grind
theorem val5_mul (x0 x1 x2 x3 x4 y0 y1 y2 y3 y4 : Nat) :
    val5 (x0 * y0 + x1 * (19 * y4) + x2 * (19 * y3) + x3 * (19 * y2) + x4 * (19 * y1)) (x0 * y1 + x1 * y0 + x2 * (19 * y4) + x3 * (19 * y3) + x4 * (19 * y2))
      (x0 * y2 + x1 * y1 + x2 * y0 + x3 * (19 * y4) + x4 * (19 * y3)) (x0 * y3 + x1 * y2 + x2 * y1 + x3 * y0 + x4 * (19 * y4)) (x0 * y4 + x1 * y3 + x2 * y2 + x3 * y1 + x4 * y0) % PP =
    (val5 x0 x1 x2 x3 x4 % PP * (val5 y0 y1 y2 y3 y4 % PP)) % PP := by
  have h := mul_id x0 x1 x2 x3 x4 y0 y1 y2 y3 y4 M51 PP (by decide)
  have e2 : M51 * M51 = M102 := by decide
  have e3 : M51 * M51 * M51 = M153 := by decide
  have e4 : M51 * M51 * M51 * M51 = M204 := by decide
  rw [e4, e3, e2] at h
  rw [← Nat.mul_mod]
  unfold val5
  rw [h, Nat.add_mul_mod_self_right]
/-- what is reduced: over is 1 exactly from the prime on -/
theorem reduced_val {a b c d e : Nat} (ha : a < L51) (hb : b < L51) (hc : c < L51) (hd : d < L51) (he : e < L51) {o1 o2 o3 o4 o5 l0 l1 l2 l3 l4 : Nat}
    (h1 : o1 = (a + 19) / M51) (h2 : o2 = (b + o1) / M51) (h3 : o3 = (c + o2) / M51) (h4 : o4 = (d + o3) / M51) (h5 : o5 = (e + o4) / M51)
    (k0 : l0 = a + 19 * o5) (k1 : l1 = b + l0 / M51) (k2 : l2 = c + l1 / M51) (k3 : l3 = d + l2 / M51) (k4 : l4 = e + l3 / M51) :
    val5 (l0 % M51) (l1 % M51) (l2 % M51) (l3 % M51) (l4 % M51) = val5 a b c d e % PP := by
  have hv := val5_lt ha hb hc hd he
  have e1 : val5 a b c d e + 19 = (val5 ((a + 19) % M51) ((b + o1) % M51) ((c + o2) % M51) ((d + o3) % M51) ((e + o4) % M51)) + o5 * TT := by
    unfold val5 M102 M153 M204 TT
    unfold M51 at *
    omega
  have b1 : val5 ((a + 19) % M51) ((b + o1) % M51) ((c + o2) % M51) ((d + o3) % M51) ((e + o4) % M51) < TT := by
    have := Nat.mod_lt (a + 19) (show M51 > 0 by decide)
    have := Nat.mod_lt (b + o1) (show M51 > 0 by decide)
    have := Nat.mod_lt (c + o2) (show M51 > 0 by decide)
    have := Nat.mod_lt (d + o3) (show M51 > 0 by decide)
    have := Nat.mod_lt (e + o4) (show M51 > 0 by decide)
    generalize (a + 19) % M51 = r0 at *
    generalize (b + o1) % M51 = r1 at *
    generalize (c + o2) % M51 = r2 at *
    generalize (d + o3) % M51 = r3 at *
    generalize (e + o4) % M51 = r4 at *
    clear h1 h2 h3 h4 h5 k0 k1 k2 k3 k4 e1
    unfold val5 M102 M153 M204 TT
    unfold M51 at *
    omega
  have e2 : val5 (l0 % M51) (l1 % M51) (l2 % M51) (l3 % M51) (l4 % M51) + (l4 / M51) * TT = val5 a b c d e + 19 * o5 := by
    clear h1 h2 h3 h4 h5 e1 b1 hv
    unfold val5 M102 M153 M204 TT
    unfold M51 at *
    omega
  have b2 : val5 (l0 % M51) (l1 % M51) (l2 % M51) (l3 % M51) (l4 % M51) < TT := by
    have := Nat.mod_lt l0 (show M51 > 0 by decide)
    have := Nat.mod_lt l1 (show M51 > 0 by decide)
    have := Nat.mod_lt l2 (show M51 > 0 by decide)
    have := Nat.mod_lt l3 (show M51 > 0 by decide)
    have := Nat.mod_lt l4 (show M51 > 0 by decide)
    generalize l0 % M51 = r0 at *
    generalize l1 % M51 = r1 at *
    generalize l2 % M51 = r2 at *
    generalize l3 % M51 = r3 at *
    generalize l4 % M51 = r4 at *
    clear h1 h2 h3 h4 h5 k0 k1 k2 k3 k4 e1 e2 b1
    unfold val5 M102 M153 M204 TT
    unfold M51 at *
    omega
  generalize val5 (l0 % M51) (l1 % M51) (l2 % M51) (l3 % M51) (l4 % M51) = R at *
  generalize val5 ((a + 19) % M51) ((b + o1) % M51) ((c + o2) % M51) ((d + o3) % M51) ((e + o4) % M51) = S at *
  generalize val5 a b c d e = V at *
  generalize l4 / M51 = q at *
  clear h1 h2 h3 h4 h5 k0 k1 k2 k3 k4 ha hb hc hd he
  unfold TT at *
  unfold PP
  have : o5 = 0 ∨ o5 = 1 := by omega
  rcases this with rfl | rfl
  · have : q = 0 := by omega
    subst this
    omega
  · have : q = 1 := by omega
    subst this
    omega
theorem val5_lim {a b c d e : Nat} (ha : a < M51) (hb : b < M51) (hc : c < M51) (hd : d < M51) (he : e < M51) : val5 a b c d e < TT := by
  unfold val5 M102 M153 M204 TT; unfold M51 at *; omega
/-- five limbs of a number below 2^255 are told by it -/
theorem val5_inj {a b c d e a' b' c' d' e' : Nat} (ha : a < M51) (hb : b < M51) (hc : c < M51) (hd : d < M51) (ha' : a' < M51) (hb' : b' < M51) (hc' : c' < M51) (hd' : d' < M51)
    (h : val5 a b c d e = val5 a' b' c' d' e') : a = a' ∧ b = b' ∧ c = c' ∧ d = d' ∧ e = e' := by
  unfold val5 M102 M153 M204 at h; unfold M51 at *; omega
theorem val5_odd (a b c d e : Nat) : val5 a b c d e % 2 = a % 2 := by
  unfold val5 M51 M102 M153 M204; omega
/-- the limbs of 255 bits -/
theorem val5_bits (v : Nat) : val5 (v % M51) (v / M51 % M51) (v / M102 % M51) (v / M153 % M51) (v / M204 % M51) = v % TT := by
  unfold val5 M51 M102 M153 M204 TT; omega
end Go.Proofs.Ytfejabfmhddepaa

namespace Go.Proofs.Ytfejabfmhddepaa
set_option linter.unusedVariables false
set_option maxRecDepth 100000

abbrev Q64 : Nat := 18446744073709551616
/-- word d of a number -/
def wq (n d : Nat) : Nat := n / Q64 ^ d % Q64
theorem wq_lt (n d : Nat) : wq n d < Q64 := Nat.mod_lt _ (by decide)
theorem byte_of (V i : Nat) (hi : i < 32) : wq V (i / 8) / 2 ^ (i % 8 * 8) % 256 = V / 256 ^ i % 256 := by
  unfold wq Q64
  have h : i = 0 ∨ i = 1 ∨ i = 2 ∨ i = 3 ∨ i = 4 ∨ i = 5 ∨ i = 6 ∨ i = 7 ∨ i = 8 ∨ i = 9 ∨ i = 10 ∨ i = 11 ∨ i = 12 ∨ i = 13 ∨ i = 14 ∨ i = 15 ∨ i = 16 ∨ i = 17 ∨ i = 18 ∨ i = 19 ∨ i = 20 ∨ i = 21 ∨ i = 22 ∨ i = 23 ∨ i = 24 ∨ i = 25 ∨ i = 26 ∨ i = 27 ∨ i = 28 ∨ i = 29 ∨ i = 30 ∨ i = 31 := by omega
  rcases h with rfl | rfl | rfl | rfl | rfl | rfl | rfl | rfl | rfl | rfl | rfl | rfl | rfl | rfl | rfl | rfl | rfl | rfl | rfl | rfl | rfl | rfl | rfl | rfl | rfl | rfl | rfl | rfl | rfl | rfl | rfl | rfl <;>
    (simp only [Nat.reduceDiv, Nat.reduceMod, Nat.reduceMul, Nat.reducePow]; omega)
theorem word_step (n b k : Nat) (hk : k < 32) (hn : n < 256 ^ k) (hb : b < 256) : wq n (k / 8) < 2 ^ (k % 8 * 8) ∧ 2 ^ (k % 8 * 8) * b < Q64 ∧ wq (n + b * 256 ^ k) (k / 8) = wq n (k / 8) + 2 ^ (k % 8 * 8) * b ∧
    ∀ j, j < 4 → j ≠ k / 8 → wq (n + b * 256 ^ k) j = wq n j := by
  unfold wq Q64
  have h : k = 0 ∨ k = 1 ∨ k = 2 ∨ k = 3 ∨ k = 4 ∨ k = 5 ∨ k = 6 ∨ k = 7 ∨ k = 8 ∨ k = 9 ∨ k = 10 ∨ k = 11 ∨ k = 12 ∨ k = 13 ∨ k = 14 ∨ k = 15 ∨ k = 16 ∨ k = 17 ∨ k = 18 ∨ k = 19 ∨ k = 20 ∨ k = 21 ∨ k = 22 ∨ k = 23 ∨ k = 24 ∨ k = 25 ∨ k = 26 ∨ k = 27 ∨ k = 28 ∨ k = 29 ∨ k = 30 ∨ k = 31 := by omega
  rcases h with rfl | rfl | rfl | rfl | rfl | rfl | rfl | rfl | rfl | rfl | rfl | rfl | rfl | rfl | rfl | rfl | rfl | rfl | rfl | rfl | rfl | rfl | rfl | rfl | rfl | rfl | rfl | rfl | rfl | rfl | rfl | rfl <;>
    (simp only [Nat.reduceDiv, Nat.reduceMod, Nat.reduceMul, Nat.reducePow] at hn ⊢
     refine ⟨by omega, by omega, by omega, fun j hj hne => ?_⟩
     have hj' : j = 0 ∨ j = 1 ∨ j = 2 ∨ j = 3 := by omega
     rcases hj' with rfl | rfl | rfl | rfl <;> first | exact absurd rfl hne | (simp only [Nat.reducePow]; omega))
theorem or_low (p z k : Nat) (hp : p < 2 ^ k) (hp2 : p < 18446744073709551616) (hm : 2 ^ k * z < 18446744073709551616) : bits .or .u64 (p : Int) ((2 ^ k * z : Nat) : Int) = ((p + 2 ^ k * z : Nat) : Int) := by
  rw [u64_or_nat p (2 ^ k * z) hp2 hm, Nat.or_comm, ← Nat.two_pow_add_eq_or_of_lt hp, Nat.add_comm]
/-- four words in a row -/
def wdA (n : Nat) : Array Value := ((List.range 4).map fun d => Value.int .u64 (wq n d : Int)).toArray
theorem wdA_size (n : Nat) : (wdA n).size = 4 := rfl
theorem wdA_get (n d : Nat) (h : d < 4) : (wdA n)[d]? = some (.int .u64 (wq n d : Int)) := by
  have : d = 0 ∨ d = 1 ∨ d = 2 ∨ d = 3 := by omega
  rcases this with rfl | rfl | rfl | rfl <;> rfl
theorem wdA_set (n m d : Nat) (hd : d < 4) (h : ∀ j, j < 4 → j ≠ d → wq m j = wq n j) : (wdA n).setIfInBounds d (.int .u64 (wq m d : Int)) = wdA m := by
  have h0 := h 0; have h1 := h 1; have h2 := h 2; have h3 := h 3
  have e : ∀ k, wdA k = #[.int .u64 (wq k 0 : Int), .int .u64 (wq k 1 : Int), .int .u64 (wq k 2 : Int), .int .u64 (wq k 3 : Int)] := fun _ => rfl
  rw [e n, e m]
  have : d = 0 ∨ d = 1 ∨ d = 2 ∨ d = 3 := by omega
  rcases this with rfl | rfl | rfl | rfl
  · rw [h1 (by omega) (by omega), h2 (by omega) (by omega), h3 (by omega) (by omega)]; rfl
  · rw [h0 (by omega) (by omega), h2 (by omega) (by omega), h3 (by omega) (by omega)]; rfl
  · rw [h0 (by omega) (by omega), h1 (by omega) (by omega), h3 (by omega) (by omega)]; rfl
  · rw [h0 (by omega) (by omega), h1 (by omega) (by omega), h2 (by omega) (by omega)]; rfl
theorem wdA_zero : wdA 0 = #[.int .u64 0, .int .u64 0, .int .u64 0, .int .u64 0] := rfl
theorem leN_take (l : List UInt8) (k : Nat) (h : k < l.length) : leN (l.take (k + 1)) = leN (l.take k) + (l.getD k 0).toNat * 256 ^ k := by
  have e : l.take (k + 1) = l.take k ++ [l.getD k 0] := by
    rw [List.take_succ_eq_append_getElem h]
    simp [List.getD, List.getElem?_eq_getElem h]
  rw [e, leN_snoc, List.length_take, Nat.min_eq_left (by omega)]
theorem leN_take_lt (l : List UInt8) (k : Nat) (h : k ≤ l.length) : leN (l.take k) < 256 ^ k := by
  have := leN_lt (l.take k)
  rwa [List.length_take, Nat.min_eq_left h] at this
/-- the five limbs of four words -/
theorem from_limbs (V : Nat) (hV : V < 256 ^ 32) : (wq V 0 % M51 = V % M51) ∧ ((wq V 0 / M51 + 2 ^ 13 * (wq V 1 % 2251799813685248)) % M51 = V / M51 % M51) ∧
    ((wq V 1 / 274877906944 + 2 ^ 26 * (wq V 2 % 274877906944)) % M51 = V / M102 % M51) ∧ ((wq V 2 / 33554432 + 2 ^ 39 * (wq V 3 % 33554432)) % M51 = V / M153 % M51) ∧ (wq V 3 / 4096 % M51 = V / M204 % M51) := by
  unfold wq Q64 M51 M102 M153 M204
  simp only [Nat.reducePow] at hV ⊢
  refine ⟨by omega, by omega, by omega, by omega, by omega⟩
/-- the words of five limbs -/
theorem bytes_words (r0 r1 r2 r3 r4 V : Nat) (h0 : r0 < M51) (h1 : r1 < M51) (h2 : r2 < M51) (h3 : r3 < M51) (h4 : r4 < M51) (h : val5 r0 r1 r2 r3 r4 = V) :
    r0 + 2 ^ 51 * (r1 % 8192) = wq V 0 ∧ r1 / 8192 + 2 ^ 38 * (r2 % 67108864) = wq V 1 ∧ r2 / 67108864 + 2 ^ 25 * (r3 % 549755813888) = wq V 2 ∧ r3 / 549755813888 + 2 ^ 12 * r4 = wq V 3 := by
  subst h
  unfold wq Q64 val5 M102 M153 M204
  unfold M51 at *
  simp only [Nat.reducePow]
  refine ⟨by omega, by omega, by omega, by omega⟩
end Go.Proofs.Ytfejabfmhddepaa

