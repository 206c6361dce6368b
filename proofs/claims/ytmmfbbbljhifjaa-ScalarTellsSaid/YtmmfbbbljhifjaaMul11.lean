/- The product of two numbers and a third one by their digits, plainly. -/
import Derived.Test.YtmmfbbbljhifjaaGff2
import Derived.Test.YtmmfbbbljhifjaaMod11
namespace Go.Proofs.Ytmmfbbbljhifjaa
set_option linter.unusedVariables false
set_option maxRecDepth 100000

def mulZ (x y z : List Int) : Nat → List Int
  | 0 => z
  | i + 1 => mulRow x y (mulZ x y z i) i 16
theorem mulZ_len (x y z : List Int) : ∀ i, (mulZ x y z i).length = z.length
  | 0 => rfl
  | i + 1 => by rw [mulZ, mulRow_len, mulZ_len x y z i]
theorem mulRow34_val (x y t : List Int) (i : Nat) (hy : y.length = 34) (ht : t.length = 34) (hi : i < 16) : ∀ k, k ≤ 16 → vL (mulRow x y t i k) = vL t + gI x i * 65536 ^ i * vL (y.take k)
  | 0, _ => by simp [mulRow, vL]
  | k + 1, hk => by
    have ih := mulRow34_val x y t i hy ht hi k (by omega)
    rw [mulRow, mulAt, vL_set _ _ _ (by rw [mulRow_len]; omega), ih, take_val y k (by omega), Int.pow_add]
    generalize gI (mulRow x y t i k) (i + k) = a
    generalize vL (y.take k) = b
    generalize (65536 : Int) ^ i = p
    generalize (65536 : Int) ^ k = q
    grind
theorem mulZ_val (x y z : List Int) (hx : x.length = 34) (hy : y.length = 34) (hz : z.length = 34) : ∀ i, i ≤ 16 → vL (mulZ x y z i) = vL z + vL (x.take i) * vL (y.take 16)
  | 0, _ => by rw [List.take_zero, mulZ]; simp [vL]
  | i + 1, h => by
    have ih := mulZ_val x y z hx hy hz i (by omega)
    rw [mulZ, mulRow34_val x y _ i hy (by rw [mulZ_len, hz]) (by omega) 16 (by omega), ih, take_val x i (by omega), Int.add_mul, Int.add_assoc]
theorem mulRow34_bd (x y t : List Int) (i : Nat) (M : Int) (hx : ∀ j, 0 ≤ gI x j ∧ gI x j < 65536) (hy : ∀ j, 0 ≤ gI y j ∧ gI y j < 65536) (ht : t.length = 34) (hi : i < 16) (hM : ∀ j, 0 ≤ gI t j ∧ gI t j ≤ M) : ∀ k, k ≤ 16 → ∀ j, 0 ≤ gI (mulRow x y t i k) j ∧ gI (mulRow x y t i k) j ≤ M + k * 4294967296
  | 0, _, j => by have := hM j; rw [mulRow]; omega
  | k + 1, hk, j => by
    have ih := mulRow34_bd x y t i M hx hy ht hi hM k (by omega)
    have hp := mul_small (hx i) (hy k)
    rw [mulRow, mulAt, gI_set _ _ _ _ (by rw [mulRow_len]; omega)]
    have h1 := ih j
    have h2 := ih (i + k)
    generalize gI x i * gI y k = p at *
    split <;> omega
theorem mulZ_bd (x y z : List Int) (hx : ∀ j, 0 ≤ gI x j ∧ gI x j < 65536) (hy : ∀ j, 0 ≤ gI y j ∧ gI y j < 65536) (hzl : z.length = 34) (hz : ∀ j, 0 ≤ gI z j ∧ gI z j < 65536) : ∀ i, i ≤ 16 → ∀ j, 0 ≤ gI (mulZ x y z i) j ∧ gI (mulZ x y z i) j ≤ 65536 + i * 68719476736
  | 0, _, j => by rw [mulZ]; have := hz j; omega
  | i + 1, h, j => by
    have ih := mulZ_bd x y z hx hy hzl hz i (by omega)
    have h1 := mulRow34_bd x y (mulZ x y z i) i _ hx hy (by rw [mulZ_len, hzl]) (by omega) ih 16 (by omega) j
    rw [mulZ]
    omega
theorem dg_pr (n : Nat) (v : Int) : ∀ j, 0 ≤ gI (dgN n v) j ∧ gI (dgN n v) j < 65536 := fun j => by
  by_cases h : j < n
  · exact dgN_get n v j h
  · rw [gI_out (by rw [dgN_len]; omega)]; omega
theorem take_dgN : ∀ (m n : Nat) (v : Int), m ≤ n → (dgN n v).take m = dgN m v
  | 0, _, _, _ => by simp [dgN]
  | m + 1, 0, _, h => by omega
  | m + 1, n + 1, v, h => by rw [dgN, dgN, List.take_succ_cons, take_dgN m n _ (by omega)]
theorem pow16 : (65536 : Int) ^ 16 = ((65536 ^ 16 : Nat) : Int) := by decide
theorem muladd_val (a b c : Nat) (ha : a < 65536 ^ 16) (hb : b < 65536 ^ 16) (hc : c < 65536 ^ 34) : vL (mulZ (dgN 34 (a : Int)) (dgN 34 (b : Int)) (dgN 34 (c : Int)) 16) = ((a * b + c : Nat) : Int) := by
  rw [mulZ_val _ _ _ (dgN_len _ _) (dgN_len _ _) (dgN_len _ _) 16 (by omega), take_dgN 16 34 _ (by omega), take_dgN 16 34 _ (by omega), vL_dgN 16 _ (by omega) (by rw [pow16]; exact Int.ofNat_lt.2 ha), vL_dgN 16 _ (by omega) (by rw [pow16]; exact Int.ofNat_lt.2 hb), vL_dgN 34 _ (by omega) (by rw [pow34]; exact Int.ofNat_lt.2 hc)]
  rw [Int.natCast_add, Int.natCast_mul, Int.add_comm]
end Go.Proofs.Ytmmfbbbljhifjaa

