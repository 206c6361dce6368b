/- The product of two numbers by their digits, plainly. -/
import Derived.Test.YtlhnjdnkjgnooaaFe9
namespace Go.Proofs.Ytlhnjdnkjgnooaa
set_option linter.unusedVariables false
set_option maxRecDepth 100000

def mulAt (x y t : List Int) (i k : Nat) : List Int := t.set (i + k) (gI t (i + k) + gI x i * gI y k)
def mulRow (x y t : List Int) (i : Nat) : Nat → List Int
  | 0 => t
  | k + 1 => mulAt x y (mulRow x y t i k) i k
def mulAll (x y : List Int) : Nat → List Int
  | 0 => List.replicate 32 0
  | i + 1 => mulRow x y (mulAll x y i) i 16
theorem mulRow_len (x y t : List Int) (i : Nat) : ∀ k, (mulRow x y t i k).length = t.length
  | 0 => rfl
  | k + 1 => by rw [mulRow, mulAt, List.length_set, mulRow_len x y t i k]
theorem mulAll_len (x y : List Int) : ∀ i, (mulAll x y i).length = 32
  | 0 => by simp [mulAll]
  | i + 1 => by rw [mulAll, mulRow_len, mulAll_len x y i]
theorem take_val (y : List Int) (k : Nat) (hk : k < y.length) : vL (y.take (k + 1)) = vL (y.take k) + gI y k * 65536 ^ k := by
  rw [List.take_add_one, List.getElem?_eq_getElem hk]
  have h := vL_split (y.take k) y[k]
  rw [show (y.take k).length = k by rw [List.length_take]; omega] at h
  have e : gI y k = y[k] := by simp [gI, List.getD, List.getElem?_eq_getElem hk]
  rw [e]
  exact h
theorem mulRow_val (x y t : List Int) (i : Nat) (hy : y.length = 16) (ht : t.length = 32) (hi : i < 16) : ∀ k, k ≤ 16 → vL (mulRow x y t i k) = vL t + gI x i * 65536 ^ i * vL (y.take k)
  | 0, _ => by simp [mulRow, vL]
  | k + 1, hk => by
    have ih := mulRow_val x y t i hy ht hi k (by omega)
    rw [mulRow, mulAt, vL_set _ _ _ (by rw [mulRow_len]; omega), ih, take_val y k (by omega), Int.pow_add]
    generalize gI (mulRow x y t i k) (i + k) = a
    generalize vL (y.take k) = b
    generalize (65536 : Int) ^ i = p
    generalize (65536 : Int) ^ k = q
    grind
theorem mulAll_val (x y : List Int) (hx : x.length = 16) (hy : y.length = 16) : ∀ i, i ≤ 16 → vL (mulAll x y i) = vL (x.take i) * vL y
  | 0, _ => by rw [List.take_zero]; show vL (List.replicate 32 0) = vL [] * vL y; rw [show vL (List.replicate 32 0) = 0 by decide]; simp [vL]
  | i + 1, h => by
    have ih := mulAll_val x y hx hy i (by omega)
    rw [mulAll, mulRow_val x y _ i hy (mulAll_len _ _ _) (by omega) 16 (by omega), ih, take_val x i (by omega), show y.take 16 = y from List.take_of_length_le (by omega)]
    rw [Int.add_mul]
theorem mul_small {a b : Int} (ha : 0 ≤ a ∧ a < 65536) (hb : 0 ≤ b ∧ b < 65536) : 0 ≤ a * b ∧ a * b ≤ 4294967296 := by
  refine ⟨Int.mul_nonneg ha.1 hb.1, ?_⟩
  have : a * b ≤ 65536 * 65536 := Int.mul_le_mul (by omega) (by omega) hb.1 (by omega)
  omega
theorem mulRow_bd (x y t : List Int) (i : Nat) (M : Int) (hx : ∀ j, 0 ≤ gI x j ∧ gI x j < 65536) (hy : ∀ j, 0 ≤ gI y j ∧ gI y j < 65536) (ht : t.length = 32) (hi : i < 16) (hM : ∀ j, 0 ≤ gI t j ∧ gI t j ≤ M) : ∀ k, k ≤ 16 → ∀ j, 0 ≤ gI (mulRow x y t i k) j ∧ gI (mulRow x y t i k) j ≤ M + k * 4294967296
  | 0, _, j => by have := hM j; rw [mulRow]; omega
  | k + 1, hk, j => by
    have ih := mulRow_bd x y t i M hx hy ht hi hM k (by omega)
    have hp := mul_small (hx i) (hy k)
    rw [mulRow, mulAt, gI_set _ _ _ _ (by rw [mulRow_len]; omega)]
    have h1 := ih j
    have h2 := ih (i + k)
    generalize gI x i * gI y k = p at *
    split <;> omega
theorem mulAll_bd (x y : List Int) (hx : ∀ j, 0 ≤ gI x j ∧ gI x j < 65536) (hy : ∀ j, 0 ≤ gI y j ∧ gI y j < 65536) : ∀ i, i ≤ 16 → ∀ j, 0 ≤ gI (mulAll x y i) j ∧ gI (mulAll x y i) j ≤ i * 68719476736
  | 0, _, j => by
    rw [mulAll]
    have e : gI (List.replicate 32 0) j = 0 := by
      simp only [gI, List.getD, List.getElem?_replicate]
      split <;> rfl
    rw [e]; omega
  | i + 1, h, j => by
    have ih := mulAll_bd x y hx hy i (by omega)
    have h1 := mulRow_bd x y (mulAll x y i) i _ hx hy (mulAll_len _ _ _) (by omega) ih 16 (by omega) j
    rw [mulAll]
    omega
theorem vL_app : ∀ (a b : List Int), vL (a ++ b) = vL a + 65536 ^ a.length * vL b
  | [], b => by simp [vL]
  | x :: a, b => by
    have ih := vL_app a b
    rw [List.cons_append, vL, vL, ih, List.length_cons, Int.pow_succ, Int.mul_comm ((65536 : Int) ^ a.length) 65536, Int.mul_assoc]
    generalize (65536 : Int) ^ a.length * vL b = q
    omega
def foldM (t : List Int) : List Int := (List.range 16).map fun i => gI t i + 38 * gI t (i + 16)
theorem foldM_val {t : List Int} (ht : t.length = 32) : vL (foldM t) % pP = vL t % pP := by
  have h := vL_app (t.take 16) (t.drop 16)
  rw [List.take_append_drop, show (t.take 16).length = 16 by rw [List.length_take]; omega] at h
  have e1 : (List.range 16).map (fun i => gI t i) = t.take 16 := by
    rw [list16 (l := t.take 16) (by rw [List.length_take]; omega)]
    apply List.map_congr_left
    intro i hi
    have hi := List.mem_range.1 hi
    simp [gI, List.getD, hi]
  have e2 : (List.range 16).map (fun i => gI t (i + 16)) = t.drop 16 := by
    rw [list16 (l := t.drop 16) (by rw [List.length_drop]; omega)]
    apply List.map_congr_left
    intro i hi
    simp [gI, List.getD, Nat.add_comm]
  have e3 : vL (foldM t) = vL (t.take 16) + 38 * vL (t.drop 16) := by
    unfold foldM
    rw [vL_add, vL_mulc, e1, e2]
  have e4 : (65536 : Int) ^ 16 = 2 * pP + 38 := by decide
  rw [e4] at h
  rw [e3, h]
  generalize vL (t.take 16) = u
  generalize vL (t.drop 16) = v
  unfold pP
  omega
theorem vL_top : ∀ l : List Int, (∀ i, 0 ≤ gI l i ∧ gI l i ≤ 42880953483264) → 0 ≤ vL l ∧ 65535 * vL l ≤ 42880953483264 * (65536 ^ l.length - 1)
  | [], _ => by simp [vL]
  | a :: l, h => by
    have h0 := h 0
    have ih := vL_top l (fun i => h (i + 1))
    rw [gI_zero] at h0
    rw [vL, List.length_cons, Int.pow_succ]
    generalize (65536 : Int) ^ l.length = p at *
    omega
theorem foldM_ok {x y : List Int} (hx : x.length = 16) (hy : y.length = 16) (bx : ∀ j, 0 ≤ gI x j ∧ gI x j < 65536) (by' : ∀ j, 0 ≤ gI y j ∧ gI y j < 65536) :
    Bd 70368744177664 (foldM (mulAll x y 16)) ∧ -(8 * P255) ≤ vL (foldM (mulAll x y 16)) ∧ vL (foldM (mulAll x y 16)) ≤ 35184372088832 * P255 ∧ vL (foldM (mulAll x y 16)) % pP = (vL x * vL y) % pP := by
  have hb := mulAll_bd x y bx by' 16 (by omega)
  have hf : ∀ i, 0 ≤ gI (foldM (mulAll x y 16)) i ∧ gI (foldM (mulAll x y 16)) i ≤ 42880953483264 := fun i => by
    by_cases hi : i < 16
    · rw [foldM, gI_range _ _ hi]
      have h1 := hb i
      have h2 := hb (i + 16)
      omega
    · rw [gI_out (by simp [foldM]; omega)]; omega
  have ht := vL_top _ hf
  have hl : (foldM (mulAll x y 16)).length = 16 := by simp [foldM]
  rw [hl, show (65536 : Int) ^ 16 = 2 * P255 by decide] at ht
  refine ⟨fun i => by have := hf i; omega, ?_, ?_, ?_⟩
  · unfold P255 at *; omega
  · unfold P255 at *; omega
  · rw [foldM_val (mulAll_len _ _ _), mulAll_val x y hx hy 16 (by omega), show x.take 16 = x from List.take_of_length_le (by omega)]
end Go.Proofs.Ytlhnjdnkjgnooaa

