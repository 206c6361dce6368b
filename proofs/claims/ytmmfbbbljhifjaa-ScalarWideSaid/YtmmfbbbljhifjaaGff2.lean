/- The product of two numbers by their digits, plainly. The contract of the reference's Mul. The contracts of the reference's Odd, Small. Numbers by bytes, the lowest first; 255 bits of 32 bytes; numbers modulo 2^255 - 19. No program is named here. Rows of bytes in memory; two of them compared. The contracts of the reference's From, Bytes and Canonical. The contracts of the reference's Bytes and Canonical. Written by wip/tools/mk_can9.py. -/
import Derived.Test.YtmmfbbbljhifjaaGff1
import Derived.Test.YtmmfbbbljhifjaaGbase
import Derived.Laws.StructEq
import Derived.Test.YtmmfbbbljhifjaaGroo1
namespace Go.Proofs.Ytmmfbbbljhifjaa
set_option linter.unusedVariables false
set_option maxRecDepth 100000

def mulAt (x y t : List Int) (i k : Nat) : List Int := t.set (i + k) (gI t (i + k) + gI x i * gI y k)
def mulRow (x y t : List Int) (i : Nat) : Nat → List Int
  | 0 => t
  | k + 1 => mulAt x y (mulRow x y t i k) i k
def mulAll (x y : List Int) : Nat → List Int
  | 0 => List.replicate 32 0
  | i + 1 => mulRow x y (mulAll x y i) i 16
theorem mulRow_len (x y t : List Int) (i : Nat) : ∀ k, (mulRow x y t i k).length = t.length
  | 0 => rfl
  | k + 1 => by rw [mulRow, mulAt, List.length_set, mulRow_len x y t i k]
theorem mulAll_len (x y : List Int) : ∀ i, (mulAll x y i).length = 32
  | 0 => by simp [mulAll]
  | i + 1 => by rw [mulAll, mulRow_len, mulAll_len x y i]
theorem take_val (y : List Int) (k : Nat) (hk : k < y.length) : vL (y.take (k + 1)) = vL (y.take k) + gI y k * 65536 ^ k := by
  rw [List.take_add_one, List.getElem?_eq_getElem hk]
  have h := vL_split (y.take k) y[k]
  rw [show (y.take k).length = k by rw [List.length_take]; omega] at h
  have e : gI y k = y[k] := by simp [gI, List.getD, List.getElem?_eq_getElem hk]
  rw [e]
  exact h
theorem mulRow_val (x y t : List Int) (i : Nat) (hy : y.length = 16) (ht : t.length = 32) (hi : i < 16) : ∀ k, k ≤ 16 → vL (mulRow x y t i k) = vL t + gI x i * 65536 ^ i * vL (y.take k)
  | 0, _ => by simp [mulRow, vL]
  | k + 1, hk => by
    have ih := mulRow_val x y t i hy ht hi k (by omega)
    rw [mulRow, mulAt, vL_set _ _ _ (by rw [mulRow_len]; omega), ih, take_val y k (by omega), Int.pow_add]
    generalize gI (mulRow x y t i k) (i + k) = a
    generalize vL (y.take k) = b
    generalize (65536 : Int) ^ i = p
    generalize (65536 : Int) ^ k = q
    grind
theorem mulAll_val (x y : List Int) (hx : x.length = 16) (hy : y.length = 16) : ∀ i, i ≤ 16 → vL (mulAll x y i) = vL (x.take i) * vL y
  | 0, _ => by rw [List.take_zero]; show vL (List.replicate 32 0) = vL [] * vL y; rw [show vL (List.replicate 32 0) = 0 by decide]; simp [vL]
  | i + 1, h => by
    have ih := mulAll_val x y hx hy i (by omega)
    rw [mulAll, mulRow_val x y _ i hy (mulAll_len _ _ _) (by omega) 16 (by omega), ih, take_val x i (by omega), show y.take 16 = y from List.take_of_length_le (by omega)]
    rw [Int.add_mul]
theorem mul_small {a b : Int} (ha : 0 ≤ a ∧ a < 65536) (hb : 0 ≤ b ∧ b < 65536) : 0 ≤ a * b ∧ a * b ≤ 4294967296 := by
  refine ⟨Int.mul_nonneg ha.1 hb.1, ?_⟩
  have : a * b ≤ 65536 * 65536 := Int.mul_le_mul (by omega) (by omega) hb.1 (by omega)
  omega
theorem mulRow_bd (x y t : List Int) (i : Nat) (M : Int) (hx : ∀ j, 0 ≤ gI x j ∧ gI x j < 65536) (hy : ∀ j, 0 ≤ gI y j ∧ gI y j < 65536) (ht : t.length = 32) (hi : i < 16) (hM : ∀ j, 0 ≤ gI t j ∧ gI t j ≤ M) : ∀ k, k ≤ 16 → ∀ j, 0 ≤ gI (mulRow x y t i k) j ∧ gI (mulRow x y t i k) j ≤ M + k * 4294967296
  | 0, _, j => by have := hM j; rw [mulRow]; omega
  | k + 1, hk, j => by
    have ih := mulRow_bd x y t i M hx hy ht hi hM k (by omega)
    have hp := mul_small (hx i) (hy k)
    rw [mulRow, mulAt, gI_set _ _ _ _ (by rw [mulRow_len]; omega)]
    have h1 := ih j
    have h2 := ih (i + k)
    generalize gI x i * gI y k = p at *
    split <;> omega
theorem mulAll_bd (x y : List Int) (hx : ∀ j, 0 ≤ gI x j ∧ gI x j < 65536) (hy : ∀ j, 0 ≤ gI y j ∧ gI y j < 65536) : ∀ i, i ≤ 16 → ∀ j, 0 ≤ gI (mulAll x y i) j ∧ gI (mulAll x y i) j ≤ i * 68719476736
  | 0, _, j => by
    rw [mulAll]
    have e : gI (List.replicate 32 0) j = 0 := by
      simp only [gI, List.getD, List.getElem?_replicate]
      split <;> rfl
    rw [e]; omega
  | i + 1, h, j => by
    have ih := mulAll_bd x y hx hy i (by omega)
    have h1 := mulRow_bd x y (mulAll x y i) i _ hx hy (mulAll_len _ _ _) (by omega) ih 16 (by omega) j
    rw [mulAll]
    omega
theorem vL_app : ∀ (a b : List Int), vL (a ++ b) = vL a + 65536 ^ a.length * vL b
  | [], b => by simp [vL]
  | x :: a, b => by
    have ih := vL_app a b
    rw [List.cons_append, vL, vL, ih, List.length_cons, Int.pow_succ, Int.mul_comm ((65536 : Int) ^ a.length) 65536, Int.mul_assoc]
    generalize (65536 : Int) ^ a.length * vL b = q
    omega
def foldM (t : List Int) : List Int := (List.range 16).map fun i => gI t i + 38 * gI t (i + 16)
theorem foldM_val {t : List Int} (ht : t.length = 32) : vL (foldM t) % pP = vL t % pP := by
  have h := vL_app (t.take 16) (t.drop 16)
  rw [List.take_append_drop, show (t.take 16).length = 16 by rw [List.length_take]; omega] at h
  have e1 : (List.range 16).map (fun i => gI t i) = t.take 16 := by
    rw [list16 (l := t.take 16) (by rw [List.length_take]; omega)]
    apply List.map_congr_left
    intro i hi
    have hi := List.mem_range.1 hi
    simp [gI, List.getD, hi]
  have e2 : (List.range 16).map (fun i => gI t (i + 16)) = t.drop 16 := by
    rw [list16 (l := t.drop 16) (by rw [List.length_drop]; omega)]
    apply List.map_congr_left
    intro i hi
    simp [gI, List.getD, Nat.add_comm]
  have e3 : vL (foldM t) = vL (t.take 16) + 38 * vL (t.drop 16) := by
    unfold foldM
    rw [vL_add, vL_mulc, e1, e2]
  have e4 : (65536 : Int) ^ 16 = 2 * pP + 38 := by decide
  rw [e4] at h
  rw [e3, h]
  generalize vL (t.take 16) = u
  generalize vL (t.drop 16) = v
  unfold pP
  omega
theorem vL_top : ∀ l : List Int, (∀ i, 0 ≤ gI l i ∧ gI l i ≤ 42880953483264) → 0 ≤ vL l ∧ 65535 * vL l ≤ 42880953483264 * (65536 ^ l.length - 1)
  | [], _ => by simp [vL]
  | a :: l, h => by
    have h0 := h 0
    have ih := vL_top l (fun i => h (i + 1))
    rw [gI_zero] at h0
    rw [vL, List.length_cons, Int.pow_succ]
    generalize (65536 : Int) ^ l.length = p at *
    omega
theorem foldM_ok {x y : List Int} (hx : x.length = 16) (hy : y.length = 16) (bx : ∀ j, 0 ≤ gI x j ∧ gI x j < 65536) (by' : ∀ j, 0 ≤ gI y j ∧ gI y j < 65536) :
    Bd 70368744177664 (foldM (mulAll x y 16)) ∧ -(8 * P255) ≤ vL (foldM (mulAll x y 16)) ∧ vL (foldM (mulAll x y 16)) ≤ 35184372088832 * P255 ∧ vL (foldM (mulAll x y 16)) % pP = (vL x * vL y) % pP := by
  have hb := mulAll_bd x y bx by' 16 (by omega)
  have hf : ∀ i, 0 ≤ gI (foldM (mulAll x y 16)) i ∧ gI (foldM (mulAll x y 16)) i ≤ 42880953483264 := fun i => by
    by_cases hi : i < 16
    · rw [foldM, gI_range _ _ hi]
      have h1 := hb i
      have h2 := hb (i + 16)
      omega
    · rw [gI_out (by simp [foldM]; omega)]; omega
  have ht := vL_top _ hf
  have hl : (foldM (mulAll x y 16)).length = 16 := by simp [foldM]
  rw [hl, show (65536 : Int) ^ 16 = 2 * P255 by decide] at ht
  refine ⟨fun i => by have := hf i; omega, ?_, ?_, ?_⟩
  · unfold P255 at *; omega
  · unfold P255 at *; omega
  · rw [foldM_val (mulAll_len _ _ _), mulAll_val x y hx hy 16 (by omega), show x.take 16 = x from List.take_of_length_le (by omega)]
end Go.Proofs.Ytmmfbbbljhifjaa

namespace Go.Proofs.Ytmmfbbbljhifjaa
open Go.RowKit
set_option linter.unusedVariables false
set_option maxRecDepth 100000

end Go.Proofs.Ytmmfbbbljhifjaa

namespace Go.Proofs.Ytmmfbbbljhifjaa
open Go.RowKit
set_option linter.unusedVariables false
set_option maxRecDepth 100000

theorem u64_andM (q : Nat) (h : q < 18446744073709551616) : bits .and .u64 (q : Int) 65535 = ((q % 65536 : Nat) : Int) := by
  have h := bits_and_u64_nat q 65535 h (by omega)
  rw [show (65535 : Nat) = 2 ^ 16 - 1 by decide, Nat.and_two_pow_sub_one_eq_mod] at h
  exact h

/-- a small number's digits -/
def smallF (n : Nat) (i : Nat) : Int := if i < 4 then ((n / 65536 ^ i % 65536 : Nat) : Int) else 0
theorem small_dg (n : Nat) (h : n < 18446744073709551616) : opTo (smallF n) (List.replicate 16 0) 4 = dgN 16 (n : Int) := by
  have e : dgN 16 (n : Int) = dgN 16 (vL (opTo (smallF n) (List.replicate 16 0) 4)) := by
    congr 1
    have ho : opTo (smallF n) (List.replicate 16 0) 4 = [smallF n 0, smallF n 1, smallF n 2, smallF n 3, 0, 0, 0, 0, 0, 0, 0, 0, 0, 0, 0, 0] := rfl
    rw [ho]
    have s0 : smallF n 0 = ((n % 65536 : Nat) : Int) := by simp [smallF]
    have s1 : smallF n 1 = ((n / 65536 % 65536 : Nat) : Int) := by simp [smallF]
    have s2 : smallF n 2 = ((n / 4294967296 % 65536 : Nat) : Int) := by simp [smallF]
    have s3 : smallF n 3 = ((n / 281474976710656 % 65536 : Nat) : Int) := by simp [smallF]
    rw [s0, s1, s2, s3]
    simp only [vL]
    omega
  rw [e]
  have hl : (opTo (smallF n) (List.replicate 16 0) 4).length = 16 := opTo_len _ _ _
  have := dg_unique (opTo (smallF n) (List.replicate 16 0) 4) (fun i hi => by
    rw [hl] at hi
    rw [opTo_get _ _ _ _ hi]
    split
    · unfold smallF
      split <;> omega
    · have : gI (List.replicate 16 0) i = 0 := by
        simp only [gI, List.getD, List.getElem?_replicate]
        split <;> rfl
      omega)
  rw [hl] at this
  exact this

end Go.Proofs.Ytmmfbbbljhifjaa

namespace Go.Proofs.Ytmmfbbbljhifjaa
set_option linter.unusedVariables false
set_option maxRecDepth 100000

def leN : List UInt8 → Nat
  | [] => 0
  | a :: l => a.toNat + 256 * leN l
def leB : Nat → Nat → List UInt8
  | 0, _ => []
  | n + 1, x => UInt8.ofNat x :: leB n (x / 256)
theorem leB_len : ∀ n x, (leB n x).length = n
  | 0, _ => rfl
  | n + 1, x => by rw [leB, List.length_cons, leB_len n]
theorem leN_lt : ∀ l : List UInt8, leN l < 256 ^ l.length
  | [] => by simp [leN]
  | a :: l => by
    have ih := leN_lt l
    have ha := a.toNat_lt
    rw [leN, List.length_cons, Nat.pow_succ]
    generalize 256 ^ l.length = p at *
    omega
theorem leN_leB : ∀ n x, x < 256 ^ n → leN (leB n x) = x
  | 0, x, h => by simp at h; subst h; rfl
  | n + 1, x, h => by
    have ih := leN_leB n (x / 256) (by rw [Nat.pow_succ] at h; generalize 256 ^ n = p at *; omega)
    rw [leB, leN, ih]
    have : (UInt8.ofNat x).toNat = x % 256 := by simp
    omega
theorem leB_leN : ∀ l : List UInt8, leB l.length (leN l) = l
  | [] => rfl
  | a :: l => by
    have ha := a.toNat_lt
    have e1 : (a.toNat + 256 * leN l) / 256 = leN l := by omega
    have e2 : UInt8.ofNat (a.toNat + 256 * leN l) = a := UInt8.toNat_inj.1 (by simp)
    rw [List.length_cons, leN, leB, e1, e2, leB_leN l]
theorem leN_inj {l m : List UInt8} (h : l.length = m.length) (e : leN l = leN m) : l = m := by
  rw [← leB_leN l, ← leB_leN m, h, e]
theorem leB_inj {n x y : Nat} (hx : x < 256 ^ n) (hy : y < 256 ^ n) (h : leB n x = leB n y) : x = y := by
  rw [← leN_leB n x hx, ← leN_leB n y hy, h]
theorem leB_get : ∀ n x i, i < n → (leB n x).getD i 0 = UInt8.ofNat (x / 256 ^ i)
  | 0, _, _, h => by omega
  | n + 1, x, 0, _ => by simp [leB]
  | n + 1, x, i + 1, h => by
    rw [leB, List.getD_cons_succ, leB_get n (x / 256) i (by omega), Nat.div_div_eq_div_mul, Nat.pow_succ, Nat.mul_comm]
theorem leN_set : ∀ (l : List UInt8) (i : Nat) (x : UInt8), i < l.length → leN (l.set i x) + (l.getD i 0).toNat * 256 ^ i = leN l + x.toNat * 256 ^ i
  | [], i, x, h => by simp at h
  | a :: l, 0, x, _ => by simp [leN]; omega
  | a :: l, i + 1, x, h => by
    have ih := leN_set l i x (by simpa using h)
    rw [List.set_cons_succ, leN, leN, List.getD_cons_succ, Nat.pow_succ, ← Nat.mul_assoc, ← Nat.mul_assoc]
    generalize (l.getD i 0).toNat * 256 ^ i = q at *
    generalize x.toNat * 256 ^ i = r at *
    omega
theorem leN_snoc (l : List UInt8) (a : UInt8) : leN (l ++ [a]) = leN l + a.toNat * 256 ^ l.length := by
  induction l with
  | nil => simp [leN]
  | cons b l ih =>
    rw [List.cons_append, leN, leN, ih, List.length_cons, Nat.pow_succ, ← Nat.mul_assoc]
    generalize a.toNat * 256 ^ l.length = q
    omega

abbrev TT : Nat := 57896044618658097711785492504343953926634992332820282019728792003956564819968
abbrev PP : Nat := 57896044618658097711785492504343953926634992332820282019728792003956564819949
theorem two256 : 256 ^ 32 = 2 * TT := by decide
/-- 32 bytes without their highest bit -/
def topC (l : List UInt8) : List UInt8 := l.set 31 (l.getD 31 0 &&& 127)
theorem topC_len (l : List UInt8) : (topC l).length = l.length := by simp [topC]
theorem top_split {l : List UInt8} (h : l.length = 32) : ∃ r, r < 256 ^ 31 ∧ leN l = r + (l.getD 31 0).toNat * 256 ^ 31 := by
  have e : l = l.take 31 ++ [l.getD 31 0] := by
    have e1 := List.take_append_drop 31 l
    have d : l.drop 31 = [l.getD 31 0] := by
      rw [List.drop_eq_getElem_cons (by omega), List.drop_eq_nil_of_le (by omega)]
      simp [List.getD, List.getElem?_eq_getElem (show 31 < l.length by omega)]
    rw [← d]; exact e1.symm
  have hl : (l.take 31).length = 31 := by rw [List.length_take]; omega
  refine ⟨leN (l.take 31), by have := leN_lt (l.take 31); rwa [hl] at this, ?_⟩
  have h2 := leN_snoc (l.take 31) (l.getD 31 0)
  rw [← e, hl] at h2
  exact h2
theorem u8_and127 (a : UInt8) : (a &&& 127).toNat = a.toNat % 128 := by
  rw [UInt8.toNat_and, show (127 : UInt8).toNat = 2 ^ 7 - 1 by decide, Nat.and_two_pow_sub_one_eq_mod]
theorem P31 : 256 ^ 31 = 452312848583266388373324160190187140051835877600158453279131187530910662656 := by decide
theorem leN_topC {l : List UInt8} (h : l.length = 32) : leN (topC l) = leN l % TT := by
  obtain ⟨r, hr, e⟩ := top_split h
  have hs := leN_set l 31 (l.getD 31 0 &&& 127) (by omega)
  rw [u8_and127] at hs
  unfold topC
  have := (l.getD 31 0).toNat_lt
  generalize (l.getD 31 0).toNat = a at *
  generalize leN (l.set 31 (l.getD 31 0 &&& 127)) = v at *
  rw [e] at hs ⊢
  rw [P31] at *
  unfold TT
  omega
def feN (l : List UInt8) : Nat := leN l % TT % PP
def canN (l : List UInt8) : Bool := decide (leN l % TT < PP)
theorem feN_lt (l : List UInt8) : feN l < PP := Nat.mod_lt _ (by decide)
theorem PP_lt : PP < 256 ^ 32 := by decide
theorem feN_leB {x : Nat} (h : x < PP) : feN (leB 32 x) = x := by
  unfold feN
  rw [leN_leB 32 x (Nat.lt_trans h PP_lt), Nat.mod_eq_of_lt (show x < TT by unfold PP at h; unfold TT; omega), Nat.mod_eq_of_lt h]
theorem canN_leB {x : Nat} (h : x < PP) : canN (leB 32 x) = true := by
  unfold canN
  rw [leN_leB 32 x (Nat.lt_trans h PP_lt), Nat.mod_eq_of_lt (show x < TT by unfold PP at h; unfold TT; omega)]
  exact decide_eq_true h
/-- what is read and written again is what was there exactly where it is below the prime -/
theorem canN_iff {l : List UInt8} (h : l.length = 32) : decide (leB 32 (feN (topC l)) = topC l) = canN l := by
  have ht := leN_topC h
  have hl := topC_len l
  rw [h] at hl
  have hlt : leN l % TT < TT := Nat.mod_lt _ (by decide)
  have hfe : feN (topC l) = leN l % TT % PP := by unfold feN; rw [ht, Nat.mod_eq_of_lt hlt]
  rw [hfe]
  unfold canN
  by_cases hc : leN l % TT < PP
  · rw [decide_eq_true hc, Nat.mod_eq_of_lt hc, ← ht]
    have := leB_leN (topC l)
    rw [hl] at this
    exact decide_eq_true this
  · rw [decide_eq_false hc]
    apply decide_eq_false
    intro e
    apply hc
    have e2 : leN (topC l) = leN l % TT % PP := by rw [← e]; exact leN_leB 32 _ (Nat.lt_trans (Nat.mod_lt _ (by decide)) PP_lt)
    rw [← ht, e2]
    exact Nat.mod_lt _ (by decide)

/-! Digits of 16 bits out of bytes, and back. -/
def pairL : List UInt8 → List Int
  | a :: b :: l => ((a.toNat : Int) + 256 * (b.toNat : Int)) :: pairL l
  | _ => []
theorem pairL_val : ∀ l : List UInt8, l.length % 2 = 0 → vL (pairL l) = (leN l : Int)
  | [], _ => rfl
  | [a], h => by simp at h
  | a :: b :: l, h => by
    have ih := pairL_val l (by simp at h; omega)
    rw [pairL, vL, ih, leN, leN]
    omega
theorem pairL_len : ∀ l : List UInt8, (pairL l).length = l.length / 2
  | [] => rfl
  | [a] => by simp [pairL]
  | a :: b :: l => by rw [pairL, List.length_cons, pairL_len l, List.length_cons, List.length_cons]; omega
theorem pairL_get : ∀ (l : List UInt8) (i : Nat), 2 * i + 1 < l.length → gI (pairL l) i = ((l.getD (2 * i) 0).toNat : Int) + 256 * ((l.getD (2 * i + 1) 0).toNat : Int)
  | [], i, h => by simp at h
  | [a], i, h => by simp at h
  | a :: b :: l, 0, _ => by simp [pairL, gI_zero]
  | a :: b :: l, i + 1, h => by
    rw [pairL, gI_cons, pairL_get l i (by simp at h; omega), show 2 * (i + 1) = (2 * i + 1) + 1 by omega]
    simp
def digitF (l : List UInt8) (i : Nat) : Int := ((l.getD (2 * i) 0).toNat : Int) + 256 * ((l.getD (2 * i + 1) 0).toNat : Int)
theorem digitF_is {l : List UInt8} (h : l.length = 32) : (List.range 16).map (digitF l) = pairL l := by
  have hl := pairL_len l
  rw [h] at hl
  rw [list16 hl]
  apply List.map_congr_left
  intro i hi
  rw [pairL_get l i (by have := List.mem_range.1 hi; omega)]
  rfl
theorem digitF_bd (l : List UInt8) (i : Nat) : 0 ≤ digitF l i ∧ digitF l i < 65536 := by
  unfold digitF
  have := (l.getD (2 * i) 0).toNat_lt
  have := (l.getD (2 * i + 1) 0).toNat_lt
  omega
/-- the digits of 32 bytes, without the highest bit -/
theorem digits_top {l : List UInt8} (h : l.length = 32) : vL (((List.range 16).map (digitF l)).set 15 (digitF l 15 % 32768)) = ((leN l % TT : Nat) : Int) := by
  rw [vL_set _ _ _ (by simp), gI_range _ _ (by omega), digitF_is h, pairL_val l (by omega)]
  obtain ⟨r, hr, e⟩ := top_split h
  have e15 : (65536 : Int) ^ 15 = P240 := by decide
  rw [e15]
  have hd := top_digit (l := pairL l) (by rw [pairL_len, h]) (fun i hi => by
    have := digitF_bd l i
    rw [← digitF_is h, gI_range _ _ (by omega)]; exact this)
  rw [← digitF_is h, gI_range _ _ (by omega), digitF_is h, pairL_val l (by omega)] at hd
  rw [hd]
  have hlt := leN_lt l
  rw [h] at hlt
  generalize leN l = v at *
  unfold P240 TT at *
  omega
/-- the bytes laid so far: k pairs of them -/
def byteTo (x : Nat) (k : Nat) : List UInt8 := (leB 32 x).take (2 * k) ++ List.replicate (32 - 2 * k) 0
theorem dgN_getN : ∀ n (x i : Nat), i < n → gI (dgN n (x : Int)) i = ((x / 65536 ^ i % 65536 : Nat) : Int)
  | 0, _, _, h => by omega
  | n + 1, x, 0, _ => by rw [dgN, gI_zero]; simp
  | n + 1, x, i + 1, h => by
    rw [dgN, gI_cons, show (x : Int) / 65536 = ((x / 65536 : Nat) : Int) by omega, dgN_getN n (x / 65536) i (by omega), Nat.div_div_eq_div_mul, Nat.pow_succ, Nat.mul_comm (65536 ^ i)]
theorem byteTo_step (x k : Nat) (h : k < 16) : ((byteTo x k).set (2 * k) (UInt8.ofNat (x / 65536 ^ k % 65536 % 256))).set (2 * k + 1) (UInt8.ofNat (x / 65536 ^ k % 65536 / 256)) = byteTo x (k + 1) := by
  have hl := leB_len 32 x
  apply List.ext_getElem
  · simp [byteTo, hl]; omega
  intro i h1 h2
  have hi : i < 32 := by simp [byteTo, hl] at h1; omega
  have g1 := leB_get 32 x i hi
  have gl : (leB 32 x)[i]'(by omega) = UInt8.ofNat (x / 256 ^ i) := by rw [← g1]; simp [List.getD, List.getElem?_eq_getElem (show i < (leB 32 x).length by omega)]
  have p2 : 256 ^ (2 * k) = 65536 ^ k := by rw [Nat.pow_mul]
  rw [List.getElem_set, List.getElem_set]
  by_cases a : 2 * k + 1 = i
  · subst a
    rw [if_pos rfl]
    simp only [byteTo]
    rw [List.getElem_append_left (by rw [List.length_take]; omega), List.getElem_take, gl, Nat.pow_succ, p2, ← Nat.div_div_eq_div_mul]
    generalize x / 65536 ^ k = y
    apply UInt8.toNat_inj.1
    simp
    omega
  · rw [if_neg a]
    by_cases b : 2 * k = i
    · subst b
      rw [if_pos rfl]
      simp only [byteTo]
      rw [List.getElem_append_left (by rw [List.length_take]; omega), List.getElem_take, gl, p2]
      generalize x / 65536 ^ k = y
      apply UInt8.toNat_inj.1
      simp
    · rw [if_neg b]
      simp only [byteTo]
      by_cases c : i < 2 * k
      · rw [List.getElem_append_left (by rw [List.length_take]; omega), List.getElem_append_left (by rw [List.length_take]; omega), List.getElem_take, List.getElem_take]
      · rw [List.getElem_append_right (by rw [List.length_take]; omega), List.getElem_append_right (by rw [List.length_take]; omega)]
        simp
theorem byteTo_zero (x : Nat) : byteTo x 0 = List.replicate 32 0 := by simp [byteTo]
theorem byteTo_end (x : Nat) : byteTo x 16 = leB 32 x := by
  have hl := leB_len 32 x
  unfold byteTo
  rw [List.take_of_length_le (by omega)]
  simp
theorem byteTo_len (x : Nat) (k : Nat) : (byteTo x k).length = 32 := by
  have hl := leB_len 32 x
  simp [byteTo, hl]; omega
end Go.Proofs.Ytmmfbbbljhifjaa

namespace Go.Proofs.Ytmmfbbbljhifjaa
open Go.RowKit
set_option linter.unusedVariables false
set_option maxRecDepth 100000

/-- bytes in a row -/
def arrB (l : List UInt8) : Array Value := (l.map bval).toArray
theorem arrB_size (l : List UInt8) : (arrB l).size = l.length := by simp [arrB]
theorem arrB_get (l : List UInt8) (i : Nat) (h : i < l.length) : (arrB l)[i]? = some (.int .u8 ((l.getD i 0).toNat : Int)) := by
  simp [arrB, List.getD, List.getElem?_eq_getElem h, bval]
theorem arrB_set (l : List UInt8) (i : Nat) (x : UInt8) : (arrB l).setIfInBounds i (.int .u8 (x.toNat : Int)) = arrB (l.set i x) := by
  unfold arrB
  rw [List.map_set]
  simp [bval]
theorem arrB_one (l : List UInt8) : (arrB l).all (·.oneCell') = true := by
  simp [arrB, Value.oneCell', bval]
theorem zero_arr (T : TypeId) (z : Array Value) (n : Nat) (h : (Try.prog.info? T).map (fun i => (i.zero, i.size)) = some (some (.agg z), n)) (u : World) : (zeroValue T).run Try.prog u = .ok (.agg z) u := by
  cases hi : Try.prog.info? T with
  | none => rw [hi] at h; cases h
  | some i =>
    rw [hi] at h
    simp at h
    simp [zeroValue, typeInfo, hi, h.1]

theorem part_b {P : Program} (e : TypeId) (l : List UInt8) (i : Nat) (h : i < l.length) (ha : ∀ w, (isAgg e).run P w = .ok false w) (u : World) : (Go.part e (arrB l) i).run P u = .ok (.int .u8 ((l.getD i 0).toNat : Int)) u := by
  have hg := arrB_get l i h
  simp only [Go.part, Sem.run_bind, ha, Result.andThen_ok, Bool.false_eq_true, if_false]
  rw [hg]
  simp

theorem eqB_loop {P : Program} (e : TypeId) (l : List UInt8) (hu : P.underlying e = some (.int .u8)) (ha : ∀ w, (isAgg e).run P w = .ok false w) (u : World) : ∀ (r : List Nat), (∀ i ∈ r, i < l.length) →
    (forIn r ((none : Option Bool), ()) fun i __s => do
      let a ← Go.part e (arrB l) (i * 1)
      let b ← Go.part e (arrB l) (i * 1)
      let c ← Op.equalIn 9999 e a b
      if (!c) = true then pure (ForInStep.done (some false, ())) else pure (ForInStep.yield ((none : Option Bool), ())) : Sem (Option Bool × Unit)).run P u = .ok (none, ()) u
  | [], _ => by simp
  | i :: r, h => by
    have h1 := part_b (P := P) e l i (h i (by simp)) ha u
    have h2 : (Op.equalIn 9999 e (.int .u8 ((l.getD i 0).toNat : Int)) (.int .u8 ((l.getD i 0).toNat : Int))).run P u = .ok true u := by
      rw [show (9999 : Nat) = 9998 + 1 from rfl, run_equalIn_int _ _ _ _ .u8 _ _ hu]; simp
    have ih := eqB_loop e l hu ha u r (fun j hj => h j (by simp [hj]))
    simp only [List.forIn_cons, Sem.run_bind, Nat.mul_one, h1, h2, Result.andThen_ok, Bool.not_true, Bool.false_eq_true, if_false, Sem.run_pure] at ih ⊢
    exact ih

theorem eqB_in {P : Program} (T e : TypeId) (n : Nat) (l : List UInt8) (hl : l.length = n) (ht : P.underlying T = some (.array n e)) (hu : P.underlying e = some (.int .u8))
    (ha : ∀ w, (isAgg e).run P w = .ok false w) (hs : ∀ w, (sizeOf e).run P w = .ok 1 w) (u : World) : (Op.equalIn 10000 T (.agg (arrB l)) (.agg (arrB l))).run P u = .ok true u := by
  rw [show (10000 : Nat) = 9999 + 1 from rfl, Op.equalIn]
  simp only [Sem.run_bind, run_underlying ht, Result.andThen_ok, hs]
  simp only [Std.Legacy.Range.forIn_eq_forIn_range', Std.Legacy.Range.size, Nat.sub_zero, Nat.add_sub_cancel, Nat.div_one]
  have hr : ∀ i ∈ List.range' 0 n, i < l.length := fun i hi => by
    rw [List.mem_range'_1] at hi; omega
  generalize List.range' 0 n = r at *
  rw [eqB_loop e l hu ha u r hr]
  simp
theorem eqB_refl {P : Program} (T e : TypeId) (n : Nat) (l : List UInt8) (hl : l.length = n) (ht : P.underlying T = some (.array n e)) (hu : P.underlying e = some (.int .u8))
    (ha : ∀ w, (isAgg e).run P w = .ok false w) (hs : ∀ w, (sizeOf e).run P w = .ok 1 w) (u : World) : (binOp .eql T (.agg (arrB l)) (.agg (arrB l))).run P u = .ok (.bool true) u := by
  rw [run_eql_struct, eqB_in T e n l hl ht hu ha hs u]
  simp
theorem bs_lt {W : World} {A : Option Addr} {l : List UInt8} (h : Bs W A l) (hl : 0 < l.length) {k : Nat} (hk : At A k) : k < W.heap.size := by
  obtain ⟨b, o, rfl, hc⟩ := h hl
  obtain ⟨a, e, rfl⟩ := hk
  injection e with e
  subst e
  exact World.block_lt_of_cell? W _ (hc 0 hl)

theorem run_eql2 {P : Program} {ρ : Operand → Value} {o : Oper} {w : World} {op : BinOp} {T T' : TypeId} {x y : Operand} {cs ds : Array Value} {r : Value} (ho : o.op = .binOp op T x y T') (hx : ρ x = .agg cs) (hy : ρ y = .agg ds) (hm : P.eqGuardType P.depth T = false)
    (he : (binOp op T (.agg cs) (.agg ds)).run P w = .ok r w) : (execOp ρ o).run P w = .ok (.value r) w := by
  unfold execOp
  simp only [ho, hx, hy, Sem.run_bind, run_eqGuard_agg w op T x y cs ds hm, Result.andThen_ok, he, Sem.run_pure]
theorem frozen_row {W : World} {g : Nat} {cs : Array Value} {t : TypeId} (h : W.heap[g]? = some (.cells cs t (0, 0))) (k : Nat) : W.frozen? ⟨g, k, none⟩ = false := by simp [World.frozen?, h]
theorem neqB_run {P : Program} (T : TypeId) (xs ys : Array Value) (b : Bool) (u : World) (h : (binOp .eql T (.agg xs) (.agg ys)).run P u = .ok (.bool b) u) : (binOp .neq T (.agg xs) (.agg ys)).run P u = .ok (.bool (!b)) u := by
  rw [run_eql_struct] at h
  rw [run_neq_struct]
  cases hq : (Op.equalIn 10000 T (.agg xs) (.agg ys)).run P u with
  | ok c w' =>
    rw [hq] at h
    simp [Result.andThen] at h
    obtain ⟨h1, h2⟩ := h
    subst h1
    subst h2
    simp [Result.andThen]
  | halt x w' => rw [hq] at h; cases h

theorem eqB2_loop {P : Program} (e : TypeId) (l m : List UInt8) (hlm : l.length = m.length) (hu : P.underlying e = some (.int .u8)) (ha : ∀ w, (isAgg e).run P w = .ok false w) (u : World) : ∀ (r : List Nat), (∀ i ∈ r, i < l.length) →
    (forIn r ((none : Option Bool), ()) fun i __s => do
      let a ← Go.part e (arrB l) (i * 1)
      let b ← Go.part e (arrB m) (i * 1)
      let c ← Op.equalIn 9999 e a b
      if (!c) = true then pure (ForInStep.done (some false, ())) else pure (ForInStep.yield ((none : Option Bool), ())) : Sem (Option Bool × Unit)).run P u = .ok (if (r.all fun i => decide (l.getD i 0 = m.getD i 0)) = true then none else some false, ()) u
  | [], _ => by simp
  | i :: r, h => by
    have h1 := part_b (P := P) e l i (h i (by simp)) ha u
    have h1' := part_b (P := P) e m i (by have := h i (by simp); omega) ha u
    have h2 : (Op.equalIn 9999 e (.int .u8 ((l.getD i 0).toNat : Int)) (.int .u8 ((m.getD i 0).toNat : Int))).run P u = .ok (decide (l.getD i 0 = m.getD i 0)) u := by
      rw [show (9999 : Nat) = 9998 + 1 from rfl, run_equalIn_int _ _ _ _ .u8 _ _ hu]
      generalize l.getD i 0 = a
      generalize m.getD i 0 = b
      by_cases hq : a = b
      · rw [hq]; simp
      · rw [decide_eq_false hq]
        have : ¬ a.toNat = b.toNat := fun e => hq (UInt8.toNat_inj.1 e)
        congr 1
        simp; omega
    have ih := eqB2_loop e l m hlm hu ha u r (fun j hj => h j (by simp [hj]))
    by_cases hd : l.getD i 0 = m.getD i 0
    · have hdt : decide (l.getD i 0 = m.getD i 0) = true := decide_eq_true hd
      simp only [List.forIn_cons, Sem.run_bind, Nat.mul_one, h1, h1', h2, Result.andThen_ok, hdt, Bool.not_true, Bool.false_eq_true, if_false, Sem.run_pure, List.all_cons, Bool.true_and] at ih ⊢
      exact ih
    · have hdf : decide (l.getD i 0 = m.getD i 0) = false := decide_eq_false hd
      simp only [List.forIn_cons, Sem.run_bind, Nat.mul_one, h1, h1', h2, Result.andThen_ok, hdf, Bool.not_false, if_true, Sem.run_pure, List.all_cons, Bool.false_and, Bool.false_eq_true, if_false]
theorem allB_same {l m : List UInt8} (h : l.length = m.length) : ((List.range' 0 l.length).all fun i => decide (l.getD i 0 = m.getD i 0)) = decide (l = m) := by
  by_cases e : l = m
  · subst e; simp
  · rw [decide_eq_false e]
    cases hb : ((List.range' 0 l.length).all fun i => decide (l.getD i 0 = m.getD i 0))
    · rfl
    · exfalso
      apply e
      apply List.ext_getElem h
      intro i h1 h2
      have := List.all_eq_true.1 hb i (by rw [List.mem_range'_1]; omega)
      simpa [List.getD, List.getElem?_eq_getElem h1, List.getElem?_eq_getElem h2] using this
theorem eqB_any {P : Program} (T e : TypeId) (n : Nat) (l m : List UInt8) (hl : l.length = n) (hm : m.length = n) (ht : P.underlying T = some (.array n e)) (hu : P.underlying e = some (.int .u8))
    (ha : ∀ w, (isAgg e).run P w = .ok false w) (hs : ∀ w, (sizeOf e).run P w = .ok 1 w) (u : World) : (Op.equalIn 10000 T (.agg (arrB l)) (.agg (arrB m))).run P u = .ok (decide (l = m)) u := by
  rw [show (10000 : Nat) = 9999 + 1 from rfl, Op.equalIn]
  simp only [Sem.run_bind, run_underlying ht, Result.andThen_ok, hs]
  simp only [Std.Legacy.Range.forIn_eq_forIn_range', Std.Legacy.Range.size, Nat.sub_zero, Nat.add_sub_cancel, Nat.div_one]
  have hr : ∀ i ∈ List.range' 0 n, i < l.length := fun i hi => by
    rw [List.mem_range'_1] at hi; omega
  rw [eqB2_loop e l m (by omega) hu ha u _ hr]
  have hq := allB_same (l := l) (m := m) (by omega)
  rw [hl] at hq
  rw [hq]
  by_cases e : l = m
  · rw [decide_eq_true e]; simp
  · rw [decide_eq_false e]; simp
theorem eqB_run {P : Program} (T e : TypeId) (n : Nat) (l m : List UInt8) (hl : l.length = n) (hm : m.length = n) (ht : P.underlying T = some (.array n e)) (hu : P.underlying e = some (.int .u8))
    (ha : ∀ w, (isAgg e).run P w = .ok false w) (hs : ∀ w, (sizeOf e).run P w = .ok 1 w) (u : World) : (binOp .eql T (.agg (arrB l)) (.agg (arrB m))).run P u = .ok (.bool (decide (l = m))) u := by
  rw [run_eql_struct, eqB_any T e n l m hl hm ht hu ha hs u]
  simp
end Go.Proofs.Ytmmfbbbljhifjaa

namespace Go.Proofs.Ytmmfbbbljhifjaa
open Go.RowKit
set_option linter.unusedVariables false
set_option maxRecDepth 100000

/-- three rows, one behind the other; the last one is written -/
structure Tri (t0 t1 t2 : TypeId) (w wr : World) (g : Nat) (X Y Z : Array Value) : Prop where
  x : wr.heap[g]? = some (.cells X t0 (0, 0))
  y : wr.heap[g + 1]? = some (.cells Y t1 (0, 0))
  z : wr.heap[g + 1 + 1]? = some (.cells Z t2 (0, 0))
  below : Below g w wr
section
variable {t0 t1 t2 : TypeId} {w wr W : World} {g : Nat} {X Y Z : Array Value}
theorem Tri.lt (h : Tri t0 t1 t2 w wr g X Y Z) : g + 1 + 1 < wr.heap.size := (Array.getElem?_eq_some_iff.1 h.z).1
theorem Tri.drew (h : Tri t0 t1 t2 w wr g X Y Z) : Tri t0 t1 t2 w wr.drew g X Y Z := ⟨h.x, h.y, h.z, h.below.drew⟩
theorem Tri.set (h : Tri t0 t1 t2 w wr g X Y Z) (k : Nat) (v : Value) : Tri t0 t1 t2 w (wr.setCell ⟨g + 1 + 1, k, none⟩ v) g X Y (Z.setIfInBounds k v) := by
  have e := setCell_eq_setRow wr (g + 1 + 1) k _ _ _ v h.z
  exact ⟨by rw [e, setRow_other _ _ _ _ (by omega)]; exact h.x, by rw [e, setRow_other _ _ _ _ (by omega)]; exact h.y, by rw [e, setRow_heap _ _ _ _ _ _ h.z], h.below.setCell (p := ⟨g + 1 + 1, k, none⟩) (by show g ≤ g + 1 + 1; omega) _⟩
theorem Tri.call (h : Tri t0 t1 t2 w wr g X Y Z) (hb : Below wr.heap.size wr W) : Tri t0 t1 t2 w W g X Y Z := by
  have hl := h.lt
  exact ⟨by rw [hb.block _ (by omega)]; exact h.x, by rw [hb.block _ (by omega)]; exact h.y, by rw [hb.block _ (by omega)]; exact h.z, h.below.trans (hb.mono (by omega))⟩
theorem tri_two (w : World) (X Y : Array Value) (t0 t1 : TypeId) : ((w.alloc (.cells X t0)).alloc (.cells Y t1)).heap.size = w.heap.size + 1 + 1 := by rw [World.size_alloc, World.size_alloc]
theorem tri_new (w : World) (X Y Z0 : Array Value) (t0 t1 t2 : TypeId) : (((w.alloc (.cells X t0)).alloc (.cells Y t1)).alloc (.cells Z0 t2)).heap[w.heap.size + 1 + 1]? = some (.cells Z0 t2 (0, 0)) := by
  rw [← tri_two w X Y t0 t1]; exact heap_alloc_new _ _
theorem tri_start (w : World) (X Y Z0 Z : Array Value) (t0 t1 t2 : TypeId) : Tri t0 t1 t2 w ((((w.alloc (.cells X t0)).alloc (.cells Y t1)).alloc (.cells Z0 t2)).setRow (w.heap.size + 1 + 1) Z) w.heap.size X Y Z := by
  refine ⟨?_, ?_, setRow_heap _ _ _ _ _ _ (tri_new w X Y Z0 t0 t1 t2), below_row ((((Below.refl w.heap.size w).alloc (Nat.le_refl _) _).alloc (by simp) _).alloc (by simp; omega) _) (by omega)⟩
  · rw [setRow_other _ _ _ _ (by omega), heap_alloc_old _ _ (by rw [World.size_alloc, World.size_alloc]; omega)]; exact heap_alloc2_old _ _ _
  · rw [setRow_other _ _ _ _ (by omega), heap_alloc_old _ _ (by rw [World.size_alloc, World.size_alloc]; omega)]; exact heap_alloc2_new _ _ _
theorem Tri.fz (h : Tri t0 t1 t2 w wr g X Y Z) (k : Nat) : wr.frozen? ⟨g + 1 + 1, k, none⟩ = false := by have := h.z; simp [World.frozen?, this]
end

end Go.Proofs.Ytmmfbbbljhifjaa

namespace Go.Proofs.Ytmmfbbbljhifjaa
open Go.RowKit
set_option linter.unusedVariables false
set_option maxRecDepth 100000

theorem i64_and255 (n : Int) : bits .and .i64 n 255 = n % 256 := by
  have h127 : (BitVec.ofInt 64 255).toNat = 2 ^ 8 - 1 := by decide
  have key : (BitVec.ofInt 64 n &&& BitVec.ofInt 64 255).toNat = (n % ((2 ^ 64 : Nat) : Int)).toNat % 2 ^ 8 := by
    rw [BitVec.toNat_and, h127, Nat.and_two_pow_sub_one_eq_mod, BitVec.toNat_ofInt]
  show IntKind.i64.wrap ((BitVec.ofInt 64 n &&& BitVec.ofInt 64 255).toNat : Nat) = n % 256
  rw [key, IntKind.wrap_i64]
  omega

end Go.Proofs.Ytmmfbbbljhifjaa

