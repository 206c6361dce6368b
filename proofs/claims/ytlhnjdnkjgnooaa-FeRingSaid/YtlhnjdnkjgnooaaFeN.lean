/- Numbers by bytes, the lowest first; 255 bits of 32 bytes; numbers modulo 2^255 - 19. No program is named here. -/
import Derived.Test.YtlhnjdnkjgnooaaFe9
namespace Go.Proofs.Ytlhnjdnkjgnooaa
set_option linter.unusedVariables false
set_option maxRecDepth 100000

def leN : List UInt8 → Nat
  | [] => 0
  | a :: l => a.toNat + 256 * leN l
def leB : Nat → Nat → List UInt8
  | 0, _ => []
  | n + 1, x => UInt8.ofNat x :: leB n (x / 256)
theorem leB_len : ∀ n x, (leB n x).length = n
  | 0, _ => rfl
  | n + 1, x => by rw [leB, List.length_cons, leB_len n]
theorem leN_lt : ∀ l : List UInt8, leN l < 256 ^ l.length
  | [] => by simp [leN]
  | a :: l => by
    have ih := leN_lt l
    have ha := a.toNat_lt
    rw [leN, List.length_cons, Nat.pow_succ]
    generalize 256 ^ l.length = p at *
    omega
theorem leN_leB : ∀ n x, x < 256 ^ n → leN (leB n x) = x
  | 0, x, h => by simp at h; subst h; rfl
  | n + 1, x, h => by
    have ih := leN_leB n (x / 256) (by rw [Nat.pow_succ] at h; generalize 256 ^ n = p at *; omega)
    rw [leB, leN, ih]
    have : (UInt8.ofNat x).toNat = x % 256 := by simp
    omega
theorem leB_leN : ∀ l : List UInt8, leB l.length (leN l) = l
  | [] => rfl
  | a :: l => by
    have ha := a.toNat_lt
    have e1 : (a.toNat + 256 * leN l) / 256 = leN l := by omega
    have e2 : UInt8.ofNat (a.toNat + 256 * leN l) = a := UInt8.toNat_inj.1 (by simp)
    rw [List.length_cons, leN, leB, e1, e2, leB_leN l]
theorem leN_inj {l m : List UInt8} (h : l.length = m.length) (e : leN l = leN m) : l = m := by
  rw [← leB_leN l, ← leB_leN m, h, e]
theorem leB_inj {n x y : Nat} (hx : x < 256 ^ n) (hy : y < 256 ^ n) (h : leB n x = leB n y) : x = y := by
  rw [← leN_leB n x hx, ← leN_leB n y hy, h]
theorem leB_get : ∀ n x i, i < n → (leB n x).getD i 0 = UInt8.ofNat (x / 256 ^ i)
  | 0, _, _, h => by omega
  | n + 1, x, 0, _ => by simp [leB]
  | n + 1, x, i + 1, h => by
    rw [leB, List.getD_cons_succ, leB_get n (x / 256) i (by omega), Nat.div_div_eq_div_mul, Nat.pow_succ, Nat.mul_comm]
theorem leN_set : ∀ (l : List UInt8) (i : Nat) (x : UInt8), i < l.length → leN (l.set i x) + (l.getD i 0).toNat * 256 ^ i = leN l + x.toNat * 256 ^ i
  | [], i, x, h => by simp at h
  | a :: l, 0, x, _ => by simp [leN]; omega
  | a :: l, i + 1, x, h => by
    have ih := leN_set l i x (by simpa using h)
    rw [List.set_cons_succ, leN, leN, List.getD_cons_succ, Nat.pow_succ, ← Nat.mul_assoc, ← Nat.mul_assoc]
    generalize (l.getD i 0).toNat * 256 ^ i = q at *
    generalize x.toNat * 256 ^ i = r at *
    omega
theorem leN_snoc (l : List UInt8) (a : UInt8) : leN (l ++ [a]) = leN l + a.toNat * 256 ^ l.length := by
  induction l with
  | nil => simp [leN]
  | cons b l ih =>
    rw [List.cons_append, leN, leN, ih, List.length_cons, Nat.pow_succ, ← Nat.mul_assoc]
    generalize a.toNat * 256 ^ l.length = q
    omega

abbrev TT : Nat := 57896044618658097711785492504343953926634992332820282019728792003956564819968
abbrev PP : Nat := 57896044618658097711785492504343953926634992332820282019728792003956564819949
theorem two256 : 256 ^ 32 = 2 * TT := by decide
/-- 32 bytes without their highest bit -/
def topC (l : List UInt8) : List UInt8 := l.set 31 (l.getD 31 0 &&& 127)
theorem topC_len (l : List UInt8) : (topC l).length = l.length := by simp [topC]
theorem top_split {l : List UInt8} (h : l.length = 32) : ∃ r, r < 256 ^ 31 ∧ leN l = r + (l.getD 31 0).toNat * 256 ^ 31 := by
  have e : l = l.take 31 ++ [l.getD 31 0] := by
    have e1 := List.take_append_drop 31 l
    have d : l.drop 31 = [l.getD 31 0] := by
      rw [List.drop_eq_getElem_cons (by omega), List.drop_eq_nil_of_le (by omega)]
      simp [List.getD, List.getElem?_eq_getElem (show 31 < l.length by omega)]
    rw [← d]; exact e1.symm
  have hl : (l.take 31).length = 31 := by rw [List.length_take]; omega
  refine ⟨leN (l.take 31), by have := leN_lt (l.take 31); rwa [hl] at this, ?_⟩
  have h2 := leN_snoc (l.take 31) (l.getD 31 0)
  rw [← e, hl] at h2
  exact h2
theorem u8_and127 (a : UInt8) : (a &&& 127).toNat = a.toNat % 128 := by
  rw [UInt8.toNat_and, show (127 : UInt8).toNat = 2 ^ 7 - 1 by decide, Nat.and_two_pow_sub_one_eq_mod]
theorem P31 : 256 ^ 31 = 452312848583266388373324160190187140051835877600158453279131187530910662656 := by decide
theorem leN_topC {l : List UInt8} (h : l.length = 32) : leN (topC l) = leN l % TT := by
  obtain ⟨r, hr, e⟩ := top_split h
  have hs := leN_set l 31 (l.getD 31 0 &&& 127) (by omega)
  rw [u8_and127] at hs
  unfold topC
  have := (l.getD 31 0).toNat_lt
  generalize (l.getD 31 0).toNat = a at *
  generalize leN (l.set 31 (l.getD 31 0 &&& 127)) = v at *
  rw [e] at hs ⊢
  rw [P31] at *
  unfold TT
  omega
def feN (l : List UInt8) : Nat := leN l % TT % PP
def canN (l : List UInt8) : Bool := decide (leN l % TT < PP)
theorem feN_lt (l : List UInt8) : feN l < PP := Nat.mod_lt _ (by decide)
theorem PP_lt : PP < 256 ^ 32 := by decide
theorem feN_leB {x : Nat} (h : x < PP) : feN (leB 32 x) = x := by
  unfold feN
  rw [leN_leB 32 x (Nat.lt_trans h PP_lt), Nat.mod_eq_of_lt (show x < TT by unfold PP at h; unfold TT; omega), Nat.mod_eq_of_lt h]
theorem canN_leB {x : Nat} (h : x < PP) : canN (leB 32 x) = true := by
  unfold canN
  rw [leN_leB 32 x (Nat.lt_trans h PP_lt), Nat.mod_eq_of_lt (show x < TT by unfold PP at h; unfold TT; omega)]
  exact decide_eq_true h
/-- what is read and written again is what was there exactly where it is below the prime -/
theorem canN_iff {l : List UInt8} (h : l.length = 32) : decide (leB 32 (feN (topC l)) = topC l) = canN l := by
  have ht := leN_topC h
  have hl := topC_len l
  rw [h] at hl
  have hlt : leN l % TT < TT := Nat.mod_lt _ (by decide)
  have hfe : feN (topC l) = leN l % TT % PP := by unfold feN; rw [ht, Nat.mod_eq_of_lt hlt]
  rw [hfe]
  unfold canN
  by_cases hc : leN l % TT < PP
  · rw [decide_eq_true hc, Nat.mod_eq_of_lt hc, ← ht]
    have := leB_leN (topC l)
    rw [hl] at this
    exact decide_eq_true this
  · rw [decide_eq_false hc]
    apply decide_eq_false
    intro e
    apply hc
    have e2 : leN (topC l) = leN l % TT % PP := by rw [← e]; exact leN_leB 32 _ (Nat.lt_trans (Nat.mod_lt _ (by decide)) PP_lt)
    rw [← ht, e2]
    exact Nat.mod_lt _ (by decide)

/-! Digits of 16 bits out of bytes, and back. -/
def pairL : List UInt8 → List Int
  | a :: b :: l => ((a.toNat : Int) + 256 * (b.toNat : Int)) :: pairL l
  | _ => []
theorem pairL_val : ∀ l : List UInt8, l.length % 2 = 0 → vL (pairL l) = (leN l : Int)
  | [], _ => rfl
  | [a], h => by simp at h
  | a :: b :: l, h => by
    have ih := pairL_val l (by simp at h; omega)
    rw [pairL, vL, ih, leN, leN]
    omega
theorem pairL_len : ∀ l : List UInt8, (pairL l).length = l.length / 2
  | [] => rfl
  | [a] => by simp [pairL]
  | a :: b :: l => by rw [pairL, List.length_cons, pairL_len l, List.length_cons, List.length_cons]; omega
theorem pairL_get : ∀ (l : List UInt8) (i : Nat), 2 * i + 1 < l.length → gI (pairL l) i = ((l.getD (2 * i) 0).toNat : Int) + 256 * ((l.getD (2 * i + 1) 0).toNat : Int)
  | [], i, h => by simp at h
  | [a], i, h => by simp at h
  | a :: b :: l, 0, _ => by simp [pairL, gI_zero]
  | a :: b :: l, i + 1, h => by
    rw [pairL, gI_cons, pairL_get l i (by simp at h; omega), show 2 * (i + 1) = (2 * i + 1) + 1 by omega]
    simp
def digitF (l : List UInt8) (i : Nat) : Int := ((l.getD (2 * i) 0).toNat : Int) + 256 * ((l.getD (2 * i + 1) 0).toNat : Int)
theorem digitF_is {l : List UInt8} (h : l.length = 32) : (List.range 16).map (digitF l) = pairL l := by
  have hl := pairL_len l
  rw [h] at hl
  rw [list16 hl]
  apply List.map_congr_left
  intro i hi
  rw [pairL_get l i (by have := List.mem_range.1 hi; omega)]
  rfl
theorem digitF_bd (l : List UInt8) (i : Nat) : 0 ≤ digitF l i ∧ digitF l i < 65536 := by
  unfold digitF
  have := (l.getD (2 * i) 0).toNat_lt
  have := (l.getD (2 * i + 1) 0).toNat_lt
  omega
/-- the digits of 32 bytes, without the highest bit -/
theorem digits_top {l : List UInt8} (h : l.length = 32) : vL (((List.range 16).map (digitF l)).set 15 (digitF l 15 % 32768)) = ((leN l % TT : Nat) : Int) := by
  rw [vL_set _ _ _ (by simp), gI_range _ _ (by omega), digitF_is h, pairL_val l (by omega)]
  obtain ⟨r, hr, e⟩ := top_split h
  have e15 : (65536 : Int) ^ 15 = P240 := by decide
  rw [e15]
  have hd := top_digit (l := pairL l) (by rw [pairL_len, h]) (fun i hi => by
    have := digitF_bd l i
    rw [← digitF_is h, gI_range _ _ (by omega)]; exact this)
  rw [← digitF_is h, gI_range _ _ (by omega), digitF_is h, pairL_val l (by omega)] at hd
  rw [hd]
  have hlt := leN_lt l
  rw [h] at hlt
  generalize leN l = v at *
  unfold P240 TT at *
  omega
/-- the bytes laid so far: k pairs of them -/
def byteTo (x : Nat) (k : Nat) : List UInt8 := (leB 32 x).take (2 * k) ++ List.replicate (32 - 2 * k) 0
theorem dgN_getN : ∀ n (x i : Nat), i < n → gI (dgN n (x : Int)) i = ((x / 65536 ^ i % 65536 : Nat) : Int)
  | 0, _, _, h => by omega
  | n + 1, x, 0, _ => by rw [dgN, gI_zero]; simp
  | n + 1, x, i + 1, h => by
    rw [dgN, gI_cons, show (x : Int) / 65536 = ((x / 65536 : Nat) : Int) by omega, dgN_getN n (x / 65536) i (by omega), Nat.div_div_eq_div_mul, Nat.pow_succ, Nat.mul_comm (65536 ^ i)]
theorem byteTo_step (x k : Nat) (h : k < 16) : ((byteTo x k).set (2 * k) (UInt8.ofNat (x / 65536 ^ k % 65536 % 256))).set (2 * k + 1) (UInt8.ofNat (x / 65536 ^ k % 65536 / 256)) = byteTo x (k + 1) := by
  have hl := leB_len 32 x
  apply List.ext_getElem
  · simp [byteTo, hl]; omega
  intro i h1 h2
  have hi : i < 32 := by simp [byteTo, hl] at h1; omega
  have g1 := leB_get 32 x i hi
  have gl : (leB 32 x)[i]'(by omega) = UInt8.ofNat (x / 256 ^ i) := by rw [← g1]; simp [List.getD, List.getElem?_eq_getElem (show i < (leB 32 x).length by omega)]
  have p2 : 256 ^ (2 * k) = 65536 ^ k := by rw [Nat.pow_mul]
  rw [List.getElem_set, List.getElem_set]
  by_cases a : 2 * k + 1 = i
  · subst a
    rw [if_pos rfl]
    simp only [byteTo]
    rw [List.getElem_append_left (by rw [List.length_take]; omega), List.getElem_take, gl, Nat.pow_succ, p2, ← Nat.div_div_eq_div_mul]
    generalize x / 65536 ^ k = y
    apply UInt8.toNat_inj.1
    simp
    omega
  · rw [if_neg a]
    by_cases b : 2 * k = i
    · subst b
      rw [if_pos rfl]
      simp only [byteTo]
      rw [List.getElem_append_left (by rw [List.length_take]; omega), List.getElem_take, gl, p2]
      generalize x / 65536 ^ k = y
      apply UInt8.toNat_inj.1
      simp
    · rw [if_neg b]
      simp only [byteTo]
      by_cases c : i < 2 * k
      · rw [List.getElem_append_left (by rw [List.length_take]; omega), List.getElem_append_left (by rw [List.length_take]; omega), List.getElem_take, List.getElem_take]
      · rw [List.getElem_append_right (by rw [List.length_take]; omega), List.getElem_append_right (by rw [List.length_take]; omega)]
        simp
theorem byteTo_zero (x : Nat) : byteTo x 0 = List.replicate 32 0 := by simp [byteTo]
theorem byteTo_end (x : Nat) : byteTo x 16 = leB 32 x := by
  have hl := leB_len 32 x
  unfold byteTo
  rw [List.take_of_length_le (by omega)]
  simp
theorem byteTo_len (x : Nat) (k : Nat) : (byteTo x k).length = 32 := by
  have hl := leB_len 32 x
  simp [byteTo, hl]; omega
end Go.Proofs.Ytlhnjdnkjgnooaa

