/- The contract of the reference's Primes. Numbers by digits of 16 bits, the lowest first. No program is named here. The contracts of the reference's digit and above. The contract of the reference's times. The contract of the reference's root, at 2 and at 3. -/
import Derived.Test.YtfejabfmhddepaaGroo1
namespace Go.Proofs.Ytfejabfmhddepaa
open Go.RowKit
set_option linter.unusedVariables false
set_option maxRecDepth 100000

/-- no number below e, from 2 on, divides y -/
def isPto (y e : Nat) : Bool := (List.range e).all (fun d => Nat.ble d 1 || !(Nat.beq (y % d) 0))
theorem isPto_two (y : Nat) : isPto y 2 = true := rfl
theorem isPto_succ (y e : Nat) (h : 2 ≤ e) : isPto y (e + 1) = (isPto y e && !(Nat.beq (y % e) 0)) := by
  have h1 : Nat.ble e 1 = false := by
    cases hb : Nat.ble e 1
    · rfl
    · rw [Nat.ble_eq] at hb; omega
  unfold isPto
  rw [List.range_succ, List.all_append]
  simp [h1]

def NInt (N : Int) (w : World) (s : Value) (w' : World) : Prop := s = .int .i64 N ∧ w' = w

end Go.Proofs.Ytfejabfmhddepaa

namespace Go.Proofs.Ytfejabfmhddepaa
set_option linter.unusedVariables false
set_option maxRecDepth 100000

/-- the number that the first n digits make -/
def vs (f : Nat → Nat) : Nat → Nat
  | 0 => 0
  | n + 1 => vs f n + f n * 65536 ^ n

def dg (l : List Nat) (j : Nat) : Nat := l.getD j 0
def vl (l : List Nat) : Nat := vs (dg l) l.length

theorem dg_over {l : List Nat} {j : Nat} (h : l.length ≤ j) : dg l j = 0 := by simp [dg, List.getD, List.getElem?_eq_none h]
theorem dg_set {l : List Nat} {k j x : Nat} (hk : k < l.length) : dg (l.set k x) j = if j = k then x else dg l j := by
  unfold dg
  by_cases h : j = k
  · subst h; simp [List.getD, hk]
  · rw [if_neg h]; simp only [List.getD]; rw [List.getElem?_set_ne (fun e => h e.symm)]
theorem dg_rep (n j : Nat) : dg (List.replicate n 0) j = 0 := by
  unfold dg
  simp only [List.getD, List.getElem?_replicate]
  split <;> rfl

theorem vs_congr {f g : Nat → Nat} {n : Nat} (h : ∀ j, j < n → f j = g j) : vs f n = vs g n := by
  induction n with
  | zero => rfl
  | succ n ih => simp only [vs]; rw [ih (fun j hj => h j (by omega)), h n (by omega)]
theorem vs_zero {f : Nat → Nat} {n : Nat} (h : ∀ j, j < n → f j = 0) : vs f n = 0 := by
  induction n with
  | zero => rfl
  | succ n ih => simp only [vs]; rw [ih (fun j hj => h j (by omega)), h n (by omega)]; simp
theorem vs_more {f : Nat → Nat} {n m : Nat} (hnm : n ≤ m) (h : ∀ j, n ≤ j → f j = 0) : vs f m = vs f n := by
  obtain ⟨d, rfl⟩ : ∃ d, m = n + d := ⟨m - n, by omega⟩
  clear hnm
  induction d with
  | zero => rfl
  | succ d ih => rw [show n + (d + 1) = (n + d) + 1 by omega]; simp only [vs]; rw [ih, h (n + d) (by omega)]; simp
theorem vl_vs {l : List Nat} {m : Nat} (h : l.length ≤ m) : vs (dg l) m = vl l := vs_more h fun j hj => dg_over hj

theorem vs_upd {f : Nat → Nat} {n k x : Nat} (hk : k < n) : vs (fun j => if j = k then x else f j) n + f k * 65536 ^ k = vs f n + x * 65536 ^ k := by
  induction n with
  | zero => omega
  | succ n ih =>
    simp only [vs]
    by_cases h : k < n
    · have := ih h
      rw [if_neg (by omega)]
      omega
    · have e : k = n := by omega
      subst e
      rw [if_pos rfl, vs_congr (g := f) (fun j hj => if_neg (by omega))]
      omega
theorem vl_set {l : List Nat} {k x : Nat} (hk : k < l.length) : vl (l.set k x) + dg l k * 65536 ^ k = vl l + x * 65536 ^ k := by
  have h := vs_upd (f := dg l) (x := x) hk
  unfold vl
  rw [List.length_set, vs_congr (f := dg (l.set k x)) (g := fun j => if j = k then x else dg l j) (fun j _ => dg_set hk)]
  exact h

theorem vs_lt {f : Nat → Nat} {n : Nat} (h : ∀ j, j < n → f j < 65536) : vs f n < 65536 ^ n := by
  induction n with
  | zero => simp [vs]
  | succ n ih =>
    have h1 := ih (fun j hj => h j (by omega))
    have h2 := h n (by omega)
    have h3 : f n * 65536 ^ n ≤ 65535 * 65536 ^ n := Nat.mul_le_mul_right _ (by omega)
    simp only [vs]
    rw [Nat.pow_succ]
    omega

/-- the highest digit that parts decides -/
theorem vs_part {f g : Nat → Nat} {n i : Nat} (hi : i < n) (hg : ∀ j, j < n → g j < 65536) (he : ∀ j, i < j → j < n → f j = g j) (h : g i < f i) : vs g n < vs f n := by
  induction n with
  | zero => omega
  | succ n ih =>
    simp only [vs]
    by_cases hin : i < n
    · have := ih hin (fun j hj => hg j (by omega)) (fun j a b => he j a (by omega))
      rw [he n hin (by omega)]
      omega
    · have e : i = n := by omega
      subst e
      have h1 := vs_lt (fun j hj => hg j (Nat.lt_succ_of_lt hj)) (n := i)
      have h2 : (g i + 1) * 65536 ^ i ≤ f i * 65536 ^ i := Nat.mul_le_mul_right _ h
      rw [Nat.add_mul, Nat.one_mul] at h2
      omega

def Dig (l : List Nat) : Prop := ∀ j, dg l j < 65536
theorem Dig.set_ {l : List Nat} (h : Dig l) {k x : Nat} (hx : x < 65536) : Dig (l.set k x) := by
  intro j
  by_cases hk : k < l.length
  · rw [dg_set hk]; split
    · exact hx
    · exact h j
  · rw [List.set_eq_of_length_le (by omega)]; exact h j
theorem Dig.rep (n : Nat) : Dig (List.replicate n 0) := fun j => by rw [dg_rep]; omega

theorem above_at {a b : List Nat} {i n : Nat} (ha : Dig a) (hb : Dig b) (hla : a.length ≤ n) (hlb : b.length ≤ n) (hi : i < n) (he : ∀ j, i < j → dg a j = dg b j) (hne : dg a i ≠ dg b i) :
    decide (vl b < vl a) = decide (dg b i < dg a i) := by
  rw [← vl_vs hla, ← vl_vs hlb]
  rcases Nat.lt_or_gt_of_ne hne with h | h
  · have := vs_part hi (f := dg b) (g := dg a) (fun j _ => ha j) (fun j h1 _ => (he j h1).symm) h
    rw [decide_eq_false (by omega), decide_eq_false (by omega)]
  · have := vs_part hi (f := dg a) (g := dg b) (fun j _ => hb j) (fun j h1 _ => he j h1) h
    rw [decide_eq_true (by omega), decide_eq_true (by omega)]
theorem above_none {a b : List Nat} {n : Nat} (hla : a.length ≤ n) (hlb : b.length ≤ n) (he : ∀ j, dg a j = dg b j) : decide (vl b < vl a) = false := by
  rw [← vl_vs hla, ← vl_vs hlb, vs_congr (g := dg b) (fun j _ => he j)]
  simp

/-! The school method. -/
/-- what has come when i digits of a and, of the next, k of b have been multiplied -/
structure Mid (a b o : List Nat) (i k c : Nat) : Prop where
  len : o.length = a.length + b.length
  dig : Dig o
  high : ∀ j, i + b.length ≤ j → dg o j = 0
  car : c < 65536
  sum : vl o + c * 65536 ^ (i + k) = vs (dg a) i * vl b + dg a i * vs (dg b) k * 65536 ^ i

structure Row (a b o : List Nat) (i : Nat) : Prop where
  len : o.length = a.length + b.length
  dig : Dig o
  high : ∀ j, i + b.length ≤ j → dg o j = 0
  sum : vl o = vs (dg a) i * vl b

theorem row_start (a b : List Nat) : Row a b (List.replicate (a.length + b.length) 0) 0 :=
  ⟨by simp, Dig.rep _, fun j _ => dg_rep _ _, by rw [vl, vs_zero (fun j _ => dg_rep _ _)]; simp [vs]⟩

theorem Row.mid {a b o : List Nat} {i : Nat} (h : Row a b o i) : Mid a b o i 0 0 :=
  ⟨h.len, h.dig, h.high, by omega, by rw [h.sum]; simp [vs]⟩

theorem Mid.step {a b o : List Nat} {i k c : Nat} (h : Mid a b o i k c) (ha : Dig a) (hb : Dig b) (hi : i < a.length) (hk : k < b.length) :
    Mid a b (o.set (i + k) ((c + dg o (i + k) + dg a i * dg b k) % 65536)) i (k + 1) ((c + dg o (i + k) + dg a i * dg b k) / 65536) := by
  have hl : i + k < o.length := by rw [h.len]; omega
  have h1 := h.dig (i + k)
  have h2 := h.car
  have h3 : dg a i * dg b k ≤ 65535 * 65535 := Nat.mul_le_mul (by have := ha i; omega) (by have := hb k; omega)
  have hs := h.sum
  have hu := vl_set (l := o) (x := (c + dg o (i + k) + dg a i * dg b k) % 65536) hl
  refine ⟨by rw [List.length_set]; exact h.len, h.dig.set_ (Nat.mod_lt _ (by omega)), fun j hj => ?_, by omega, ?_⟩
  · rw [dg_set hl, if_neg (by omega)]; exact h.high j hj
  · generalize vl (o.set (i + k) ((c + dg o (i + k) + dg a i * dg b k) % 65536)) = V at *
    simp only [vs]
    rw [show i + (k + 1) = (i + k) + 1 by omega, Nat.pow_succ]
    have e1 : dg a i * (vs (dg b) k + dg b k * 65536 ^ k) * 65536 ^ i = dg a i * vs (dg b) k * 65536 ^ i + (dg a i * dg b k) * 65536 ^ (i + k) := by
      rw [Nat.pow_add]; grind
    rw [e1]
    generalize dg a i * dg b k = t at *
    generalize dg o (i + k) = d at *
    generalize 65536 ^ (i + k) = P at *
    generalize dg a i * vs (dg b) k * 65536 ^ i = X at *
    generalize vs (dg a) i * vl b = Y at *
    have e2 : (c + d + t) / 65536 * (P * 65536) + (c + d + t) % 65536 * P = c * P + d * P + t * P := by
      have := Nat.div_add_mod (c + d + t) 65536
      have e3 : (c + d + t) * P = c * P + d * P + t * P := by rw [Nat.add_mul, Nat.add_mul]
      rw [← e3]
      rw [show (c + d + t) / 65536 * (P * 65536) = (65536 * ((c + d + t) / 65536)) * P by grind, ← Nat.add_mul, this]
    omega

theorem Mid.close {a b o : List Nat} {i c : Nat} (h : Mid a b o i b.length c) (hi : i < a.length) : Row a b (o.set (i + b.length) c) (i + 1) := by
  have hl : i + b.length < o.length := by rw [h.len]; omega
  have h0 := h.high (i + b.length) (Nat.le_refl _)
  have hu := vl_set (l := o) (x := c) hl
  rw [h0] at hu
  refine ⟨by rw [List.length_set]; exact h.len, h.dig.set_ h.car, fun j hj => ?_, ?_⟩
  · rw [dg_set hl, if_neg (by omega)]; exact h.high j (by omega)
  · have hs := h.sum
    rw [vl_vs (Nat.le_refl _)] at hs
    simp only [vs]
    have e : (vs (dg a) i + dg a i * 65536 ^ i) * vl b = vs (dg a) i * vl b + dg a i * vl b * 65536 ^ i := by grind
    rw [e]
    omega

theorem Row.end_ {a b o : List Nat} (h : Row a b o a.length) : vl o = vl a * vl b := by
  rw [h.sum, vl_vs (Nat.le_refl _)]

/-! The root's own digits. -/
/-- when j bits are still to be asked: the digits' low bits are blank -/
def Low (y : List Nat) (j : Nat) : Prop := y.length = 5 ∧ Dig y ∧ ∀ d, 2 ^ (min 16 (j - 16 * d)) ∣ dg y d

theorem low_start : Low (List.replicate 5 0) 80 := ⟨by simp, Dig.rep _, fun d => by rw [dg_rep]; exact Nat.dvd_zero _⟩

theorem low_digit {y : List Nat} {i : Nat} (h : Low y (i + 1)) : dg y (i / 16) + 2 ^ (i % 16) < 65536 := by
  have h1 := h.2.2 (i / 16)
  have e : min 16 (i + 1 - 16 * (i / 16)) = i % 16 + 1 := by omega
  rw [e] at h1
  obtain ⟨q, hq⟩ := h1
  have h2 := h.2.1 (i / 16)
  have hs : i % 16 < 16 := Nat.mod_lt _ (by omega)
  have hp : 2 ^ (i % 16 + 1) * 2 ^ (15 - i % 16) = 65536 := by rw [← Nat.pow_add, show i % 16 + 1 + (15 - i % 16) = 16 by omega]
  have h3 : 2 ^ (i % 16) < 2 ^ (i % 16 + 1) := Nat.pow_lt_pow_right (by omega) (by omega)
  have h4 : q < 2 ^ (15 - i % 16) := by
    rcases Nat.lt_or_ge q (2 ^ (15 - i % 16)) with g | g
    · exact g
    · have := Nat.mul_le_mul_left (2 ^ (i % 16 + 1)) g
      omega
  have h5 : 2 ^ (i % 16 + 1) * (q + 1) ≤ 2 ^ (i % 16 + 1) * 2 ^ (15 - i % 16) := Nat.mul_le_mul_left _ h4
  rw [Nat.mul_add, hp, ← hq] at h5
  omega

theorem low_keep {y : List Nat} {i : Nat} (h : Low y (i + 1)) : Low y i := ⟨h.1, h.2.1, fun d => Nat.dvd_trans (Nat.pow_dvd_pow 2 (by omega)) (h.2.2 d)⟩

theorem low_set {y : List Nat} {i : Nat} (h : Low y (i + 1)) (hi : i < 80) : Low (y.set (i / 16) (dg y (i / 16) + 2 ^ (i % 16))) i ∧ vl (y.set (i / 16) (dg y (i / 16) + 2 ^ (i % 16))) = vl y + 2 ^ i := by
  have hl : i / 16 < y.length := by rw [h.1]; omega
  refine ⟨⟨by rw [List.length_set]; exact h.1, h.2.1.set_ (low_digit h), fun d => ?_⟩, ?_⟩
  · rw [dg_set hl]
    split
    · rename_i e
      subst e
      have e : min 16 (i - 16 * (i / 16)) = i % 16 := by omega
      rw [e]
      have h1 := h.2.2 (i / 16)
      have e2 : min 16 (i + 1 - 16 * (i / 16)) = i % 16 + 1 := by omega
      rw [e2] at h1
      exact Nat.dvd_add (Nat.dvd_trans (Nat.pow_dvd_pow 2 (by omega)) h1) (Nat.dvd_refl _)
    · exact (low_keep h).2.2 d
  · have := vl_set (l := y) (x := dg y (i / 16) + 2 ^ (i % 16)) hl
    rw [Nat.add_mul] at this
    have e : 2 ^ (i % 16) * 65536 ^ (i / 16) = 2 ^ i := by
      rw [show (65536 : Nat) = 2 ^ 16 from rfl, ← Nat.pow_mul, ← Nat.pow_add]
      congr 1
      omega
    omega

theorem vl_5 {y : List Nat} (h : y.length = 5) : vl y = dg y 0 + dg y 1 * 65536 + dg y 2 * 4294967296 + dg y 3 * 281474976710656 + dg y 4 * 18446744073709551616 := by
  unfold vl
  rw [h]
  simp [vs]

/-- p times 2^(64 n), by digits -/
def goalL (c : Bool) (p : Nat) : List Nat := List.replicate (if c then 12 else 8) 0 ++ [p % 65536, p / 65536]
theorem dg_append (l m : List Nat) (j : Nat) : dg (l ++ m) j = if j < l.length then dg l j else dg m (j - l.length) := by
  unfold dg
  simp only [List.getD]
  rw [List.getElem?_append]
  split <;> rfl
theorem Dig.append {l m : List Nat} (hl : Dig l) (hm : Dig m) : Dig (l ++ m) := by
  intro j
  rw [dg_append]
  split
  · exact hl j
  · exact hm _
theorem Dig.two {x y : Nat} (hx : x < 65536) (hy : y < 65536) : Dig [x, y] := by
  intro k
  rcases k with _ | _ | k
  · exact hx
  · exact hy
  · simp [dg, List.getD]
theorem goalL_dig (c : Bool) {p : Nat} (hp : p < 4294967296) : Dig (goalL c p) :=
  (Dig.rep _).append (Dig.two (Nat.mod_lt _ (by omega)) (by omega))
theorem goalL_val (c : Bool) (p : Nat) : vl (goalL c p) = p * sc c := by
  cases c <;> simp [vl, goalL, vs, dg, sc, List.getD] <;> omega
end Go.Proofs.Ytfejabfmhddepaa

namespace Go.Proofs.Ytfejabfmhddepaa
open Go.RowKit
set_option linter.unusedVariables false
set_option maxRecDepth 100000

def NIsW (n : Nat) (w : World) (s : Value) (w' : World) : Prop := s = .int .i64 (n : Int) ∧ w' = w

end Go.Proofs.Ytfejabfmhddepaa

namespace Go.Proofs.Ytfejabfmhddepaa
open Go.RowKit
set_option linter.unusedVariables false
set_option maxRecDepth 100000

theorem and16 (t : Nat) (h : t < 18446744073709551616) : bits .and .u64 (t : Int) 65535 = ((t % 65536 : Nat) : Int) := by
  have := u64_and_nat t 65535 h (by omega)
  rw [show t &&& 65535 = t % 65536 from Nat.and_two_pow_sub_one_eq_mod t 16] at this
  exact this

def TimesPost (w : World) (n v : Nat) (e : Ending) (w' : World) : Prop :=
  ∃ A c o, e = .returned (.slice A n c) ∧ Us w' A o ∧ o.length = n ∧ Dig o ∧ vl o = v ∧ Below w.heap.size w w'

end Go.Proofs.Ytfejabfmhddepaa

namespace Go.Proofs.Ytfejabfmhddepaa
open Go.RowKit
set_option linter.unusedVariables false
set_option maxRecDepth 100000

theorem us_lit2 (w : World) (E : TypeId) (x y : Nat) : Us (w.alloc (.cells #[.int .u64 (x : Int), .int .u64 (y : Int)] E)) (some ⟨w.heap.size, 0, none⟩) [x, y] := fun _ =>
  ⟨_, _, rfl, fun j hj => by
    have hj2 : j < 2 := by simpa using hj
    have := heap_alloc_new w (.cells #[.int .u64 (x : Int), .int .u64 (y : Int)] E)
    rw [cell_of_row _ _ _ _ _ _ this]
    rcases j with _ | _ | j
    · rfl
    · rfl
    · omega⟩

end Go.Proofs.Ytfejabfmhddepaa

