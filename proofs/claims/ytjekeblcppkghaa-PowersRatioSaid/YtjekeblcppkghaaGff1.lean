/- Numbers by sixteen digits of 16 bits, plainly: carries, the fold at 2^255, norm. No program is named here. Rows of integers in memory; two of them compared. The contracts of the reference's prime, below, norm. Written by wip/tools/mk_norm9.py. The contract of the reference's norm. Written by wip/tools/mk_norm9.py. The contracts of the reference's norm (by its number), Add, Sub, Neg, Odd. -/
import Derived.Test.YtjekeblcppkghaaGbase
import Derived.Laws.StructEq
import Derived.StillTailTactics
import Derived.Laws.BitsLemmas
namespace Go.Proofs.Ytjekeblcppkghaa
set_option linter.unusedVariables false
set_option maxRecDepth 100000

def vL : List Int → Int
  | [] => 0
  | a :: l => a + 65536 * vL l
def gI (l : List Int) (i : Nat) : Int := l.getD i 0
theorem gI_cons (a : Int) (l : List Int) (i : Nat) : gI (a :: l) (i + 1) = gI l i := rfl
theorem gI_zero (a : Int) (l : List Int) : gI (a :: l) 0 = a := rfl
theorem gI_set (l : List Int) (i j : Nat) (x : Int) (hi : i < l.length) : gI (l.set i x) j = if i = j then x else gI l j := by
  unfold gI
  simp only [List.getD, List.getElem?_set]
  by_cases h : i = j
  · subst h; simp [hi]
  · simp [h]
theorem vL_set : ∀ (l : List Int) (i : Nat) (x : Int), i < l.length → vL (l.set i x) = vL l + (x - gI l i) * 65536 ^ i
  | [], i, x, h => by simp at h
  | a :: l, 0, x, _ => by simp [vL, gI_zero]; omega
  | a :: l, i + 1, x, h => by
    have ih := vL_set l i x (by simpa using h)
    rw [List.set_cons_succ, vL, vL, ih, gI_cons, Int.pow_succ, ← Int.mul_assoc, Int.mul_comm _ (65536 : Int)]
    generalize (x - gI l i) * 65536 ^ i = q
    omega
/-- one carry -/
def cstep (l : List Int) (i : Nat) : List Int := (l.set (i + 1) (gI l (i + 1) + gI l i / 65536)).set i (gI l i % 65536)
def carryTo (l : List Int) : Nat → List Int
  | 0 => l
  | k + 1 => cstep (carryTo l k) k
theorem cstep_len (l : List Int) (i : Nat) : (cstep l i).length = l.length := by simp [cstep]
theorem carryTo_len (l : List Int) : ∀ k, (carryTo l k).length = l.length
  | 0 => rfl
  | k + 1 => by rw [carryTo, cstep_len, carryTo_len l k]
theorem cstep_get (l : List Int) (i j : Nat) (h : i + 1 < l.length) : gI (cstep l i) j = if j = i then gI l i % 65536 else if j = i + 1 then gI l (i + 1) + gI l i / 65536 else gI l j := by
  unfold cstep
  rw [gI_set _ _ _ _ (by simp; omega), gI_set _ _ _ _ h]
  by_cases h1 : i = j
  · subst h1; simp
  · have h1' : ¬ j = i := fun e => h1 e.symm
    by_cases h2 : i + 1 = j
    · subst h2; simp
    · have h2' : ¬ j = i + 1 := fun e => h2 e.symm
      simp only [h1, h1', h2, h2', if_false]
theorem cstep_val (l : List Int) (i : Nat) (h : i + 1 < l.length) : vL (cstep l i) = vL l := by
  unfold cstep
  rw [vL_set _ _ _ (by simp; omega), vL_set _ _ _ h, gI_set _ _ _ _ h, if_neg (by omega), Int.pow_succ]
  have e : gI l i = 65536 * (gI l i / 65536) + gI l i % 65536 := by omega
  generalize gI l i / 65536 = q at *
  generalize gI l i % 65536 = r at *
  rw [e]
  generalize (65536 : Int) ^ i = p
  grind
theorem carryTo_val (l : List Int) : ∀ k, k < l.length → vL (carryTo l k) = vL l
  | 0, _ => rfl
  | k + 1, h => by rw [carryTo, cstep_val _ _ (by rw [carryTo_len]; omega), carryTo_val l k (by omega)]
def Bd (B : Int) (l : List Int) : Prop := ∀ i, -B ≤ gI l i ∧ gI l i ≤ B
structure CarrySt (B : Int) (l m : List Int) (k : Nat) : Prop where
  low : ∀ j, j < k → 0 ≤ gI m j ∧ gI m j < 65536
  at_ : -(2 * B) ≤ gI m k ∧ gI m k ≤ 2 * B
  high : ∀ j, k < j → gI m j = gI l j
theorem carry_st {B : Int} {l : List Int} (hB : 2 ≤ B) (hb : Bd B l) : ∀ k, k < l.length → CarrySt B l (carryTo l k) k
  | 0, _ => ⟨fun j h => by omega, by have := hb 0; show -(2 * B) ≤ gI l 0 ∧ gI l 0 ≤ 2 * B; omega, fun j _ => rfl⟩
  | k + 1, h => by
    have ih := carry_st hB hb k (by omega)
    have hk := cstep_get (carryTo l k) k
    have hlen : k + 1 < (carryTo l k).length := by rw [carryTo_len]; exact h
    refine ⟨fun j hj => ?_, ?_, fun j hj => ?_⟩
    · rw [carryTo, hk j hlen]
      by_cases e : j = k
      · rw [if_pos e]; omega
      · rw [if_neg e, if_neg (by omega)]; exact ih.low j (by omega)
    · rw [carryTo, hk (k + 1) hlen, if_neg (by omega), if_pos rfl, ih.high (k + 1) (by omega)]
      have := hb (k + 1)
      have := ih.at_
      omega
    · rw [carryTo, hk j hlen, if_neg (by omega), if_neg (by omega)]; exact ih.high j (by omega)

/-! Digits that are digits. -/
def Pr (l : List Int) : Prop := ∀ i, 0 ≤ gI l i ∧ gI l i < 65536
theorem vL_bound : ∀ l : List Int, (∀ i, i < l.length → 0 ≤ gI l i ∧ gI l i < 65536) → 0 ≤ vL l ∧ vL l < 65536 ^ l.length
  | [], _ => by simp [vL]
  | a :: l, h => by
    have h0 := h 0 (by simp)
    have ih := vL_bound l (fun i hi => h (i + 1) (by simp; omega))
    rw [gI_zero] at h0
    rw [vL, List.length_cons, Int.pow_succ]
    generalize (65536 : Int) ^ l.length = p at *
    omega
def dgN (n : Nat) (v : Int) : List Int := match n with
  | 0 => []
  | n + 1 => v % 65536 :: dgN n (v / 65536)
theorem dgN_len : ∀ n v, (dgN n v).length = n
  | 0, _ => rfl
  | n + 1, v => by simp [dgN, dgN_len n]
theorem dg_unique : ∀ l : List Int, (∀ i, i < l.length → 0 ≤ gI l i ∧ gI l i < 65536) → l = dgN l.length (vL l)
  | [], _ => rfl
  | a :: l, h => by
    have h0 := h 0 (by simp)
    rw [gI_zero] at h0
    have ih := dg_unique l (fun i hi => h (i + 1) (by simp; omega))
    have e1 : (a + 65536 * vL l) % 65536 = a := by omega
    have e2 : (a + 65536 * vL l) / 65536 = vL l := by omega
    rw [List.length_cons, dgN, vL, e1, e2, ← ih]
theorem vL_dgN : ∀ n (v : Int), 0 ≤ v → v < 65536 ^ n → vL (dgN n v) = v
  | 0, v, h0, h1 => by simp at h1; show (0 : Int) = v; omega
  | n + 1, v, h0, h1 => by
    rw [Int.pow_succ] at h1
    have ih := vL_dgN n (v / 65536) (by omega) (by generalize (65536 : Int) ^ n = p at *; omega)
    rw [dgN, vL, ih]
    omega
theorem dgN_get : ∀ n (v : Int) i, i < n → 0 ≤ gI (dgN n v) i ∧ gI (dgN n v) i < 65536
  | 0, _, _, h => by omega
  | n + 1, v, 0, _ => by rw [dgN, gI_zero]; omega
  | n + 1, v, i + 1, h => by rw [dgN, gI_cons]; exact dgN_get n _ i (by omega)
theorem vL_split (l : List Int) (a : Int) : vL (l ++ [a]) = vL l + a * 65536 ^ l.length := by
  induction l with
  | nil => simp [vL]
  | cons b l ih =>
    rw [List.cons_append, vL, vL, ih, List.length_cons, Int.pow_succ, ← Int.mul_assoc, Int.mul_comm _ (65536 : Int)]
    generalize a * 65536 ^ l.length = q
    omega
theorem split16 {l : List Int} (h : l.length = 16) : ∃ m, l = m ++ [gI l 15] ∧ m.length = 15 ∧ ∀ i, i < 15 → gI m i = gI l i := by
  refine ⟨l.take 15, ?_, by rw [List.length_take, h]; rfl, fun i hi => ?_⟩
  · have e := List.take_append_drop 15 l
    have d : l.drop 15 = [gI l 15] := by
      rw [List.drop_eq_getElem_cons (by omega), List.drop_eq_nil_of_le (by omega)]
      simp [gI, List.getD, List.getElem?_eq_getElem (show 15 < l.length by omega)]
    rw [← d]; exact e.symm
  · unfold gI
    simp [List.getD, hi]
abbrev P255 : Int := 57896044618658097711785492504343953926634992332820282019728792003956564819968
abbrev P240 : Int := 1766847064778384329583297500742918515827483896875618958121606201292619776
abbrev pP : Int := 57896044618658097711785492504343953926634992332820282019728792003956564819949
/-- the highest digit, where the others are digits -/
theorem top_digit {l : List Int} (h : l.length = 16) (hp : ∀ i, i < 15 → 0 ≤ gI l i ∧ gI l i < 65536) : gI l 15 = vL l / P240 := by
  obtain ⟨m, e, hm, hg⟩ := split16 h
  have hv := vL_split m (gI l 15)
  rw [← e, hm] at hv
  have hb := vL_bound m (fun i hi => by rw [hg i (by omega)]; exact hp i (by omega))
  rw [hm] at hb
  have e15 : (65536 : Int) ^ 15 = P240 := by decide
  rw [e15] at hv hb
  generalize gI l 15 = t at *
  generalize vL l = v at *
  generalize vL m = u at *
  unfold P240 at *
  omega

/-- what lies above 2^255 comes in below -/
def foldL (l : List Int) : List Int := (l.set 0 (gI l 0 + 19 * (gI l 15 / 32768))).set 15 (gI l 15 % 32768)
theorem foldL_len (l : List Int) : (foldL l).length = l.length := by simp [foldL]
theorem foldL_get {l : List Int} (h : l.length = 16) (j : Nat) : gI (foldL l) j = if j = 15 then gI l 15 % 32768 else if j = 0 then gI l 0 + 19 * (gI l 15 / 32768) else gI l j := by
  unfold foldL
  rw [gI_set _ _ _ _ (by simp; omega), gI_set _ _ _ _ (by omega)]
  by_cases h1 : 15 = j
  · subst h1; simp
  · have h1' : ¬ j = 15 := fun e => h1 e.symm
    by_cases h2 : 0 = j
    · subst h2; simp
    · have h2' : ¬ j = 0 := fun e => h2 e.symm
      simp only [h1, h1', h2, h2', if_false]
theorem foldL_val {l : List Int} (h : l.length = 16) : vL (foldL l) = vL l - gI l 15 / 32768 * pP := by
  unfold foldL
  rw [vL_set _ _ _ (by simp; omega), vL_set _ _ _ (by omega), gI_set _ _ _ _ (by omega), if_neg (by omega)]
  have e15 : (65536 : Int) ^ 15 = P240 := by decide
  rw [e15, Int.pow_zero]
  generalize gI l 15 = t
  generalize gI l 0 = z
  generalize vL l = v
  unfold P240 pP
  omega
def passL (l : List Int) : List Int := foldL (carryTo l 15)
def fV (v : Int) : Int := v % P255 + 19 * (v / P255)
theorem pass_val {B : Int} {l : List Int} (hB : 2 ≤ B) (hb : Bd B l) (h : l.length = 16) : vL (passL l) = fV (vL l) := by
  have hc := carry_st hB hb 15 (by omega)
  have hl : (carryTo l 15).length = 16 := by rw [carryTo_len, h]
  have ht := top_digit hl hc.low
  have hv := carryTo_val l 15 (by omega)
  unfold passL fV
  rw [foldL_val hl, ht, hv]
  generalize vL l = v
  unfold P240 pP P255
  omega
theorem pass_len {l : List Int} (h : l.length = 16) : (passL l).length = 16 := by rw [passL, foldL_len, carryTo_len, h]
theorem pass_bd {B : Int} {l : List Int} (hB : 70368744177664 = B) (hb : Bd B l) (h : l.length = 16) : Bd B (passL l) := by
  have hc := carry_st (by omega) hb 15 (by omega)
  have hl : (carryTo l 15).length = 16 := by rw [carryTo_len, h]
  intro i
  rw [passL, foldL_get hl]
  by_cases h15 : i = 15
  · rw [if_pos h15]; omega
  · rw [if_neg h15]
    by_cases h0 : i = 0
    · rw [if_pos h0]
      have := hc.at_
      have := hc.low 0 (by omega)
      omega
    · rw [if_neg h0]
      by_cases hi : i < 15
      · have := hc.low i hi; omega
      · rw [hc.high i (by omega)]; exact hb i
def passN (l : List Int) : Nat → List Int
  | 0 => l
  | k + 1 => passL (passN l k)
theorem passN_ok {B : Int} {l : List Int} (hB : 70368744177664 = B) (hb : Bd B l) (h : l.length = 16) : ∀ k, (passN l k).length = 16 ∧ Bd B (passN l k)
  | 0 => ⟨h, hb⟩
  | k + 1 => by
    have ih := passN_ok hB hb h k
    exact ⟨pass_len ih.1, pass_bd hB ih.2 ih.1⟩
theorem passN_val {B : Int} {l : List Int} (hB : 70368744177664 = B) (hb : Bd B l) (h : l.length = 16) (k : Nat) : vL (passN l (k + 1)) = fV (vL (passN l k)) := by
  have ih := passN_ok hB hb h k
  exact pass_val (by omega) ih.2 ih.1
theorem fV_four (v : Int) (h1 : -(8 * P255) ≤ v) (h2 : v ≤ 35184372088832 * P255) : 0 ≤ fV (fV (fV (fV v))) ∧ fV (fV (fV (fV v))) < P255 ∧ fV (fV (fV (fV v))) % pP = v % pP := by
  have a1 : fV v % pP = v % pP ∧ -200 ≤ fV v ∧ fV v ≤ P255 + 668503069687808 := by unfold fV pP P255 at *; omega
  generalize fV v = x at *
  have a2 : fV x % pP = x % pP ∧ 0 ≤ fV x ∧ fV x < P255 := by unfold fV pP P255 at *; omega
  generalize fV x = y at *
  have a3 : fV y = y := by unfold fV pP P255 at *; omega
  rw [a3, a3]
  omega
def primeL : List Int := [65517, 65535, 65535, 65535, 65535, 65535, 65535, 65535, 65535, 65535, 65535, 65535, 65535, 65535, 65535, 32767]
theorem primeL_val : vL primeL = pP := by decide
theorem primeL_pr : ∀ i, i < 16 → 0 ≤ gI primeL i ∧ gI primeL i < 65536 := by decide
/-- digit by digit: k of them turned -/
def opTo (f : Nat → Int) (a : List Int) (k : Nat) : List Int := (List.range 16).map fun i => if i < k then f i else gI a i
theorem opTo_len (f a k) : (opTo f a k).length = 16 := by simp [opTo]
theorem opTo_get (f : Nat → Int) (a : List Int) (k i : Nat) (h : i < 16) : gI (opTo f a k) i = if i < k then f i else gI a i := by
  simp [opTo, gI, List.getD, h]
theorem list16 {l : List Int} (h : l.length = 16) : l = (List.range 16).map fun i => gI l i := by
  apply List.ext_getElem (by simp [h])
  intro i h1 h2
  simp [gI, List.getD, List.getElem?_eq_getElem h1]
theorem opTo_zero (f : Nat → Int) {a : List Int} (h : a.length = 16) : opTo f a 0 = a := by
  have e := list16 h
  unfold opTo
  simp only [Nat.not_lt_zero, if_false]
  exact e.symm
theorem opTo_set (f : Nat → Int) (a : List Int) {k : Nat} (h : k < 16) : (opTo f a k).set k (f k) = opTo f a (k + 1) := by
  apply List.ext_getElem (by simp [opTo])
  intro i h1 h2
  rw [List.getElem_set]
  by_cases e : k = i
  · subst e; simp [opTo]
  · rw [if_neg e]
    simp only [opTo, List.getElem_map, List.getElem_range]
    by_cases g : i < k
    · rw [if_pos g, if_pos (by omega)]
    · rw [if_neg g, if_neg (by omega)]
theorem opTo_end (f : Nat → Int) (a : List Int) : opTo f a 16 = (List.range 16).map f := by
  unfold opTo
  apply List.map_congr_left
  intro i hi
  rw [if_pos (List.mem_range.1 hi)]
theorem vL_add (f g : Nat → Int) : ∀ l : List Nat, vL (l.map fun i => f i + g i) = vL (l.map f) + vL (l.map g)
  | [] => rfl
  | a :: l => by
    have ih := vL_add f g l
    rw [List.map_cons, List.map_cons, List.map_cons, vL, vL, vL, ih]; omega
theorem vL_mulc (c : Int) (f : Nat → Int) : ∀ l : List Nat, vL (l.map fun i => c * f i) = c * vL (l.map f)
  | [] => by simp [vL]
  | a :: l => by
    have ih := vL_mulc c f l
    rw [List.map_cons, List.map_cons, vL, vL, ih, Int.mul_add, ← Int.mul_assoc, ← Int.mul_assoc, Int.mul_comm c 65536]
theorem vL16 {l : List Int} (h : l.length = 16) : vL ((List.range 16).map fun i => gI l i) = vL l := by rw [← list16 h]
theorem gI_range (f : Nat → Int) (i : Nat) (h : i < 16) : gI ((List.range 16).map f) i = f i := by simp [gI, List.getD, h]
theorem gI_out {l : List Int} {i : Nat} (h : l.length ≤ i) : gI l i = 0 := by simp [gI, List.getD, List.getElem?_eq_none h]
def subL (a b : List Int) : List Int := (List.range 16).map fun i => gI a i - gI b i
theorem subL_val {a b : List Int} (ha : a.length = 16) (hb : b.length = 16) : vL (subL a b) = vL a - vL b := by
  have h := vL_add (fun i => gI a i) (fun i => (-1) * gI b i) (List.range 16)
  rw [vL_mulc, vL16 ha, vL16 hb] at h
  unfold subL
  rw [show (fun i => gI a i - gI b i) = fun i => gI a i + (-1) * gI b i from funext fun i => by omega, h]
  omega
def fin4 (l : List Int) : List Int := carryTo (passN l 4) 15
def normL (l : List Int) : List Int := if vL (fin4 l) < pP then fin4 l else carryTo (subL (fin4 l) primeL) 15
theorem Bd.mono {B B' : Int} {l : List Int} (h : Bd B l) (hB : B ≤ B') : Bd B' l := fun i => by have := h i; omega
/-- digits whose sum lies between 0 and 2^256 come to be digits -/
theorem carry_all {B : Int} {l : List Int} (hB : 2 ≤ B) (hb : Bd B l) (h : l.length = 16) (h0 : 0 ≤ vL l) (h1 : vL l < 2 * P255) : carryTo l 15 = dgN 16 (vL l) := by
  have hc := carry_st hB hb 15 (by omega)
  have hl : (carryTo l 15).length = 16 := by rw [carryTo_len, h]
  have ht := top_digit hl hc.low
  have hv := carryTo_val l 15 (by omega)
  have hd := dg_unique (carryTo l 15) (fun i hi => by
    rw [hl] at hi
    by_cases e : i < 15
    · exact hc.low i e
    · have : i = 15 := by omega
      subst this
      rw [ht, hv]
      generalize vL l = v at *
      unfold P240 P255 at *
      omega)
  rw [hl, hv] at hd
  exact hd
theorem fin4_val {B : Int} {l : List Int} (hB : 70368744177664 = B) (hb : Bd B l) (h : l.length = 16) : vL (passN l 4) = fV (fV (fV (fV (vL l)))) := by
  rw [passN_val hB hb h, passN_val hB hb h, passN_val hB hb h, passN_val hB hb h]
  rfl
theorem fin4_is {B : Int} {l : List Int} (hB : 70368744177664 = B) (hb : Bd B l) (h : l.length = 16) (h1 : -(8 * P255) ≤ vL l) (h2 : vL l ≤ 35184372088832 * P255) :
    ∃ v, fin4 l = dgN 16 v ∧ vL (fin4 l) = v ∧ 0 ≤ v ∧ v < P255 ∧ v % pP = vL l % pP := by
  have hv := fin4_val hB hb h
  obtain ⟨a1, a2, a3⟩ := fV_four (vL l) h1 h2
  rw [← hv] at a1 a2 a3
  obtain ⟨hlen, hbd⟩ := passN_ok hB hb h 4
  have e := carry_all (by omega) hbd hlen a1 (by unfold P255 at *; omega)
  have e2 := carryTo_val (passN l 4) 15 (by omega)
  exact ⟨_, e, e2, a1, a2, a3⟩
theorem norm_is {B : Int} {l : List Int} (hB : 70368744177664 = B) (hb : Bd B l) (h : l.length = 16) (h1 : -(8 * P255) ≤ vL l) (h2 : vL l ≤ 35184372088832 * P255) : normL l = dgN 16 (vL l % pP) := by
  obtain ⟨v, e, ev, v0, vP, vm⟩ := fin4_is hB hb h h1 h2
  unfold normL
  rw [ev]
  by_cases hlt : v < pP
  · have hx : vL l % pP = v := by
      rw [← vm]
      exact Int.emod_eq_of_lt v0 hlt
    rw [if_pos hlt, e, hx]
  · rw [if_neg hlt]
    have hl : (fin4 l).length = 16 := by rw [e, dgN_len]
    have hs : vL (subL (fin4 l) primeL) = v - pP := by rw [subL_val hl rfl, ev, primeL_val]
    have hbs : Bd 131072 (subL (fin4 l) primeL) := fun i => by
      by_cases hi : i < 16
      · rw [subL, gI_range _ _ hi, e]
        have := dgN_get 16 v i hi
        have hp := primeL_pr i hi
        omega
      · rw [gI_out (by simp [subL]; omega)]; omega
    rw [carry_all (B := 131072) (by omega) hbs (by simp [subL]) (by rw [hs]; omega) (by rw [hs]; unfold P255 pP at *; omega), hs]
    have hx : vL l % pP = v - pP := by
      rw [← vm]
      unfold pP P255 at *
      omega
    rw [hx]
/-- which of two is below, from the top -/
theorem below_at {a b : List Int} (ha : a.length = 16) (hb : b.length = 16) (pa : ∀ i, i < 16 → 0 ≤ gI a i ∧ gI a i < 65536) (pb : ∀ i, i < 16 → 0 ≤ gI b i ∧ gI b i < 65536) (k : Nat) (hk : k < 16) (hs : ∀ j, k < j → j < 16 → gI a j = gI b j) (hne : gI a k ≠ gI b k) : (vL a < vL b) ↔ gI a k < gI b k := by
  have key : ∀ (n : Nat) (a b : List Int), a.length = n → b.length = n → (∀ i, i < n → 0 ≤ gI a i ∧ gI a i < 65536) → (∀ i, i < n → 0 ≤ gI b i ∧ gI b i < 65536) → ∀ k, k < n → (∀ j, k < j → j < n → gI a j = gI b j) → gI a k ≠ gI b k → ((vL a < vL b) ↔ gI a k < gI b k) := by
    intro n
    induction n with
    | zero => intro a b _ _ _ _ k hk; omega
    | succ n ih =>
      intro a b ha hb pa pb k hk hs hne
      match a, b, ha, hb with
      | x :: a, y :: b, ha, hb =>
        have hx := pa 0 (by omega)
        have hy := pb 0 (by omega)
        rw [gI_zero] at hx hy
        rw [vL, vL]
        match k with
        | 0 =>
          have e : a = b := by
            apply List.ext_getElem (by simp at ha hb; omega)
            intro i h1 h2
            have := hs (i + 1) (by omega) (by simp at ha; omega)
            rw [gI_cons, gI_cons] at this
            simpa [gI, List.getD, List.getElem?_eq_getElem h1, List.getElem?_eq_getElem h2] using this
          rw [e, gI_zero, gI_zero]
          omega
        | k + 1 =>
          rw [gI_cons, gI_cons] at hne ⊢
          have h := ih a b (by simpa using ha) (by simpa using hb) (fun i hi => by have := pa (i + 1) (by omega); rwa [gI_cons] at this) (fun i hi => by have := pb (i + 1) (by omega); rwa [gI_cons] at this) k (by omega)
            (fun j h1 h2 => by have := hs (j + 1) (by omega) (by omega); rwa [gI_cons, gI_cons] at this) hne
          have hne2 : vL a ≠ vL b := by
            intro e
            have h' := ih b a (by simpa using hb) (by simpa using ha) (fun i hi => by have := pb (i + 1) (by omega); rwa [gI_cons] at this) (fun i hi => by have := pa (i + 1) (by omega); rwa [gI_cons] at this) k (by omega)
              (fun j h1 h2 => by have := hs (j + 1) (by omega) (by omega); rw [gI_cons, gI_cons] at this; exact this.symm) (fun e => hne e.symm)
            omega
          rw [← h]
          omega
  exact key 16 a b ha hb pa pb k hk hs hne
theorem below_same {a b : List Int} (ha : a.length = 16) (hb : b.length = 16) (hs : ∀ j, j < 16 → gI a j = gI b j) : a = b := by
  rw [list16 ha, list16 hb]
  apply List.map_congr_left
  intro i hi
  exact hs i (List.mem_range.1 hi)
end Go.Proofs.Ytjekeblcppkghaa

namespace Go.Proofs.Ytjekeblcppkghaa
open Go.RowKit
set_option linter.unusedVariables false
set_option maxRecDepth 100000

def tabI (l : List Int) : Array Value := (l.map fun x => Value.int .i64 x).toArray
theorem tabI_size (l : List Int) : (tabI l).size = l.length := by simp [tabI]
theorem tabI_get (l : List Int) (i : Nat) (h : i < l.length) : (tabI l)[i]? = some (.int .i64 (gI l i)) := by
  simp [tabI, gI, List.getD, List.getElem?_eq_getElem h]
theorem tabI_set (l : List Int) (i : Nat) (x : Int) : (tabI l).setIfInBounds i (.int .i64 x) = tabI (l.set i x) := by
  unfold tabI
  rw [List.map_set]
  simp
theorem tabI_one (l : List Int) : (tabI l).all (·.oneCell') = true := by
  simp [tabI, Value.oneCell']

theorem zero_row (T : TypeId) (z : Array Value) (n : Nat) (h : (Try.prog.info? T).map (fun i => (i.zero, i.size)) = some (some (.agg z), n)) (u : World) : (zeroValue T).run Try.prog u = .ok (.agg z) u := by
  cases hi : Try.prog.info? T with
  | none => rw [hi] at h; cases h
  | some i =>
    rw [hi] at h
    simp at h
    simp [zeroValue, typeInfo, hi, h.1]
theorem below_row {B g : Nat} {a w : World} {cs : Array Value} (h : Below B a w) (hg : B ≤ g) : Below B a (w.setRow g cs) :=
  ⟨h.os, h.tape, h.output, by have := h.size; simpa using this, fun j hj => by rw [setRow_other _ _ _ _ (by omega)]; exact h.block j hj⟩
theorem below_then {w w1 w2 : World} (h : Below w.heap.size w w1) (h2 : Below w1.heap.size w1 w2) : Below w.heap.size w w2 := h.trans (h2.mono h.size)

theorem run_loadR {P : Program} {ρ : Operand → Value} {o : Oper} {w : World} {ty : TypeId} {x : Operand} (ho : o.op = .load ty x) {g : Nat} (hx : ρ x = .pointer (some ⟨g, 0, none⟩)) {t : TypeId} {cs : Array Value} {fr : Nat × Nat} {d : TypeDesc} (hg : w.heap[g]? = some (.cells cs t fr))
    (hu : P.underlying ty = some d) (hd : (match d with | .struct _ | .array _ _ => true | _ => false) = true) (hi : (P.info? ty).map (·.size) = some cs.size) :
    (execOp ρ o).run P w = .ok (.value (.agg cs)) w := by
  unfold execOp
  simp only [ho, hx, Instr.loadAt, Instr.sureAddr, Sem.run_bind, Sem.run_pure, Result.andThen_ok, run_loadVar_row w g t ty cs fr d hg hu hd hi]

theorem part_i {P : Program} (e : TypeId) (l : List Int) (i : Nat) (h : i < l.length) (ha : ∀ w, (isAgg e).run P w = .ok false w) (u : World) : (Go.part e (tabI l) i).run P u = .ok (.int .i64 (gI l i)) u := by
  have hg := tabI_get l i h
  simp only [Go.part, Sem.run_bind, ha, Result.andThen_ok, Bool.false_eq_true, if_false]
  rw [hg]
  simp
theorem eqI_loop {P : Program} (e : TypeId) (l m : List Int) (hlm : l.length = m.length) (hu : P.underlying e = some (.int .i64)) (ha : ∀ w, (isAgg e).run P w = .ok false w) (u : World) : ∀ (r : List Nat), (∀ i ∈ r, i < l.length) →
    (forIn r ((none : Option Bool), ()) fun i __s => do
      let a ← Go.part e (tabI l) (i * 1)
      let b ← Go.part e (tabI m) (i * 1)
      let c ← Op.equalIn 9999 e a b
      if (!c) = true then pure (ForInStep.done (some false, ())) else pure (ForInStep.yield ((none : Option Bool), ())) : Sem (Option Bool × Unit)).run P u = .ok (if (r.all fun i => decide (gI l i = gI m i)) = true then none else some false, ()) u
  | [], _ => by simp
  | i :: r, h => by
    have h1 := part_i (P := P) e l i (h i (by simp)) ha u
    have h1' := part_i (P := P) e m i (by have := h i (by simp); omega) ha u
    have h2 : (Op.equalIn 9999 e (.int .i64 (gI l i)) (.int .i64 (gI m i))).run P u = .ok (decide (gI l i = gI m i)) u := by
      rw [show (9999 : Nat) = 9998 + 1 from rfl, run_equalIn_int _ _ _ _ .i64 _ _ hu]
      simp
      rfl
    have ih := eqI_loop e l m hlm hu ha u r (fun j hj => h j (by simp [hj]))
    by_cases hd : gI l i = gI m i
    · have hdt : decide (gI l i = gI m i) = true := decide_eq_true hd
      simp only [List.forIn_cons, Sem.run_bind, Nat.mul_one, h1, h1', h2, Result.andThen_ok, hdt, Bool.not_true, Bool.false_eq_true, if_false, Sem.run_pure, List.all_cons, Bool.true_and] at ih ⊢
      exact ih
    · have hdf : decide (gI l i = gI m i) = false := decide_eq_false hd
      simp only [List.forIn_cons, Sem.run_bind, Nat.mul_one, h1, h1', h2, Result.andThen_ok, hdf, Bool.not_false, if_true, Sem.run_pure, List.all_cons, Bool.false_and, Bool.false_eq_true, if_false]
theorem all_same {l m : List Int} (h : l.length = m.length) : ((List.range' 0 l.length).all fun i => decide (gI l i = gI m i)) = decide (l = m) := by
  by_cases e : l = m
  · subst e; simp
  · rw [decide_eq_false e]
    cases hb : ((List.range' 0 l.length).all fun i => decide (gI l i = gI m i))
    · rfl
    · exfalso
      apply e
      apply List.ext_getElem h
      intro i h1 h2
      have := List.all_eq_true.1 hb i (by rw [List.mem_range'_1]; omega)
      simpa [gI, List.getD, List.getElem?_eq_getElem h1, List.getElem?_eq_getElem h2] using this
theorem eqI_run {P : Program} (T e : TypeId) (n : Nat) (l m : List Int) (hl : l.length = n) (hm : m.length = n) (ht : P.underlying T = some (.array n e)) (hu : P.underlying e = some (.int .i64))
    (ha : ∀ w, (isAgg e).run P w = .ok false w) (hs : ∀ w, (sizeOf e).run P w = .ok 1 w) (u : World) : (binOp .eql T (.agg (tabI l)) (.agg (tabI m))).run P u = .ok (.bool (decide (l = m))) u := by
  have h : (Op.equalIn 10000 T (.agg (tabI l)) (.agg (tabI m))).run P u = .ok (decide (l = m)) u := by
    rw [show (10000 : Nat) = 9999 + 1 from rfl, Op.equalIn]
    simp only [Sem.run_bind, run_underlying ht, Result.andThen_ok, hs]
    simp only [Std.Legacy.Range.forIn_eq_forIn_range', Std.Legacy.Range.size, Nat.sub_zero, Nat.add_sub_cancel, Nat.div_one]
    have hr : ∀ i ∈ List.range' 0 n, i < l.length := fun i hi => by
      rw [List.mem_range'_1] at hi; omega
    rw [eqI_loop e l m (by omega) hu ha u _ hr]
    have hq := all_same (l := l) (m := m) (by omega)
    rw [hl] at hq
    rw [hq]
    by_cases e : l = m
    · rw [decide_eq_true e]; simp
    · rw [decide_eq_false e]; simp
  rw [run_eql_struct, h]
  simp
end Go.Proofs.Ytjekeblcppkghaa

namespace Go.Proofs.Ytjekeblcppkghaa
open Go.RowKit
set_option linter.unusedVariables false
set_option maxRecDepth 100000

theorem i64_and65535 (n : Int) : bits .and .i64 n 65535 = n % 65536 := by
  have h127 : (BitVec.ofInt 64 65535).toNat = 2 ^ 16 - 1 := by decide
  have key : (BitVec.ofInt 64 n &&& BitVec.ofInt 64 65535).toNat = (n % ((2 ^ 64 : Nat) : Int)).toNat % 2 ^ 16 := by
    rw [BitVec.toNat_and, BitVec.toNat_ofInt, h127, Nat.and_two_pow_sub_one_eq_mod]
  show IntKind.i64.wrap ((BitVec.ofInt 64 n &&& BitVec.ofInt 64 65535).toNat : Nat) = n % 65536
  rw [key, IntKind.wrap_i64]
  omega
theorem i64_and32767 (n : Int) : bits .and .i64 n 32767 = n % 32768 := by
  have h127 : (BitVec.ofInt 64 32767).toNat = 2 ^ 15 - 1 := by decide
  have key : (BitVec.ofInt 64 n &&& BitVec.ofInt 64 32767).toNat = (n % ((2 ^ 64 : Nat) : Int)).toNat % 2 ^ 15 := by
    rw [BitVec.toNat_and, BitVec.toNat_ofInt, h127, Nat.and_two_pow_sub_one_eq_mod]
  show IntKind.i64.wrap ((BitVec.ofInt 64 n &&& BitVec.ofInt 64 32767).toNat : Nat) = n % 32768
  rw [key, IntKind.wrap_i64]
  omega

/-- a row at g, another behind it -/
structure NormI (w wr : World) (g : Nat) (z0 T : Array Value) : Prop where
  t : wr.heap[g]? = some (.cells T 29 (0, 0))
  z : wr.heap[g + 1]? = some (.cells z0 29 (0, 0))
  below : Below g w wr
theorem NormI.lt {w wr : World} {g : Nat} {z0 T : Array Value} (h : NormI w wr g z0 T) : g + 1 < wr.heap.size := (Array.getElem?_eq_some_iff.1 h.z).1
theorem NormI.drew {w wr : World} {g : Nat} {z0 T : Array Value} (h : NormI w wr g z0 T) : NormI w wr.drew g z0 T := ⟨h.t, h.z, h.below.drew⟩
theorem NormI.cell {w wr : World} {g : Nat} {z0 T : Array Value} (h : NormI w wr g z0 T) (k : Nat) (v : Value) : NormI w (wr.setCell ⟨g, k, none⟩ v) g z0 (T.setIfInBounds k v) := by
  have e := setCell_eq_setRow wr g k _ _ _ v h.t
  exact ⟨by rw [e, setRow_heap _ _ _ _ _ _ h.t], by rw [e, setRow_other _ _ _ _ (by omega)]; exact h.z, h.below.setCell (p := ⟨g, k, none⟩) (Nat.le_refl _) _⟩
theorem NormI.call {w wr W : World} {g : Nat} {z0 T : Array Value} (h : NormI w wr g z0 T) (hb : Below wr.heap.size wr W) : NormI w W g z0 T := by
  have hl := h.lt
  exact ⟨by rw [hb.block _ (by omega)]; exact h.t, by rw [hb.block _ (by omega)]; exact h.z, h.below.trans (hb.mono (by omega))⟩
theorem NormI.row {w wr : World} {g : Nat} {z0 T : Array Value} (h : NormI w wr g z0 T) (o : Obj) (M : Array Value) : NormI w ((wr.alloc o).setRow wr.heap.size M) g z0 T := by
  have hl := h.lt
  refine ⟨?_, ?_, below_row (h.below.alloc (by omega) _) (by omega)⟩
  · rw [setRow_other _ _ _ _ (by omega), heap_alloc_old _ _ (by omega)]; exact h.t
  · rw [setRow_other _ _ _ _ (by omega), heap_alloc_old _ _ (by omega)]; exact h.z
theorem NormI.set {w wr : World} {g : Nat} {z0 T : Array Value} (h : NormI w wr g z0 T) (S : Array Value) : NormI w (wr.setRow (g + 1) S) g S T :=
  ⟨by rw [setRow_other _ _ _ _ (by omega)]; exact h.t, setRow_heap _ _ _ _ _ _ h.z, below_row h.below (by omega)⟩

theorem zero_fe (u : World) : (zeroValue 29).run Try.prog u = .ok (.agg (tabI (List.replicate 16 0))) u := zero_row 29 _ 16 (by kernel_rfl) u
theorem info_fe {l : List Int} (h : l.length = 16) : (Try.prog.info? 29).map (·.size) = some (tabI l).size := by rw [tabI_size, h]; kernel_rfl

/-- the row of p's digits, as it is built -/
def primeTo (k : Nat) : List Int := opTo (fun _ => 65535) (List.replicate 16 0) k
theorem primeTo_end : ((primeTo 16).set 0 65517).set 15 32767 = primeL := by decide
set_option maxHeartbeats 1600000 in
theorem rprime9_any (w : World) : Calls Try.prog 44 #[] w fun e w' => e = .returned (.agg (tabI primeL)) ∧ Below w.heap.size w w' := by
  have hz := fun u => zero_fe u
  obtain ⟨t0, ht0⟩ : ∃ t, tabI (List.replicate 16 0) = t := ⟨_, rfl⟩
  rw [ht0] at hz
  have s0 : (Try.prog.info? 29).map (·.size) = some t0.size := by rw [← ht0]; exact info_fe (by simp)
  have o0 : t0.all (·.oneCell') = true := by rw [← ht0]; exact tabI_one _
  have n0 : t0.size = 16 := by rw [← ht0, tabI_size]; simp
  have h2 : ((w.alloc (.cells t0 29)).alloc (.cells t0 29)).heap[w.heap.size + 1]? = some (.cells t0 29 (0, 0)) := heap_alloc2_new _ _ _
  have h0 : ((w.alloc (.cells t0 29)).alloc (.cells t0 29)).heap[w.heap.size]? = some (.cells t0 29 (0, 0)) := heap_alloc2_old _ _ _
  obtain ⟨W1, hW1⟩ : ∃ W, ((w.alloc (.cells t0 29)).alloc (.cells t0 29)).setRow (w.heap.size + 1) t0 = W := ⟨_, rfl⟩
  obtain ⟨g, hg⟩ : ∃ g, w.heap.size = g := ⟨_, rfl⟩
  have b1 : W1.heap[g + 1]? = some (.cells (tabI (primeTo 0)) 29 (0, 0)) := by rw [← hW1, ← hg, show primeTo 0 = List.replicate 16 0 from opTo_zero _ (by simp), ht0]; exact setRow_heap _ _ _ _ _ _ h2
  have b0 : W1.heap[g]? = some (.cells t0 29 (0, 0)) := by rw [← hW1, ← hg, setRow_other _ _ _ _ (by omega)]; exact h0
  have bb : Below g w W1 := by rw [← hW1, ← hg]; exact below_row (((Below.refl w.heap.size w).alloc (Nat.le_refl _) _).alloc (by simp) _) (by omega)
  have HB1 := Lib.hid b1
  have HB0 := Lib.hid b0
  have HBE := Lib.hid bb
  have HG := Lib.hid hg
  have HT := Lib.hid ht0
  have HW := Lib.hid hW1
  clear b1 b0 bb ht0 hW1 hg
  go_enter Try.func44, Try.ntmps44
  go_wp2_with (refine wpList_store_row rfl 29 (.tmp 1) (.tmp 3) rfl (w.heap.size + 1) t0 rfl rfl 29 t0 h2 s0 rfl o0 ?_)
  rw [HW.out, HG.out]
  clear h0 h2 HW
  go_loopw [2] (fun i wr => ∃ k : Nat, k ≤ 16 ∧ i = .int .i64 (k : Int) ∧ Hid (wr.heap[g]? = some (.cells t0 29 (0, 0))) ∧ Hid (wr.heap[g + 1]? = some (.cells (tabI (primeTo k)) 29 (0, 0))) ∧ Hid (Below g w wr)) (fun i _ => 16 - (intOf i).toNat)
  case atStart => exact ⟨0, by omega, rfl, HB0, HB1, HBE⟩
  case round =>
    clear HB0 HB1 HBE
    obtain ⟨k, hk, rfl, HB0, HB1, HBE⟩ := hrel
    by_cases hlt : k < 16
    · have hl : (primeTo k).length = 16 := opTo_len _ _ _
      have hck : wr.cell? ⟨g + 1, k, none⟩ = some (.int .i64 (gI (primeTo k) k)) := by rw [cell_of_row _ _ _ _ _ _ HB1.out, tabI_get _ _ (by omega)]
      have hfz : wr.frozen? ⟨g + 1, k, none⟩ = false := by have := HB1.out; simp [World.frozen?, this]
      have e := setCell_eq_setRow wr (g + 1) k _ _ _ (.int .i64 65535) HB1.out
      have n1 : Hid ((wr.setCell ⟨g + 1, k, none⟩ (.int .i64 65535)).heap[g]? = some (.cells t0 29 (0, 0))) := Lib.hid (by rw [e, setRow_other _ _ _ _ (by omega)]; exact HB0.out)
      have n2 : Hid ((wr.setCell ⟨g + 1, k, none⟩ (.int .i64 65535)).heap[g + 1]? = some (.cells (tabI (primeTo (k + 1))) 29 (0, 0))) := Lib.hid (by
        rw [e, setRow_heap _ _ _ _ _ _ HB1.out, tabI_set]
        unfold primeTo
        rw [opTo_set (fun _ => 65535) _ hlt])
      have n3 : Hid (Below g w (wr.setCell ⟨g + 1, k, none⟩ (.int .i64 65535))) := Lib.hid (HBE.out.setCell (p := ⟨g + 1, k, none⟩) (by show g ≤ g + 1; omega) _)
      generalize gI (primeTo k) k = old at *
      have p1 : 0 ≤ (k : Int) := by omega
      have p2 : (k : Int) < 16 := by omega
      clear e hl HB0 HB1 HBE
      go_wp2_with fail
      go_roundw
      case rel => exact ⟨k + 1, by omega, by go_num, n1, n2, n3⟩
      case measure => simp [intOf]; omega
    · obtain rfl : k = 16 := by omega
      have h1 := HB1.out
      have c0 : wr.cell? ⟨g + 1, 0, none⟩ = some (.int .i64 65535) := by rw [cell_of_row _ _ _ _ _ _ h1]; rfl
      have f0 : wr.frozen? ⟨g + 1, 0, none⟩ = false := by simp [World.frozen?, h1]
      have e1 := setCell_eq_setRow wr (g + 1) 0 _ _ _ (.int .i64 65517) h1
      have r1 : (wr.setCell ⟨g + 1, 0, none⟩ (.int .i64 65517)).heap[g + 1]? = some (.cells (tabI ((primeTo 16).set 0 65517)) 29 (0, 0)) := by rw [e1, setRow_heap _ _ _ _ _ _ h1, tabI_set]
      have c1 : (wr.setCell ⟨g + 1, 0, none⟩ (.int .i64 65517)).cell? ⟨g + 1, 15, none⟩ = some (.int .i64 65535) := by rw [cell_of_row _ _ _ _ _ _ r1]; rfl
      have f1 : (wr.setCell ⟨g + 1, 0, none⟩ (.int .i64 65517)).frozen? ⟨g + 1, 15, none⟩ = false := by simp [World.frozen?, r1]
      have e2 := setCell_eq_setRow _ (g + 1) 15 _ _ _ (.int .i64 32767) r1
      have r2 : ((wr.setCell ⟨g + 1, 0, none⟩ (.int .i64 65517)).setCell ⟨g + 1, 15, none⟩ (.int .i64 32767)).heap[g + 1]? = some (.cells (tabI primeL) 29 (0, 0)) := by rw [e2, setRow_heap _ _ _ _ _ _ r1, tabI_set, primeTo_end]
      have r0 : ((wr.setCell ⟨g + 1, 0, none⟩ (.int .i64 65517)).setCell ⟨g + 1, 15, none⟩ (.int .i64 32767)).heap[g]? = some (.cells t0 29 (0, 0)) := by rw [e2, setRow_other _ _ _ _ (by omega), e1, setRow_other _ _ _ _ (by omega)]; exact HB0.out
      have rb : Below g w ((wr.setCell ⟨g + 1, 0, none⟩ (.int .i64 65517)).setCell ⟨g + 1, 15, none⟩ (.int .i64 32767)) := (HBE.out.setCell (p := ⟨g + 1, 0, none⟩) (by show g ≤ g + 1; omega) _).setCell (p := ⟨g + 1, 15, none⟩) (by show g ≤ g + 1; omega) _
      have s1 : (Try.prog.info? 29).map (·.size) = some (tabI primeL).size := info_fe rfl
      have sz : t0.size = (tabI primeL).size := by rw [n0, tabI_size]; rfl
      have o1 := tabI_one primeL
      have HB := Lib.hid (below_row (cs := tabI primeL) rb (Nat.le_refl g))
      obtain ⟨t1, ht1⟩ : ∃ t, tabI primeL = t := ⟨_, rfl⟩
      rw [ht1] at r2 s1 sz o1 HB
      have HT1 := Lib.hid ht1
      clear e1 e2 r1 rb h1 ht1 HB0 HB1 HBE
      go_wp2_with (first
        | (refine wpList_load_row rfl 29 (.tmp 1) rfl (g + 1) rfl 29 t1 (0, 0) _ r2 Try.underlying29 rfl s1 ?_)
        | (refine wpList_store_row rfl 29 (.tmp 0) (.tmp 12) rfl g t1 rfl rfl 29 t0 r0 s1 sz o1 ?_))
      (try simp only [Exit.inBlock, Exit.then])
      refine bodyPost_ret (results_cell_row rfl _ _ g _ t1 _ _ rfl (setRow_heap _ _ _ _ _ _ r0) Try.underlying29 rfl s1) rfl ?_
      exact ⟨by rw [HT1.out], by rw [HG.out]; exact HB.out⟩

set_option maxHeartbeats 1600000 in
theorem rbelow9_any (a b : List Int) (ha : a.length = 16) (hb : b.length = 16) (pa : ∀ i, i < 16 → 0 ≤ gI a i ∧ gI a i < 65536) (pb : ∀ i, i < 16 → 0 ≤ gI b i ∧ gI b i < 65536) (w : World) :
    Calls Try.prog 43 #[.agg (tabI a), .agg (tabI b)] w fun e w' => e = .returned (.bool (decide (vL a < vL b))) ∧ Below w.heap.size w w' := by
  obtain ⟨Z, hZ⟩ : ∃ Z, decide (vL a < vL b) = Z := ⟨_, rfl⟩
  have HDIF : Hid (∀ k, k < 16 → (∀ j, k < j → j < 16 → gI a j = gI b j) → gI a k ≠ gI b k → decide (gI a k < gI b k) = Z) := Lib.hid (fun k h1 h2 h3 => by
    rw [← hZ]
    have := below_at ha hb pa pb k h1 h2 h3
    by_cases h : gI a k < gI b k
    · rw [decide_eq_true h, decide_eq_true (this.2 h)]
    · rw [decide_eq_false h, decide_eq_false (fun e => h (this.1 e))])
  have HSAM : Hid ((∀ j, j < 16 → gI a j = gI b j) → Z = false) := Lib.hid (fun h => by rw [← hZ, below_same ha hb h]; simp)
  rw [hZ]
  obtain ⟨RA, hRA⟩ : ∃ R, tabI a = R := ⟨_, rfl⟩
  obtain ⟨RB, hRB⟩ : ∃ R, tabI b = R := ⟨_, rfl⟩
  have h0 : ((w.alloc (.cells RA 29)).alloc (.cells RB 29)).heap[w.heap.size]? = some (.cells RA 29 (0, 0)) := heap_alloc2_old _ _ _
  have h1 : ((w.alloc (.cells RA 29)).alloc (.cells RB 29)).heap[w.heap.size + 1]? = some (.cells RB 29 (0, 0)) := heap_alloc2_new _ _ _
  have hbe : Below w.heap.size w ((w.alloc (.cells RA 29)).alloc (.cells RB 29)) := ((Below.refl w.heap.size w).alloc (Nat.le_refl _) _).alloc (by simp) _
  rw [hRA, hRB]
  have HAI : Hid (∀ W : World, W.heap[w.heap.size]? = some (.cells RA 29 (0, 0)) → ∀ j, j < 16 → W.cell? ⟨w.heap.size, j, none⟩ = some (.int .i64 (gI a j))) := Lib.hid fun W h j hj => by rw [cell_of_row _ _ _ _ _ _ h, ← hRA, tabI_get _ _ (by omega)]
  have HBI : Hid (∀ W : World, W.heap[w.heap.size + 1]? = some (.cells RB 29 (0, 0)) → ∀ j, j < 16 → W.cell? ⟨w.heap.size + 1, j, none⟩ = some (.int .i64 (gI b j))) := Lib.hid fun W h j hj => by rw [cell_of_row _ _ _ _ _ _ h, ← hRB, tabI_get _ _ (by omega)]
  obtain ⟨W1, hW1⟩ : ∃ W, (w.alloc (.cells RA 29)).alloc (.cells RB 29) = W := ⟨_, rfl⟩
  have HW1 := Lib.hid hW1
  rw [hW1] at h0 h1 hbe
  have H0 := Lib.hid h0
  have H1 := Lib.hid h1
  have HBE := Lib.hid hbe
  clear ha hb pa pb hZ hRA hRB h0 h1 hbe hW1
  go_enter Try.func43, Try.ntmps43
  go_wp2_with fail
  rw [HW1.out]
  clear HW1
  go_loopw [5] (fun i wr => ∃ k : Nat, k ≤ 16 ∧ i = .int .i64 ((k : Int) - 1) ∧ Hid (∀ j, k ≤ j → j < 16 → gI a j = gI b j) ∧ Hid (wr.heap[w.heap.size]? = some (.cells RA 29 (0, 0))) ∧ Hid (wr.heap[w.heap.size + 1]? = some (.cells RB 29 (0, 0))) ∧ Hid (Below w.heap.size w wr)) (fun i _ => (intOf i + 1).toNat)
  case atStart => exact ⟨16, by omega, by go_num, Lib.hid (fun j h1 h2 => by omega), H0, H1, HBE⟩
  case round =>
    clear H0 H1 HBE
    obtain ⟨k, hk, rfl, HS, H0, H1, HBE⟩ := hrel
    match k, hk, HS with
    | 0, _, HS =>
      have HZ := Lib.hid (HSAM.out (fun j hj => HS.out j (Nat.zero_le _) hj))
      have e0 : ((0 : Nat) : Int) - 1 = -1 := by omega
      rw [e0]
      clear HDIF HSAM HAI HBI HS
      go_wp2_with fail
      go_ret
      exact ⟨by rw [HZ.out]; rfl, HBE.out⟩
    | j + 1, hk, HS =>
      have ej : ((j + 1 : Nat) : Int) - 1 = (j : Int) := by omega
      rw [ej]
      have ca := HAI.out wr H0.out j (by omega)
      have cb := HBI.out wr H1.out j (by omega)
      have p1 : 0 ≤ (j : Int) := by omega
      have p2 : (j : Int) < 16 := by omega
      have H0' : Hid (wr.drew.heap[w.heap.size]? = some (.cells RA 29 (0, 0))) := Lib.hid H0.out
      have H1' : Hid (wr.drew.heap[w.heap.size + 1]? = some (.cells RB 29 (0, 0))) := Lib.hid H1.out
      have HBE' : Hid (Below w.heap.size w wr.drew) := Lib.hid HBE.out.drew
      by_cases hd : gI a j = gI b j
      · have HS2 : Hid (∀ i, j ≤ i → i < 16 → gI a i = gI b i) := Lib.hid fun i h1 h2 => by
          by_cases e : i = j
          · rw [e]; exact hd
          · exact HS.out i (by omega) h2
        rw [hd] at ca
        generalize gI b j = y at *
        clear HDIF HSAM HAI HBI HS hd H0 H1 HBE
        go_wp2_with fail
        refine wp_region_still_tail 6 (by kernel_rfl) (by kernel_rfl) ?_
        simp only [List.take_succ_cons, List.take_zero, List.drop_succ_cons, List.drop_zero]
        iterate 6 still_step
        refine wpStill_nil ?_
        go_wp2_with fail
        go_roundw
        case rel => exact ⟨j, by omega, by go_num, HS2, H0', H1', HBE'⟩
        case measure => simp [intOf]
      · have HZ := Lib.hid (HDIF.out j (by omega) (fun i h1 h2 => HS.out i (by omega) h2) hd)
        have hne : (gI a j != gI b j) = true := by simpa using hd
        have hd' := hd
        generalize gI a j = x at *
        generalize gI b j = y at *
        obtain ⟨wq, hwq⟩ : ∃ q, wr.drew = q := ⟨_, rfl⟩
        have ca2 : wq.cell? ⟨w.heap.size, j, none⟩ = some (.int .i64 x) := by rw [← hwq]; exact ca
        have cb2 : wq.cell? ⟨w.heap.size + 1, j, none⟩ = some (.int .i64 y) := by rw [← hwq]; exact cb
        have HB2 : Hid (Below w.heap.size w wq.drew) := Lib.hid (by rw [← hwq]; exact HBE.out.drew.drew)
        have HWQ := Lib.hid hwq
        clear HDIF HSAM HAI HBI HS H0 H1 HBE H0' H1' HBE' hwq
        go_wp2_with fail
        refine wp_region_still_tail 6 (by kernel_rfl) (by kernel_rfl) ?_
        simp only [List.take_succ_cons, List.take_zero, List.drop_succ_cons, List.drop_zero]
        iterate 6 still_step
        refine wpStill_nil ?_
        go_wp2_with fail
        rw [HWQ.out]
        refine wp_region_still_tail 7 (by kernel_rfl) (by kernel_rfl) ?_
        simp only [List.take_succ_cons, List.take_zero, List.drop_succ_cons, List.drop_zero]
        iterate 7 still_step
        refine wpStill_nil ?_
        go_wp2_with fail
        go_ret
        exact ⟨by rw [← HZ.out]; rfl, HB2.out⟩
end Go.Proofs.Ytjekeblcppkghaa

namespace Go.Proofs.Ytjekeblcppkghaa
open Go.RowKit
set_option linter.unusedVariables false
set_option maxRecDepth 100000

set_option maxHeartbeats 6400000 in
theorem rnormL_any (l : List Int) (hl : l.length = 16) (hb : Bd 70368744177664 l) (hp : ∀ i, i < 16 → 0 ≤ gI (fin4 l) i ∧ gI (fin4 l) i < 65536) (w : World) :
    Calls Try.prog 28 #[.agg (tabI l)] w fun e w' => e = .returned (.agg (tabI (normL l))) ∧ Below w.heap.size w w' := by
  have hz := fun u => zero_fe u
  obtain ⟨z0, hz0e⟩ : ∃ t, tabI (List.replicate 16 0) = t := ⟨_, rfl⟩
  rw [hz0e] at hz
  have HZL : Hid (z0.size = 16) := Lib.hid (by rw [← hz0e, tabI_size]; simp)
  have HPR : Hid (∀ W : World, Calls Try.prog 44 #[] W fun e w' => e = .returned (.agg (tabI primeL)) ∧ Below W.heap.size W w') := Lib.hid rprime9_any
  have HOK : Hid (∀ k, (passN l k).length = 16 ∧ Bd 70368744177664 (passN l k)) := Lib.hid (passN_ok rfl hb hl)
  have HPF := Lib.hid hp
  obtain ⟨RL, hRL⟩ : ∃ R, tabI l = R := ⟨_, rfl⟩
  have HI : Hid (NormI w ((w.alloc (.cells RL 29)).alloc (.cells z0 29)) w.heap.size z0 (tabI (passN l 0))) := Lib.hid (by
    rw [show passN l 0 = l from rfl, hRL]
    exact ⟨heap_alloc2_old _ _ _, heap_alloc2_new _ _ _, ((Below.refl w.heap.size w).alloc (Nat.le_refl _) _).alloc (by simp) _⟩)
  rw [hRL]
  clear hz0e hb hl hp hRL
  go_enter Try.func28, Try.ntmps28
  go_wp2_with fail
  obtain ⟨W1, hW1⟩ : ∃ W, (w.alloc (.cells RL 29)).alloc (.cells z0 29) = W := ⟨_, rfl⟩
  obtain ⟨g, hg⟩ : ∃ g, w.heap.size = g := ⟨_, rfl⟩
  rw [hW1, hg] at HI
  rw [hW1, hg]
  have HG := Lib.hid hg
  clear hW1 hg
  go_loopw [3] (fun i wr => ∃ kk : Nat, kk ≤ 4 ∧ i = .int .i64 (kk : Int) ∧ Hid (NormI w wr g z0 (tabI (passN l kk)))) (fun i _ => 4 - (intOf i).toNat)
  case atStart => exact ⟨0, by omega, rfl, HI⟩
  case round =>
    clear HI
    obtain ⟨kk, hkk, rfl, HI⟩ := hrel
    by_cases hltk : kk < 4
    · obtain ⟨L, hL⟩ : ∃ L, passN l kk = L := ⟨_, rfl⟩
      have hok := HOK.out kk
      rw [hL] at hok HI
      have HLL := Lib.hid hok.1
      have HLB := Lib.hid hok.2
      have HLE := Lib.hid hL
      have dk : decide ((kk : Int) < 4) = true := decide_eq_true (by omega)
      clear hok hL
      go_wp2_with fail
      go_loopw [4] (fun i wr => ∃ k : Nat, k ≤ 15 ∧ i = .int .i64 (k : Int) ∧ Hid (NormI w wr g z0 (tabI (carryTo L k)))) (fun i _ => 15 - (intOf i).toNat)
      case atStart => exact ⟨0, by omega, rfl, HI⟩
      case round =>
        clear HI
        obtain ⟨k, hk, rfl, HI⟩ := hrel
        by_cases hlt : k < 15
        · have hml : (carryTo L k).length = 16 := by rw [carryTo_len, HLL.out]
          have hst := carry_st (l := L) (B := 70368744177664) (by omega) HLB.out k (by rw [HLL.out]; omega)
          obtain ⟨m, hm⟩ : ∃ m, carryTo L k = m := ⟨_, rfl⟩
          obtain ⟨m2, hm2⟩ : ∃ m2, m.set (k + 1) (gI m (k + 1) + gI m k / 65536) = m2 := ⟨_, rfl⟩
          have hnx : carryTo L (k + 1) = m2.set k (gI m k % 65536) := by rw [carryTo, hm, ← hm2]; rfl
          have hg2 : gI m2 k = gI m k := by rw [← hm2, gI_set _ _ _ _ (by rw [← hm, hml]; omega), if_neg (by omega)]
          have hxb := hst.at_
          have hyb : -70368744177664 ≤ gI m (k + 1) ∧ gI m (k + 1) ≤ 70368744177664 := by
            have h1 := hst.high (k + 1) (by omega)
            rw [hm] at h1
            rw [h1]
            exact HLB.out (k + 1)
          rw [hm] at hml hxb HI
          have HNX := Lib.hid hnx
          have hl2 : m2.length = 16 := by rw [← hm2, List.length_set]; exact hml
          have cx : wr.cell? ⟨g, k, none⟩ = some (.int .i64 (gI m k)) := by rw [cell_of_row _ _ _ _ _ _ HI.out.t, tabI_get _ _ (by omega)]
          have cy : wr.cell? ⟨g, k + 1, none⟩ = some (.int .i64 (gI m (k + 1))) := by rw [cell_of_row _ _ _ _ _ _ HI.out.t, tabI_get _ _ (by omega)]
          have fx : wr.frozen? ⟨g, k + 1, none⟩ = false := by have := HI.out.t; simp [World.frozen?, this]
          obtain ⟨x, hx⟩ : ∃ x, gI m k = x := ⟨_, rfl⟩
          obtain ⟨y, hy⟩ : ∃ y, gI m (k + 1) = y := ⟨_, rfl⟩
          obtain ⟨q, hq⟩ : ∃ q, x / 65536 = q := ⟨_, rfl⟩
          obtain ⟨r, hr⟩ : ∃ r, x % 65536 = r := ⟨_, rfl⟩
          obtain ⟨s, hs⟩ : ∃ s, y + q = s := ⟨_, rfl⟩
          rw [hx] at hxb cx hg2
          rw [hy] at hyb cy
          rw [hx, hr] at hnx
          rw [hx, hy, hq, hs] at hm2
          rw [hx, hr] at HNX
          have f1 : IntKind.i64.wrap s = s := by rw [IntKind.wrap_i64]; omega
          have f2 : bits .and .i64 x 65535 = r := by rw [i64_and65535, hr]
          have f3 : IntKind.i64.wrap ((k : Int) + 1) = (k : Int) + 1 := by rw [IntKind.wrap_i64]; omega
          have f4 : ((k + 1 : Nat) : Int) = (k : Int) + 1 := by omega
          have p1 : 0 ≤ (k : Int) := by omega
          have p2 : (k : Int) < 15 := by omega
          have p3 : 0 ≤ (k : Int) + 1 := by omega
          have p4 : (k : Int) + 1 < 16 := by omega
          have p5 : (k : Int) < 16 := by omega
          have HI2 : Hid (NormI w (wr.drew.setCell ⟨g, k + 1, none⟩ (.int .i64 s)) g z0 (tabI m2)) := Lib.hid (by rw [← hm2, ← tabI_set]; exact (HI.out.drew).cell (k + 1) _)
          have c2 : (wr.setCell ⟨g, k + 1, none⟩ (.int .i64 s)).drew.cell? ⟨g, k, none⟩ = some (.int .i64 x) := by rw [show (wr.setCell ⟨g, k + 1, none⟩ (.int .i64 s)).drew = wr.drew.setCell ⟨g, k + 1, none⟩ (.int .i64 s) from rfl, cell_of_row _ _ _ _ _ _ HI2.out.t, tabI_get _ _ (by omega), hg2]
          have z2 : (wr.setCell ⟨g, k + 1, none⟩ (.int .i64 s)).drew.frozen? ⟨g, k, none⟩ = false := by
            have := HI2.out.t
            show (wr.drew.setCell ⟨g, k + 1, none⟩ (.int .i64 s)).frozen? ⟨g, k, none⟩ = false
            simp [World.frozen?, this]
          have HI3 : Hid (NormI w ((wr.drew.setCell ⟨g, k + 1, none⟩ (.int .i64 s)).setCell ⟨g, k, none⟩ (.int .i64 r)) g z0 (tabI (m2.set k r))) := Lib.hid (by rw [← tabI_set]; exact HI2.out.cell k _)
          clear hst hm hm2 hnx hg2 hml hl2 hx hy hr HI HI2 f4
          go_wp2_with fail
          refine wp_region_still_tail 12 (by kernel_rfl) (by kernel_rfl) ?_
          simp only [List.take_succ_cons, List.take_zero, List.drop_succ_cons, List.drop_zero]
          iterate 12 still_step
          refine wpStill_nil ?_
          go_wp2_with fail
          go_roundw
          case rel => exact ⟨k + 1, by omega, by go_num, by rw [HNX.out]; exact HI3⟩
          case measure => simp [intOf]; omega
        · have hk15 : k = 15 := by omega
          have dk15 : decide ((k : Int) < 15) = false := decide_eq_false (by omega)
          rw [hk15] at HI
          clear hk15
          have hml : (carryTo L 15).length = 16 := by rw [carryTo_len, HLL.out]
          have hst := carry_st (l := L) (B := 70368744177664) (by omega) HLB.out 15 (by rw [HLL.out]; omega)
          obtain ⟨m, hm⟩ : ∃ m, carryTo L 15 = m := ⟨_, rfl⟩
          have hnx : passL L = (m.set 0 (gI m 0 + 19 * (gI m 15 / 32768))).set 15 (gI m 15 % 32768) := by rw [passL, hm]; rfl
          have hz0 := hst.low 0 (by omega)
          have hx0 := hst.at_
          rw [hm] at hml hz0 hx0 HI
          have c0 : wr.cell? ⟨g, 0, none⟩ = some (.int .i64 (gI m 0)) := by rw [cell_of_row _ _ _ _ _ _ HI.out.t, tabI_get _ _ (by omega)]
          have c15 : wr.cell? ⟨g, 15, none⟩ = some (.int .i64 (gI m 15)) := by rw [cell_of_row _ _ _ _ _ _ HI.out.t, tabI_get _ _ (by omega)]
          have f0 : wr.frozen? ⟨g, 0, none⟩ = false := by have := HI.out.t; simp [World.frozen?, this]
          obtain ⟨m2, hm2⟩ : ∃ m2, m.set 0 (gI m 0 + 19 * (gI m 15 / 32768)) = m2 := ⟨_, rfl⟩
          have hg2 : gI m2 15 = gI m 15 := by rw [← hm2, gI_set _ _ _ _ (by omega), if_neg (by omega)]
          have hl2 : m2.length = 16 := by rw [← hm2, List.length_set]; exact hml
          rw [hm2] at hnx
          obtain ⟨x, hx⟩ : ∃ x, gI m 15 = x := ⟨_, rfl⟩
          obtain ⟨y, hy⟩ : ∃ y, gI m 0 = y := ⟨_, rfl⟩
          rw [hx] at hx0 c15 hg2 hnx hm2
          rw [hy] at hz0 c0 hm2
          obtain ⟨q, hq⟩ : ∃ q, x / 32768 = q := ⟨_, rfl⟩
          obtain ⟨r, hr⟩ : ∃ r, x % 32768 = r := ⟨_, rfl⟩
          obtain ⟨v, hv⟩ : ∃ v, 19 * q = v := ⟨_, rfl⟩
          obtain ⟨s, hs⟩ : ∃ s, y + v = s := ⟨_, rfl⟩
          rw [hq, hv, hs] at hm2
          rw [hr] at hnx
          have f1 : IntKind.i64.wrap v = v := by rw [IntKind.wrap_i64]; omega
          have f2 : IntKind.i64.wrap s = s := by rw [IntKind.wrap_i64]; omega
          have f3 : bits .and .i64 x 32767 = r := by rw [i64_and32767, hr]
          have HI2 : Hid (NormI w (wr.setCell ⟨g, 0, none⟩ (.int .i64 s)) g z0 (tabI m2)) := Lib.hid (by rw [← hm2, ← tabI_set]; exact HI.out.cell 0 _)
          have d15 : (wr.setCell ⟨g, 0, none⟩ (.int .i64 s)).cell? ⟨g, 15, none⟩ = some (.int .i64 x) := by rw [cell_of_row _ _ _ _ _ _ HI2.out.t, tabI_get _ _ (by omega), hg2]
          have e15 : (wr.setCell ⟨g, 0, none⟩ (.int .i64 s)).frozen? ⟨g, 15, none⟩ = false := by have := HI2.out.t; simp [World.frozen?, this]
          have HI3 : Hid (NormI w ((wr.setCell ⟨g, 0, none⟩ (.int .i64 s)).setCell ⟨g, 15, none⟩ (.int .i64 r)) g z0 (tabI (m2.set 15 r))) := Lib.hid (by rw [← tabI_set]; exact HI2.out.cell 15 _)
          have HNX : Hid (passN l (kk + 1) = m2.set 15 r) := Lib.hid (by rw [passN, HLE.out, hnx])
          clear hst hm hm2 hnx hg2 hml hl2 hx hy hr HI HI2 HLL HLB HLE
          go_wp2_with fail
          go_roundw
          case rel => exact ⟨kk + 1, by omega, by go_num, by rw [HNX.out]; exact HI3⟩
          case measure => simp [intOf]; omega
    · have hkk4 : kk = 4 := by omega
      have dk : decide ((kk : Int) < 4) = false := decide_eq_false (by omega)
      rw [hkk4] at HI
      clear hkk4
      obtain ⟨L4, hL4⟩ : ∃ L, passN l 4 = L := ⟨_, rfl⟩
      have hok := HOK.out 4
      rw [hL4] at hok HI
      have HL4L := Lib.hid hok.1
      have HL4B := Lib.hid hok.2
      have HL4E := Lib.hid hL4
      clear hok hL4
      go_wp2_with fail
      go_loopw [5] (fun i wr => ∃ k : Nat, k ≤ 15 ∧ i = .int .i64 (k : Int) ∧ Hid (NormI w wr g z0 (tabI (carryTo L4 k)))) (fun i _ => 15 - (intOf i).toNat)
      case atStart => exact ⟨0, by omega, rfl, HI⟩
      case round =>
        clear HI
        obtain ⟨k, hk, rfl, HI⟩ := hrel
        by_cases hlt : k < 15
        · have hml : (carryTo L4 k).length = 16 := by rw [carryTo_len, HL4L.out]
          have hst := carry_st (l := L4) (B := 70368744177664) (by omega) HL4B.out k (by rw [HL4L.out]; omega)
          obtain ⟨m, hm⟩ : ∃ m, carryTo L4 k = m := ⟨_, rfl⟩
          obtain ⟨m2, hm2⟩ : ∃ m2, m.set (k + 1) (gI m (k + 1) + gI m k / 65536) = m2 := ⟨_, rfl⟩
          have hnx : carryTo L4 (k + 1) = m2.set k (gI m k % 65536) := by rw [carryTo, hm, ← hm2]; rfl
          have hg2 : gI m2 k = gI m k := by rw [← hm2, gI_set _ _ _ _ (by rw [← hm, hml]; omega), if_neg (by omega)]
          have hxb := hst.at_
          have hyb : -70368744177664 ≤ gI m (k + 1) ∧ gI m (k + 1) ≤ 70368744177664 := by
            have h1 := hst.high (k + 1) (by omega)
            rw [hm] at h1
            rw [h1]
            exact HL4B.out (k + 1)
          rw [hm] at hml hxb HI
          have HNX := Lib.hid hnx
          have hl2 : m2.length = 16 := by rw [← hm2, List.length_set]; exact hml
          have cx : wr.cell? ⟨g, k, none⟩ = some (.int .i64 (gI m k)) := by rw [cell_of_row _ _ _ _ _ _ HI.out.t, tabI_get _ _ (by omega)]
          have cy : wr.cell? ⟨g, k + 1, none⟩ = some (.int .i64 (gI m (k + 1))) := by rw [cell_of_row _ _ _ _ _ _ HI.out.t, tabI_get _ _ (by omega)]
          have fx : wr.frozen? ⟨g, k + 1, none⟩ = false := by have := HI.out.t; simp [World.frozen?, this]
          obtain ⟨x, hx⟩ : ∃ x, gI m k = x := ⟨_, rfl⟩
          obtain ⟨y, hy⟩ : ∃ y, gI m (k + 1) = y := ⟨_, rfl⟩
          obtain ⟨q, hq⟩ : ∃ q, x / 65536 = q := ⟨_, rfl⟩
          obtain ⟨r, hr⟩ : ∃ r, x % 65536 = r := ⟨_, rfl⟩
          obtain ⟨s, hs⟩ : ∃ s, y + q = s := ⟨_, rfl⟩
          rw [hx] at hxb cx hg2
          rw [hy] at hyb cy
          rw [hx, hr] at hnx
          rw [hx, hy, hq, hs] at hm2
          rw [hx, hr] at HNX
          have f1 : IntKind.i64.wrap s = s := by rw [IntKind.wrap_i64]; omega
          have f2 : bits .and .i64 x 65535 = r := by rw [i64_and65535, hr]
          have f3 : IntKind.i64.wrap ((k : Int) + 1) = (k : Int) + 1 := by rw [IntKind.wrap_i64]; omega
          have f4 : ((k + 1 : Nat) : Int) = (k : Int) + 1 := by omega
          have p1 : 0 ≤ (k : Int) := by omega
          have p2 : (k : Int) < 15 := by omega
          have p3 : 0 ≤ (k : Int) + 1 := by omega
          have p4 : (k : Int) + 1 < 16 := by omega
          have p5 : (k : Int) < 16 := by omega
          have HI2 : Hid (NormI w (wr.drew.setCell ⟨g, k + 1, none⟩ (.int .i64 s)) g z0 (tabI m2)) := Lib.hid (by rw [← hm2, ← tabI_set]; exact (HI.out.drew).cell (k + 1) _)
          have c2 : (wr.setCell ⟨g, k + 1, none⟩ (.int .i64 s)).drew.cell? ⟨g, k, none⟩ = some (.int .i64 x) := by rw [show (wr.setCell ⟨g, k + 1, none⟩ (.int .i64 s)).drew = wr.drew.setCell ⟨g, k + 1, none⟩ (.int .i64 s) from rfl, cell_of_row _ _ _ _ _ _ HI2.out.t, tabI_get _ _ (by omega), hg2]
          have z2 : (wr.setCell ⟨g, k + 1, none⟩ (.int .i64 s)).drew.frozen? ⟨g, k, none⟩ = false := by
            have := HI2.out.t
            show (wr.drew.setCell ⟨g, k + 1, none⟩ (.int .i64 s)).frozen? ⟨g, k, none⟩ = false
            simp [World.frozen?, this]
          have HI3 : Hid (NormI w ((wr.drew.setCell ⟨g, k + 1, none⟩ (.int .i64 s)).setCell ⟨g, k, none⟩ (.int .i64 r)) g z0 (tabI (m2.set k r))) := Lib.hid (by rw [← tabI_set]; exact HI2.out.cell k _)
          clear hst hm hm2 hnx hg2 hml hl2 hx hy hr HI HI2 f4
          go_wp2_with fail
          refine wp_region_still_tail 12 (by kernel_rfl) (by kernel_rfl) ?_
          simp only [List.take_succ_cons, List.take_zero, List.drop_succ_cons, List.drop_zero]
          iterate 12 still_step
          refine wpStill_nil ?_
          go_wp2_with fail
          go_roundw
          case rel => exact ⟨k + 1, by omega, by go_num, by rw [HNX.out]; exact HI3⟩
          case measure => simp [intOf]; omega
        · have hk15 : k = 15 := by omega
          have dk15 : decide ((k : Int) < 15) = false := decide_eq_false (by omega)
          rw [hk15] at HI
          clear hk15
          obtain ⟨F, hF⟩ : ∃ F, carryTo L4 15 = F := ⟨_, rfl⟩
          rw [hF] at HI
          have hFe : fin4 l = F := by unfold fin4; rw [HL4E.out, hF]
          have hFl : F.length = 16 := by rw [← hF, carryTo_len, HL4L.out]
          have hFp := HPF.out
          rw [hFe] at hFp
          have HBW : Hid (∀ W : World, Calls Try.prog 43 #[.agg (tabI F), .agg (tabI primeL)] W fun e w' => e = .returned (.bool (decide (vL F < pP))) ∧ Below W.heap.size W w') := Lib.hid fun W => by
            have h := rbelow9_any F primeL hFl rfl hFp primeL_pr W
            rwa [primeL_val] at h
          obtain ⟨RF, hRF⟩ : ∃ R, tabI F = R := ⟨_, rfl⟩
          have iF : (Try.prog.info? 29).map (·.size) = some RF.size := by rw [← hRF]; exact info_fe hFl
          have HRF := Lib.hid hRF
          have HFL := Lib.hid hFl
          have HFB : Hid (∀ i, i < 16 → 0 ≤ gI F i ∧ gI F i < 65536) := Lib.hid hFp
          have HLQ : Hid (normL l = if vL F < pP then F else carryTo (subL F primeL) 15) := Lib.hid (by unfold normL; rw [hFe])
          rw [hRF] at HI HBW
          obtain ⟨dd, hdd⟩ : ∃ b, decide (vL F < pP) = b := ⟨_, rfl⟩
          rw [hdd] at HBW
          clear hF hFe hFl hFp hRF HOK HPF HL4E HL4L HL4B
          cases dd with
          | true =>
            go_upto_region 16 with fail
            refine wp_region_noPanic ?_
            refine wp_region_held_drew (S := fun W => NormI w W g z0 RF) (by kernel_rfl) (by exact HI.out.drew) (fun hS => ?_)
            refine' take_at 0 rfl (by kernel_rfl) (by kernel_rfl) (by kernel_rfl) (fun _ _ _ h => h) (by rfl) hS ?_ ?_ ?_
            rotate_left 2
            · intro W hSW; exact run_loadR rfl rfl hSW.t Try.underlying29 rfl iF
            · simp only [List.set_cons_succ, List.set_cons_zero]; rfl
            refine call_at 1 rfl (by kernel_rfl) (by rfl) (fun K hK => ?_)
            go_simp
            with_reducible refine (HPR.out _).mono ?_
            rintro e v1 ⟨rfl, hb1⟩
            have kb1 := hS.call hb1
            clear hS hb1
            refine hK.out _ _ (by exact kb1) (fun hS => ?_)
            clear hK K
            refine call_at 2 rfl (by kernel_rfl) (by rfl) (fun K hK => ?_)
            go_simp
            with_reducible refine (HBW.out _).mono ?_
            rintro e v2 ⟨rfl, hb2⟩
            have kb2 := hS.call hb2
            clear hS hb2
            refine hK.out _ _ (by exact kb2) (fun hS => ?_)
            clear hK K
            refine' take_at 3 rfl (by kernel_rfl) (by kernel_rfl) (by kernel_rfl) (fun _ _ _ h => h) (by rfl) hS ?_ ?_ ?_
            rotate_left 2
            · intro W hSW; go_simp; try with_reducible rfl
            · simp only [List.set_cons_succ, List.set_cons_zero]; rfl
            refine wpAnyH_done (by kernel_rfl) ?_ _
            refine NoPanic.normal ?_
            have HLT : Hid (vL F < pP) := Lib.hid (of_decide_eq_true hdd)
            have HI := Lib.hid kb2
            rw [← HRF.out] at HI
            clear hdd kb2 hS
            have h1 := HI.out.t
            have h0 := HI.out.z
            have hfl : (F).length = 16 := HFL.out
            have s1 : (Try.prog.info? 29).map (·.size) = some (tabI (F)).size := info_fe hfl
            have sz : z0.size = (tabI (F)).size := by rw [HZL.out, tabI_size, hfl]
            have o1 := tabI_one (F)
            have HBF := Lib.hid (show Below w.heap.size w (v2.setRow (g + 1) (tabI (F))) by rw [HG.out]; exact below_row HI.out.below (by omega))
            obtain ⟨t1, ht1⟩ : ∃ t, tabI (F) = t := ⟨_, rfl⟩
            rw [ht1] at h1 s1 sz o1 HBF
            have HT1 : Hid (tabI (normL l) = t1) := Lib.hid (by rw [← ht1]; rw [HLQ.out, if_pos HLT.out])
            clear ht1 HI hfl
            go_upto_region 27 with fail
            go_wp2_with (first
              | (refine wpList_load_row rfl 29 (.tmp 1) rfl g rfl 29 t1 (0, 0) _ h1 Try.underlying29 rfl s1 ?_)
              | (refine wpList_store_row rfl 29 (.tmp 2) (.tmp 109) rfl (g + 1) t1 rfl rfl 29 z0 h0 s1 sz o1 ?_))
            (try simp only [Exit.inBlock, Exit.then])
            refine bodyPost_ret (results_cell_row rfl _ _ (g + 1) _ t1 _ _ rfl (setRow_heap _ _ _ _ _ _ h0) Try.underlying29 rfl s1) rfl ?_
            exact ⟨by rw [HT1.out], HBF.out⟩
          | false =>
            go_upto_region 16 with fail
            refine wp_region_noPanic ?_
            refine wp_region_held_drew (S := fun W => NormI w W g z0 RF) (by kernel_rfl) (by exact HI.out.drew) (fun hS => ?_)
            refine' take_at 0 rfl (by kernel_rfl) (by kernel_rfl) (by kernel_rfl) (fun _ _ _ h => h) (by rfl) hS ?_ ?_ ?_
            rotate_left 2
            · intro W hSW; exact run_loadR rfl rfl hSW.t Try.underlying29 rfl iF
            · simp only [List.set_cons_succ, List.set_cons_zero]; rfl
            refine call_at 1 rfl (by kernel_rfl) (by rfl) (fun K hK => ?_)
            go_simp
            with_reducible refine (HPR.out _).mono ?_
            rintro e v1 ⟨rfl, hb1⟩
            have kb1 := hS.call hb1
            clear hS hb1
            refine hK.out _ _ (by exact kb1) (fun hS => ?_)
            clear hK K
            refine call_at 2 rfl (by kernel_rfl) (by rfl) (fun K hK => ?_)
            go_simp
            with_reducible refine (HBW.out _).mono ?_
            rintro e v2 ⟨rfl, hb2⟩
            have kb2 := hS.call hb2
            clear hS hb2
            refine hK.out _ _ (by exact kb2) (fun hS => ?_)
            clear hK K
            refine' take_at 3 rfl (by kernel_rfl) (by kernel_rfl) (by kernel_rfl) (fun _ _ _ h => h) (by rfl) hS ?_ ?_ ?_
            rotate_left 2
            · intro W hSW; go_simp; try with_reducible rfl
            · simp only [List.set_cons_succ, List.set_cons_zero]; rfl
            refine wpAnyH_done (by kernel_rfl) ?_ _
            refine NoPanic.normal ?_
            have HLT : Hid (¬ vL F < pP) := Lib.hid (of_decide_eq_false hdd)
            have HI := Lib.hid kb2
            rw [← HRF.out] at HI
            clear hdd kb2 hS
            go_wp2_with fail
            with_reducible refine (HPR.out _).mono ?_
            rintro e v3 ⟨rfl, hb3⟩
            have HI3 := Lib.hid (HI.out.call hb3)
            obtain ⟨RP, hRP⟩ : ∃ R, tabI primeL = R := ⟨_, rfl⟩
            have iP : (Try.prog.info? 29).map (·.size) = some RP.size := by rw [← hRP]; exact info_fe rfl
            have nP : z0.size = RP.size := by rw [HZL.out, ← hRP, tabI_size]; rfl
            have oP : RP.all (·.oneCell') = true := by rw [← hRP]; exact tabI_one _
            rw [hRP]
            have hp0 : (v3.alloc (.cells z0 29)).heap[v3.heap.size]? = some (.cells z0 29 (0, 0)) := heap_alloc_new _ _
            have HI4 : Hid (NormI w ((v3.alloc (.cells z0 29)).setRow v3.heap.size RP) g z0 (tabI (opTo (fun i => gI F i - gI primeL i) F 0))) := Lib.hid (by rw [opTo_zero _ HFL.out]; exact HI3.out.row _ _)
            have HP4 : Hid (((v3.alloc (.cells z0 29)).setRow v3.heap.size RP).heap[v3.heap.size]? = some (.cells RP 29 (0, 0))) := Lib.hid (setRow_heap _ _ _ _ _ _ hp0)
            have HGP : Hid (g + 1 < v3.heap.size) := Lib.hid HI3.out.lt
            have HRP := Lib.hid hRP
            clear hb3 HI HI3 hRP
            go_wp2_with (refine wpList_store_row rfl 29 (.tmp 6) (.tmp 73) rfl v3.heap.size RP rfl rfl 29 z0 hp0 iP nP oP ?_)
            obtain ⟨W5, hW5⟩ : ∃ W, (v3.alloc (.cells z0 29)).setRow v3.heap.size RP = W := ⟨_, rfl⟩
            obtain ⟨gp, hgp⟩ : ∃ q, v3.heap.size = q := ⟨_, rfl⟩
            rw [hW5] at HI4
            rw [hW5, hgp] at HP4
            rw [hgp] at HGP
            rw [hW5, hgp]
            clear hp0 hW5 hgp
            go_loopw [7] (fun i wr => ∃ k : Nat, k ≤ 16 ∧ i = .int .i64 (k : Int) ∧ Hid (NormI w wr g z0 (tabI (opTo (fun i => gI F i - gI primeL i) F k))) ∧ Hid (wr.heap[gp]? = some (.cells RP 29 (0, 0)))) (fun i _ => 16 - (intOf i).toNat)
            case atStart => exact ⟨0, by omega, rfl, HI4, HP4⟩
            case round =>
              clear HI4 HP4
              obtain ⟨k, hk, rfl, HI, HP⟩ := hrel
              by_cases hlt : k < 16
              · have cx : wr.cell? ⟨g, k, none⟩ = some (.int .i64 (gI F k)) := by rw [cell_of_row _ _ _ _ _ _ HI.out.t, tabI_get _ _ (by rw [opTo_len]; exact hlt), opTo_get _ _ _ _ hlt, if_neg (by omega)]
                have cp : wr.cell? ⟨gp, k, none⟩ = some (.int .i64 (gI primeL k)) := by rw [cell_of_row _ _ _ _ _ _ HP.out, ← HRP.out, tabI_get _ _ hlt]
                have fx : wr.frozen? ⟨g, k, none⟩ = false := by have := HI.out.t; simp [World.frozen?, this]
                have hFk := HFB.out k hlt
                have hPk := primeL_pr k hlt
                obtain ⟨s, hs⟩ : ∃ s, gI F k - gI primeL k = s := ⟨_, rfl⟩
                have HI2 : Hid (NormI w (wr.drew.setCell ⟨g, k, none⟩ (.int .i64 s)) g z0 (tabI (opTo (fun i => gI F i - gI primeL i) F (k + 1)))) := Lib.hid (by
                  rw [← opTo_set (fun i => gI F i - gI primeL i) F hlt, ← hs, ← tabI_set]
                  exact (HI.out.drew).cell k _)
                have HP2 : Hid ((wr.drew.setCell ⟨g, k, none⟩ (.int .i64 s)).heap[gp]? = some (.cells RP 29 (0, 0))) := Lib.hid (by
                  rw [setCell_eq_setRow wr.drew g k _ _ _ (.int .i64 s) HI.out.drew.t, setRow_other _ _ _ _ (by have := HGP.out; omega)]
                  exact HP.out)
                generalize gI F k = x at *
                generalize gI primeL k = y at *
                have f1 : IntKind.i64.wrap s = s := by rw [IntKind.wrap_i64]; omega
                have p1 : 0 ≤ (k : Int) := by omega
                have p2 : (k : Int) < 16 := by omega
                clear HI HP hFk hPk
                go_wp2_with fail
                refine wp_region_still_tail 9 (by kernel_rfl) (by kernel_rfl) ?_
                simp only [List.take_succ_cons, List.take_zero, List.drop_succ_cons, List.drop_zero]
                iterate 9 still_step
                refine wpStill_nil ?_
                go_wp2_with fail
                go_roundw
                case rel => exact ⟨k + 1, by omega, by go_num, HI2, HP2⟩
                case measure => simp [intOf]; omega
              · have hk16 : k = 16 := by omega
                have dk16 : decide ((k : Int) < 16) = false := decide_eq_false (by omega)
                rw [hk16] at HI
                obtain ⟨D8, hD8⟩ : ∃ D, subL F primeL = D := ⟨_, rfl⟩
                rw [opTo_end, show (List.range 16).map (fun i => gI F i - gI primeL i) = D8 from hD8] at HI
                have HD8L : Hid (D8.length = 16) := Lib.hid (by rw [← hD8]; simp [subL])
                have HD8B : Hid (Bd 70368744177664 D8) := Lib.hid (fun i => by
                  by_cases hi : i < 16
                  · rw [← hD8, subL, gI_range _ _ hi]
                    have h1 := HFB.out i hi
                    have h2 := primeL_pr i hi
                    omega
                  · rw [gI_out (by rw [HD8L.out]; omega)]; omega)
                have HD8E := Lib.hid hD8
                clear hk16 hD8 HP HRP
                go_wp2_with fail
                go_loopw [8] (fun i wr => ∃ k : Nat, k ≤ 15 ∧ i = .int .i64 (k : Int) ∧ Hid (NormI w wr g z0 (tabI (carryTo D8 k)))) (fun i _ => 15 - (intOf i).toNat)
                case atStart => exact ⟨0, by omega, rfl, HI⟩
                case round =>
                  clear HI
                  obtain ⟨k, hk, rfl, HI⟩ := hrel
                  by_cases hlt : k < 15
                  · have hml : (carryTo D8 k).length = 16 := by rw [carryTo_len, HD8L.out]
                    have hst := carry_st (l := D8) (B := 70368744177664) (by omega) HD8B.out k (by rw [HD8L.out]; omega)
                    obtain ⟨m, hm⟩ : ∃ m, carryTo D8 k = m := ⟨_, rfl⟩
                    obtain ⟨m2, hm2⟩ : ∃ m2, m.set (k + 1) (gI m (k + 1) + gI m k / 65536) = m2 := ⟨_, rfl⟩
                    have hnx : carryTo D8 (k + 1) = m2.set k (gI m k % 65536) := by rw [carryTo, hm, ← hm2]; rfl
                    have hg2 : gI m2 k = gI m k := by rw [← hm2, gI_set _ _ _ _ (by rw [← hm, hml]; omega), if_neg (by omega)]
                    have hxb := hst.at_
                    have hyb : -70368744177664 ≤ gI m (k + 1) ∧ gI m (k + 1) ≤ 70368744177664 := by
                      have h1 := hst.high (k + 1) (by omega)
                      rw [hm] at h1
                      rw [h1]
                      exact HD8B.out (k + 1)
                    rw [hm] at hml hxb HI
                    have HNX := Lib.hid hnx
                    have hl2 : m2.length = 16 := by rw [← hm2, List.length_set]; exact hml
                    have cx : wr.cell? ⟨g, k, none⟩ = some (.int .i64 (gI m k)) := by rw [cell_of_row _ _ _ _ _ _ HI.out.t, tabI_get _ _ (by omega)]
                    have cy : wr.cell? ⟨g, k + 1, none⟩ = some (.int .i64 (gI m (k + 1))) := by rw [cell_of_row _ _ _ _ _ _ HI.out.t, tabI_get _ _ (by omega)]
                    have fx : wr.frozen? ⟨g, k + 1, none⟩ = false := by have := HI.out.t; simp [World.frozen?, this]
                    obtain ⟨x, hx⟩ : ∃ x, gI m k = x := ⟨_, rfl⟩
                    obtain ⟨y, hy⟩ : ∃ y, gI m (k + 1) = y := ⟨_, rfl⟩
                    obtain ⟨q, hq⟩ : ∃ q, x / 65536 = q := ⟨_, rfl⟩
                    obtain ⟨r, hr⟩ : ∃ r, x % 65536 = r := ⟨_, rfl⟩
                    obtain ⟨s, hs⟩ : ∃ s, y + q = s := ⟨_, rfl⟩
                    rw [hx] at hxb cx hg2
                    rw [hy] at hyb cy
                    rw [hx, hr] at hnx
                    rw [hx, hy, hq, hs] at hm2
                    rw [hx, hr] at HNX
                    have f1 : IntKind.i64.wrap s = s := by rw [IntKind.wrap_i64]; omega
                    have f2 : bits .and .i64 x 65535 = r := by rw [i64_and65535, hr]
                    have f3 : IntKind.i64.wrap ((k : Int) + 1) = (k : Int) + 1 := by rw [IntKind.wrap_i64]; omega
                    have f4 : ((k + 1 : Nat) : Int) = (k : Int) + 1 := by omega
                    have p1 : 0 ≤ (k : Int) := by omega
                    have p2 : (k : Int) < 15 := by omega
                    have p3 : 0 ≤ (k : Int) + 1 := by omega
                    have p4 : (k : Int) + 1 < 16 := by omega
                    have p5 : (k : Int) < 16 := by omega
                    have HI2 : Hid (NormI w (wr.drew.setCell ⟨g, k + 1, none⟩ (.int .i64 s)) g z0 (tabI m2)) := Lib.hid (by rw [← hm2, ← tabI_set]; exact (HI.out.drew).cell (k + 1) _)
                    have c2 : (wr.setCell ⟨g, k + 1, none⟩ (.int .i64 s)).drew.cell? ⟨g, k, none⟩ = some (.int .i64 x) := by rw [show (wr.setCell ⟨g, k + 1, none⟩ (.int .i64 s)).drew = wr.drew.setCell ⟨g, k + 1, none⟩ (.int .i64 s) from rfl, cell_of_row _ _ _ _ _ _ HI2.out.t, tabI_get _ _ (by omega), hg2]
                    have z2 : (wr.setCell ⟨g, k + 1, none⟩ (.int .i64 s)).drew.frozen? ⟨g, k, none⟩ = false := by
                      have := HI2.out.t
                      show (wr.drew.setCell ⟨g, k + 1, none⟩ (.int .i64 s)).frozen? ⟨g, k, none⟩ = false
                      simp [World.frozen?, this]
                    have HI3 : Hid (NormI w ((wr.drew.setCell ⟨g, k + 1, none⟩ (.int .i64 s)).setCell ⟨g, k, none⟩ (.int .i64 r)) g z0 (tabI (m2.set k r))) := Lib.hid (by rw [← tabI_set]; exact HI2.out.cell k _)
                    clear hst hm hm2 hnx hg2 hml hl2 hx hy hr HI HI2 f4
                    go_wp2_with fail
                    refine wp_region_still_tail 12 (by kernel_rfl) (by kernel_rfl) ?_
                    simp only [List.take_succ_cons, List.take_zero, List.drop_succ_cons, List.drop_zero]
                    iterate 12 still_step
                    refine wpStill_nil ?_
                    go_wp2_with fail
                    go_roundw
                    case rel => exact ⟨k + 1, by omega, by go_num, by rw [HNX.out]; exact HI3⟩
                    case measure => simp [intOf]; omega
                  · have hk15 : k = 15 := by omega
                    have dk15 : decide ((k : Int) < 15) = false := decide_eq_false (by omega)
                    rw [hk15] at HI
                    clear hk15
                    have h1 := HI.out.t
                    have h0 := HI.out.z
                    have hfl : (carryTo D8 15).length = 16 := by rw [carryTo_len, HD8L.out]
                    have s1 : (Try.prog.info? 29).map (·.size) = some (tabI (carryTo D8 15)).size := info_fe hfl
                    have sz : z0.size = (tabI (carryTo D8 15)).size := by rw [HZL.out, tabI_size, hfl]
                    have o1 := tabI_one (carryTo D8 15)
                    have HBF := Lib.hid (show Below w.heap.size w (wr.setRow (g + 1) (tabI (carryTo D8 15))) by rw [HG.out]; exact below_row HI.out.below (by omega))
                    obtain ⟨t1, ht1⟩ : ∃ t, tabI (carryTo D8 15) = t := ⟨_, rfl⟩
                    rw [ht1] at h1 s1 sz o1 HBF
                    have HT1 : Hid (tabI (normL l) = t1) := Lib.hid (by rw [← ht1]; rw [HLQ.out, if_neg (by have := HLT.out; omega), HD8E.out])
                    clear ht1 HI hfl
                    go_upto_region 27 with fail
                    go_wp2_with (first
                      | (refine wpList_load_row rfl 29 (.tmp 1) rfl g rfl 29 t1 (0, 0) _ h1 Try.underlying29 rfl s1 ?_)
                      | (refine wpList_store_row rfl 29 (.tmp 2) (.tmp 109) rfl (g + 1) t1 rfl rfl 29 z0 h0 s1 sz o1 ?_))
                    (try simp only [Exit.inBlock, Exit.then])
                    refine bodyPost_ret (results_cell_row rfl _ _ (g + 1) _ t1 _ _ rfl (setRow_heap _ _ _ _ _ _ h0) Try.underlying29 rfl s1) rfl ?_
                    exact ⟨by rw [HT1.out], HBF.out⟩
end Go.Proofs.Ytjekeblcppkghaa

namespace Go.Proofs.Ytjekeblcppkghaa
open Go.RowKit
set_option linter.unusedVariables false
set_option maxRecDepth 100000

theorem fin_pr {l : List Int} (hb : Bd 70368744177664 l) (h : l.length = 16) (h1 : -(8 * P255) ≤ vL l) (h2 : vL l ≤ 35184372088832 * P255) : ∀ i, i < 16 → 0 ≤ gI (fin4 l) i ∧ gI (fin4 l) i < 65536 := by
  obtain ⟨v, e, -⟩ := fin4_is rfl hb h h1 h2
  rw [e]
  exact fun i hi => dgN_get 16 v i hi
theorem rnorm9_any (l : List Int) (hl : l.length = 16) (hb : Bd 70368744177664 l) (h1 : -(8 * P255) ≤ vL l) (h2 : vL l ≤ 35184372088832 * P255) (w : World) :
    Calls Try.prog 28 #[.agg (tabI l)] w fun e w' => e = .returned (.agg (tabI (dgN 16 (vL l % pP)))) ∧ Below w.heap.size w w' := by
  have h := rnormL_any l hl hb (fin_pr hb hl h1 h2) w
  rwa [norm_is rfl hb hl h1 h2] at h

theorem p16 : (65536 : Int) ^ 16 = 2 * P255 := by decide
theorem dg_val {x : Int} (h0 : 0 ≤ x) (h1 : x < pP) : vL (dgN 16 x) = x := vL_dgN 16 x h0 (by rw [p16]; unfold pP P255 at *; omega)
theorem dg_bd {x : Int} (i : Nat) : 0 ≤ gI (dgN 16 x) i ∧ gI (dgN 16 x) i < 65536 := by
  by_cases h : i < 16
  · exact dgN_get 16 x i h
  · rw [gI_out (by rw [dgN_len]; omega)]; omega
/-- sums, differences, digit by digit -/
theorem map_add_val (f g : Nat → Int) (a b : List Int) (ha : a.length = 16) (hb : b.length = 16) : vL ((List.range 16).map fun i => gI a i + gI b i) = vL a + vL b := by
  rw [vL_add, vL16 ha, vL16 hb]
theorem map_bd {f : Nat → Int} {B : Int} (hB : 0 ≤ B) (h : ∀ i, i < 16 → -B ≤ f i ∧ f i ≤ B) : Bd B ((List.range 16).map f) := fun i => by
  by_cases hi : i < 16
  · rw [gI_range _ _ hi]; exact h i hi
  · rw [gI_out (by simp; omega)]; omega

structure AddI (w wr : World) (g : Nat) (X Y z0 : Array Value) : Prop where
  x : wr.heap[g]? = some (.cells X 29 (0, 0))
  y : wr.heap[g + 1]? = some (.cells Y 29 (0, 0))
  z : wr.heap[g + 1 + 1]? = some (.cells z0 29 (0, 0))
  below : Below g w wr
theorem AddI.lt {w wr : World} {g : Nat} {X Y z0 : Array Value} (h : AddI w wr g X Y z0) : g + 1 + 1 < wr.heap.size := (Array.getElem?_eq_some_iff.1 h.z).1
theorem AddI.drew {w wr : World} {g : Nat} {X Y z0 : Array Value} (h : AddI w wr g X Y z0) : AddI w wr.drew g X Y z0 := ⟨h.x, h.y, h.z, h.below.drew⟩
theorem AddI.cell {w wr : World} {g : Nat} {X Y z0 : Array Value} (h : AddI w wr g X Y z0) (k : Nat) (v : Value) : AddI w (wr.setCell ⟨g, k, none⟩ v) g (X.setIfInBounds k v) Y z0 := by
  have e := setCell_eq_setRow wr g k _ _ _ v h.x
  exact ⟨by rw [e, setRow_heap _ _ _ _ _ _ h.x], by rw [e, setRow_other _ _ _ _ (by omega)]; exact h.y, by rw [e, setRow_other _ _ _ _ (by omega)]; exact h.z, h.below.setCell (p := ⟨g, k, none⟩) (Nat.le_refl _) _⟩
theorem AddI.call {w wr W : World} {g : Nat} {X Y z0 : Array Value} (h : AddI w wr g X Y z0) (hb : Below wr.heap.size wr W) : AddI w W g X Y z0 := by
  have hl := h.lt
  exact ⟨by rw [hb.block _ (by omega)]; exact h.x, by rw [hb.block _ (by omega)]; exact h.y, by rw [hb.block _ (by omega)]; exact h.z, h.below.trans (hb.mono (by omega))⟩
theorem AddI.row {w wr : World} {g : Nat} {X Y z0 : Array Value} (h : AddI w wr g X Y z0) (o : Obj) (M : Array Value) : AddI w ((wr.alloc o).setRow wr.heap.size M) g X Y z0 := by
  have hl := h.lt
  refine ⟨?_, ?_, ?_, below_row (h.below.alloc (by omega) _) (by omega)⟩
  · rw [setRow_other _ _ _ _ (by omega), heap_alloc_old _ _ (by omega)]; exact h.x
  · rw [setRow_other _ _ _ _ (by omega), heap_alloc_old _ _ (by omega)]; exact h.y
  · rw [setRow_other _ _ _ _ (by omega), heap_alloc_old _ _ (by omega)]; exact h.z
theorem addI_start (w : World) (X Y z0 : Array Value) : AddI w (((w.alloc (.cells X 29)).alloc (.cells Y 29)).alloc (.cells z0 29)) w.heap.size X Y z0 := by
  refine ⟨?_, ?_, ?_, (((Below.refl w.heap.size w).alloc (Nat.le_refl _) _).alloc (by simp) _).alloc (by simp; omega) _⟩
  · rw [heap_alloc_old _ _ (by rw [World.size_alloc, World.size_alloc]; omega)]; exact heap_alloc2_old _ _ _
  · rw [heap_alloc_old _ _ (by rw [World.size_alloc, World.size_alloc]; omega)]; exact heap_alloc2_new _ _ _
  · have := heap_alloc_new ((w.alloc (.cells X 29)).alloc (.cells Y 29)) (.cells z0 29)
    rwa [World.size_alloc, World.size_alloc] at this

set_option maxHeartbeats 1600000 in
theorem rsub9_any (x y : Int) (hx0 : 0 ≤ x) (hx : x < pP) (hy0 : 0 ≤ y) (hy : y < pP) (w : World) :
    Calls Try.prog 45 #[.agg (tabI (dgN 16 x)), .agg (tabI (dgN 16 y))] w fun e w' => e = .returned (.agg (tabI (dgN 16 ((x - y) % pP)))) ∧ Below w.heap.size w w' := by
  have hz := fun u => zero_fe u
  obtain ⟨z0, hz0e⟩ : ∃ t, tabI (List.replicate 16 0) = t := ⟨_, rfl⟩
  rw [hz0e] at hz
  have n0 : z0.size = 16 := by rw [← hz0e, tabI_size]; simp
  obtain ⟨a, ha⟩ : ∃ a, dgN 16 x = a := ⟨_, rfl⟩
  obtain ⟨b, hb⟩ : ∃ b, dgN 16 y = b := ⟨_, rfl⟩
  have hal : a.length = 16 := by rw [← ha, dgN_len]
  have hbl : b.length = 16 := by rw [← hb, dgN_len]
  have hab : ∀ i, 0 ≤ gI a i ∧ gI a i < 65536 := by rw [← ha]; exact fun i => dg_bd i
  have hbb : ∀ i, 0 ≤ gI b i ∧ gI b i < 65536 := by rw [← hb]; exact fun i => dg_bd i
  have hsv : vL ((List.range 16).map fun i => gI a i + gI primeL i - gI b i) = x + pP - y := by
    have e1 := vL_add (fun i => gI a i + gI primeL i) (fun i => (-1) * gI b i) (List.range 16)
    rw [vL_mulc, map_add_val (fun _ => 0) (fun _ => 0) a primeL hal rfl, vL16 hbl, primeL_val, ← ha, ← hb, dg_val hx0 hx, dg_val hy0 hy] at e1
    rw [show (fun i => gI a i + gI primeL i - gI b i) = fun i => gI a i + gI primeL i + (-1) * gI b i from funext fun i => by omega, ← ha, ← hb, e1]
    omega
  have hsb : Bd 70368744177664 ((List.range 16).map fun i => gI a i + gI primeL i - gI b i) := map_bd (by omega) (fun i hi => by have := hab i; have := hbb i; have := primeL_pr i hi; omega)
  have HNO : Hid (∀ W : World, Calls Try.prog 28 #[.agg (tabI ((List.range 16).map fun i => gI a i + gI primeL i - gI b i))] W fun e w' => e = .returned (.agg (tabI (dgN 16 ((x - y) % pP)))) ∧ Below W.heap.size W w') := Lib.hid fun W => by
    have h := rnorm9_any _ (by simp) hsb (by rw [hsv]; unfold pP P255 at *; omega) (by rw [hsv]; unfold pP P255 at *; omega) W
    rw [hsv, show (x + pP - y) % pP = (x - y) % pP by unfold pP; omega] at h
    exact h
  obtain ⟨R, hR⟩ : ∃ R, tabI (dgN 16 ((x - y) % pP)) = R := ⟨_, rfl⟩
  have nR : R.size = 16 := by rw [← hR, tabI_size, dgN_len]
  have oR : R.all (·.oneCell') = true := by rw [← hR]; exact tabI_one _
  have iR : (Try.prog.info? 29).map (·.size) = some R.size := by rw [← hR]; exact info_fe (dgN_len _ _)
  have zR : z0.size = R.size := by rw [n0, nR]
  rw [hR] at HNO ⊢
  rw [ha, hb]
  have HPR : Hid (∀ W : World, Calls Try.prog 44 #[] W fun e w' => e = .returned (.agg (tabI primeL)) ∧ Below W.heap.size W w') := Lib.hid rprime9_any
  obtain ⟨RP, hRP⟩ : ∃ R, tabI primeL = R := ⟨_, rfl⟩
  have iP : (Try.prog.info? 29).map (·.size) = some RP.size := by rw [← hRP]; exact info_fe rfl
  have nP : z0.size = RP.size := by rw [n0, ← hRP, tabI_size]; rfl
  have oP : RP.all (·.oneCell') = true := by rw [← hRP]; exact tabI_one _
  rw [hRP] at HPR
  have HRP := Lib.hid hRP
  clear hRP
  have HAL := Lib.hid hal
  have HBL := Lib.hid hbl
  have HAB := Lib.hid hab
  have HBB := Lib.hid hbb
  obtain ⟨XA, hXA⟩ : ∃ X, tabI a = X := ⟨_, rfl⟩
  obtain ⟨YB, hYB⟩ : ∃ X, tabI b = X := ⟨_, rfl⟩
  have HI : Hid (AddI w (((w.alloc (.cells XA 29)).alloc (.cells YB 29)).alloc (.cells z0 29)) w.heap.size (tabI (opTo (fun i => gI a i + gI primeL i - gI b i) a 0)) YB z0) := Lib.hid (by rw [opTo_zero _ hal, hXA]; exact addI_start _ _ _ _)
  have HYB := Lib.hid hYB
  rw [hXA, hYB]
  clear hz0e n0 ha hb hal hbl hab hbb hsv hsb hR nR hXA hYB hx0 hx hy0 hy
  go_enter Try.func45, Try.ntmps45
  go_wp2_with fail
  obtain ⟨W1, hW1⟩ : ∃ W, ((w.alloc (.cells XA 29)).alloc (.cells YB 29)).alloc (.cells z0 29) = W := ⟨_, rfl⟩
  obtain ⟨g, hg⟩ : ∃ g, w.heap.size = g := ⟨_, rfl⟩
  rw [hW1, hg] at HI
  rw [hW1, hg]
  have HG := Lib.hid hg
  clear hW1 hg
  with_reducible refine (HPR.out _).mono ?_
  rintro e v3 ⟨rfl, hb3⟩
  have HI3 := Lib.hid (HI.out.call hb3)
  have hp0 : (v3.alloc (.cells z0 29)).heap[v3.heap.size]? = some (.cells z0 29 (0, 0)) := heap_alloc_new _ _
  have HI4 := Lib.hid (HI3.out.row (.cells z0 29) RP)
  have HP4 : Hid (((v3.alloc (.cells z0 29)).setRow v3.heap.size RP).heap[v3.heap.size]? = some (.cells RP 29 (0, 0))) := Lib.hid (setRow_heap _ _ _ _ _ _ hp0)
  have HGP : Hid (g + 1 + 1 < v3.heap.size) := Lib.hid HI3.out.lt
  clear hb3 HI HI3
  go_wp2_with (refine wpList_store_row rfl 29 (.tmp 5) (.tmp 7) rfl v3.heap.size RP rfl rfl 29 z0 hp0 iP nP oP ?_)
  obtain ⟨W5, hW5⟩ : ∃ W, (v3.alloc (.cells z0 29)).setRow v3.heap.size RP = W := ⟨_, rfl⟩
  obtain ⟨gp, hgp⟩ : ∃ q, v3.heap.size = q := ⟨_, rfl⟩
  rw [hW5] at HI4
  rw [hW5, hgp] at HP4
  rw [hgp] at HGP
  rw [hW5, hgp]
  clear hp0 hW5 hgp
  go_loopw [6] (fun i wr => ∃ k : Nat, k ≤ 16 ∧ i = .int .i64 (k : Int) ∧ Hid (AddI w wr g (tabI (opTo (fun i => gI a i + gI primeL i - gI b i) a k)) YB z0) ∧ Hid (wr.heap[gp]? = some (.cells RP 29 (0, 0)))) (fun i _ => 16 - (intOf i).toNat)
  case atStart => exact ⟨0, by omega, rfl, HI4, HP4⟩
  case round =>
    clear HI4 HP4
    obtain ⟨k, hk, rfl, HI, HP⟩ := hrel
    by_cases hlt : k < 16
    · have cx : wr.cell? ⟨g, k, none⟩ = some (.int .i64 (gI a k)) := by rw [cell_of_row _ _ _ _ _ _ HI.out.x, tabI_get _ _ (by rw [opTo_len]; exact hlt), opTo_get _ _ _ _ hlt, if_neg (by omega)]
      have cy : wr.cell? ⟨g + 1, k, none⟩ = some (.int .i64 (gI b k)) := by rw [cell_of_row _ _ _ _ _ _ HI.out.y, ← HYB.out, tabI_get _ _ (by rw [HBL.out]; exact hlt)]
      have cp : wr.cell? ⟨gp, k, none⟩ = some (.int .i64 (gI primeL k)) := by rw [cell_of_row _ _ _ _ _ _ HP.out, ← HRP.out, tabI_get _ _ hlt]
      have h3 := primeL_pr k hlt
      have fx : wr.frozen? ⟨g, k, none⟩ = false := by have := HI.out.x; simp [World.frozen?, this]
      have h1 := HAB.out k
      have h2 := HBB.out k
      obtain ⟨s, hs⟩ : ∃ s, gI a k + gI primeL k - gI b k = s := ⟨_, rfl⟩
      have HI2 : Hid (AddI w (wr.drew.setCell ⟨g, k, none⟩ (.int .i64 s)) g (tabI (opTo (fun i => gI a i + gI primeL i - gI b i) a (k + 1))) YB z0) := Lib.hid (by
        rw [← opTo_set (fun i => gI a i + gI primeL i - gI b i) a hlt, ← hs, ← tabI_set]
        exact (HI.out.drew).cell k _)
      have HP2 : Hid ((wr.drew.setCell ⟨g, k, none⟩ (.int .i64 s)).heap[gp]? = some (.cells RP 29 (0, 0))) := Lib.hid (by
        rw [setCell_eq_setRow wr.drew g k _ _ _ (.int .i64 s) HI.out.drew.x, setRow_other _ _ _ _ (by have := HGP.out; omega)]
        exact HP.out)
      generalize gI primeL k = t at *
      obtain ⟨q, hq⟩ : ∃ q, gI a k + t = q := ⟨_, rfl⟩
      rw [hq] at hs
      generalize gI a k = u at *
      generalize gI b k = v at *
      have f0 : IntKind.i64.wrap q = q := by rw [IntKind.wrap_i64]; omega
      have f1 : IntKind.i64.wrap s = s := by rw [IntKind.wrap_i64]; omega
      have p1 : 0 ≤ (k : Int) := by omega
      have p2 : (k : Int) < 16 := by omega
      clear HI HP h1 h2 h3
      go_wp2_with fail
      refine wp_region_still_tail 13 (by kernel_rfl) (by kernel_rfl) ?_
      simp only [List.take_succ_cons, List.take_zero, List.drop_succ_cons, List.drop_zero]
      iterate 13 still_step
      refine wpStill_nil ?_
      go_wp2_with fail
      go_roundw
      case rel => exact ⟨k + 1, by omega, by go_num, HI2, HP2⟩
      case measure => simp [intOf]; omega
    · obtain rfl : k = 16 := by omega
      rw [opTo_end] at HI
      have h1 := HI.out.x
      have s1 : (Try.prog.info? 29).map (·.size) = some (tabI ((List.range 16).map fun i => gI a i + gI primeL i - gI b i)).size := info_fe (by simp)
      generalize tabI ((List.range 16).map fun i => gI a i + gI primeL i - gI b i) = T1 at *
      go_wp2_with (refine wpList_load_row rfl 29 (.tmp 2) rfl g rfl 29 T1 (0, 0) _ h1 Try.underlying29 rfl s1 ?_)
      with_reducible refine (HNO.out _).mono ?_
      rintro e w2 ⟨rfl, hb2⟩
      have HI2 := HI.out.call hb2
      have h0 := HI2.z
      have HB := Lib.hid (show Below w.heap.size w (w2.setRow (g + 1 + 1) R) by rw [HG.out]; exact below_row HI2.below (by omega))
      clear hb2 HI HI2 h1
      go_wp2_with (refine wpList_store_row rfl 29 (.tmp 4) (.tmp 26) rfl (g + 1 + 1) R rfl rfl 29 z0 h0 iR zR oR ?_)
      (try simp only [Exit.inBlock, Exit.then])
      refine bodyPost_ret (results_cell_row rfl _ _ (g + 1 + 1) _ R _ _ rfl (setRow_heap _ _ _ _ _ _ h0) Try.underlying29 rfl iR) rfl ?_
      exact ⟨rfl, HB.out⟩

theorem dg_zero : dgN 16 0 = List.replicate 16 0 := by decide
set_option maxHeartbeats 800000 in
theorem rneg9_any (x : Int) (hx0 : 0 ≤ x) (hx : x < pP) (w : World) :
    Calls Try.prog 33 #[.agg (tabI (dgN 16 x))] w fun e w' => e = .returned (.agg (tabI (dgN 16 (-x % pP)))) ∧ Below w.heap.size w w' := by
  have hz := fun u => zero_fe u
  have HS : Hid (∀ W : World, Calls Try.prog 45 #[.agg (tabI (List.replicate 16 0)), .agg (tabI (dgN 16 x))] W fun e w' => e = .returned (.agg (tabI (dgN 16 (-x % pP)))) ∧ Below W.heap.size W w') := Lib.hid fun W => by
    have h := rsub9_any 0 x (by omega) (by decide) hx0 hx W
    rwa [dg_zero, Int.zero_sub] at h
  obtain ⟨z0, hz0e⟩ : ∃ t, tabI (List.replicate 16 0) = t := ⟨_, rfl⟩
  rw [hz0e] at hz HS
  have n0 : z0.size = 16 := by rw [← hz0e, tabI_size]; simp
  obtain ⟨X, hX⟩ : ∃ t, tabI (dgN 16 x) = t := ⟨_, rfl⟩
  have iX : (Try.prog.info? 29).map (·.size) = some X.size := by rw [← hX]; exact info_fe (dgN_len _ _)
  obtain ⟨R, hR⟩ : ∃ t, tabI (dgN 16 (-x % pP)) = t := ⟨_, rfl⟩
  have iR : (Try.prog.info? 29).map (·.size) = some R.size := by rw [← hR]; exact info_fe (dgN_len _ _)
  have zR : z0.size = R.size := by rw [n0, ← hR, tabI_size, dgN_len]
  have oR : R.all (·.oneCell') = true := by rw [← hR]; exact tabI_one _
  rw [hX, hR] at HS
  rw [hX, hR]
  have h0 : ((w.alloc (.cells X 29)).alloc (.cells z0 29)).heap[w.heap.size]? = some (.cells X 29 (0, 0)) := heap_alloc2_old _ _ _
  have h1 : ((w.alloc (.cells X 29)).alloc (.cells z0 29)).heap[w.heap.size + 1]? = some (.cells z0 29 (0, 0)) := heap_alloc2_new _ _ _
  have H1 := Lib.hid h1
  have HB : Hid (Below w.heap.size w ((w.alloc (.cells X 29)).alloc (.cells z0 29))) := Lib.hid (((Below.refl w.heap.size w).alloc (Nat.le_refl _) _).alloc (by simp) _)
  clear hz0e n0 hX hR h1
  go_enter Try.func33, Try.ntmps33
  go_wp2_with (refine wpList_load_row rfl 29 (.tmp 1) rfl w.heap.size rfl 29 X (0, 0) _ h0 Try.underlying29 rfl iX ?_)
  with_reducible refine (HS.out _).mono ?_
  rintro e w2 ⟨rfl, hb2⟩
  have h2 : w2.heap[w.heap.size + 1]? = some (.cells z0 29 (0, 0)) := by rw [hb2.block _ (by simp)]; exact H1.out
  have HBF := Lib.hid (below_row (cs := R) (g := w.heap.size + 1) (below_then HB.out hb2) (by omega))
  clear hb2 h0
  go_wp2_with (refine wpList_store_row rfl 29 (.tmp 2) (.tmp 5) rfl (w.heap.size + 1) R rfl rfl 29 z0 h2 iR zR oR ?_)
  (try simp only [Exit.inBlock, Exit.then])
  refine bodyPost_ret (results_cell_row rfl _ _ (w.heap.size + 1) _ R _ _ rfl (setRow_heap _ _ _ _ _ _ h2) Try.underlying29 rfl iR) rfl ?_
  exact ⟨rfl, HBF.out⟩
end Go.Proofs.Ytjekeblcppkghaa

