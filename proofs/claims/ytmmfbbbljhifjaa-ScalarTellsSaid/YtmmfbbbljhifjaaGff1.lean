/- Numbers by sixteen digits of 16 bits, plainly: carries, the fold at 2^255, norm. No program is named here. Rows of integers in memory; two of them compared. The contracts of the reference's prime, below, norm. Written by wip/tools/mk_norm9.py. The contract of the reference's norm. Written by wip/tools/mk_norm9.py. The contracts of the reference's norm (by its number), Add, Sub, Neg, Odd. -/
import Derived.Test.YtmmfbbbljhifjaaGbase
import Derived.Laws.StructEq
import Derived.StillTailTactics
import Derived.Laws.BitsLemmas
namespace Go.Proofs.Ytmmfbbbljhifjaa
set_option linter.unusedVariables false
set_option maxRecDepth 100000

def vL : List Int → Int
  | [] => 0
  | a :: l => a + 65536 * vL l
def gI (l : List Int) (i : Nat) : Int := l.getD i 0
theorem gI_cons (a : Int) (l : List Int) (i : Nat) : gI (a :: l) (i + 1) = gI l i := rfl
theorem gI_zero (a : Int) (l : List Int) : gI (a :: l) 0 = a := rfl
theorem gI_set (l : List Int) (i j : Nat) (x : Int) (hi : i < l.length) : gI (l.set i x) j = if i = j then x else gI l j := by
  unfold gI
  simp only [List.getD, List.getElem?_set]
  by_cases h : i = j
  · subst h; simp [hi]
  · simp [h]
theorem vL_set : ∀ (l : List Int) (i : Nat) (x : Int), i < l.length → vL (l.set i x) = vL l + (x - gI l i) * 65536 ^ i
  | [], i, x, h => by simp at h
  | a :: l, 0, x, _ => by simp [vL, gI_zero]; omega
  | a :: l, i + 1, x, h => by
    have ih := vL_set l i x (by simpa using h)
    rw [List.set_cons_succ, vL, vL, ih, gI_cons, Int.pow_succ, ← Int.mul_assoc, Int.mul_comm _ (65536 : Int)]
    generalize (x - gI l i) * 65536 ^ i = q
    omega
/-- one carry -/
def cstep (l : List Int) (i : Nat) : List Int := (l.set (i + 1) (gI l (i + 1) + gI l i / 65536)).set i (gI l i % 65536)
def carryTo (l : List Int) : Nat → List Int
  | 0 => l
  | k + 1 => cstep (carryTo l k) k
theorem cstep_len (l : List Int) (i : Nat) : (cstep l i).length = l.length := by simp [cstep]
theorem carryTo_len (l : List Int) : ∀ k, (carryTo l k).length = l.length
  | 0 => rfl
  | k + 1 => by rw [carryTo, cstep_len, carryTo_len l k]
theorem cstep_get (l : List Int) (i j : Nat) (h : i + 1 < l.length) : gI (cstep l i) j = if j = i then gI l i % 65536 else if j = i + 1 then gI l (i + 1) + gI l i / 65536 else gI l j := by
  unfold cstep
  rw [gI_set _ _ _ _ (by simp; omega), gI_set _ _ _ _ h]
  by_cases h1 : i = j
  · subst h1; simp
  · have h1' : ¬ j = i := fun e => h1 e.symm
    by_cases h2 : i + 1 = j
    · subst h2; simp
    · have h2' : ¬ j = i + 1 := fun e => h2 e.symm
      simp only [h1, h1', h2, h2', if_false]
theorem cstep_val (l : List Int) (i : Nat) (h : i + 1 < l.length) : vL (cstep l i) = vL l := by
  unfold cstep
  rw [vL_set _ _ _ (by simp; omega), vL_set _ _ _ h, gI_set _ _ _ _ h, if_neg (by omega), Int.pow_succ]
  have e : gI l i = 65536 * (gI l i / 65536) + gI l i % 65536 := by omega
  generalize gI l i / 65536 = q at *
  generalize gI l i % 65536 = r at *
  rw [e]
  generalize (65536 : Int) ^ i = p
  grind
theorem carryTo_val (l : List Int) : ∀ k, k < l.length → vL (carryTo l k) = vL l
  | 0, _ => rfl
  | k + 1, h => by rw [carryTo, cstep_val _ _ (by rw [carryTo_len]; omega), carryTo_val l k (by omega)]
def Bd (B : Int) (l : List Int) : Prop := ∀ i, -B ≤ gI l i ∧ gI l i ≤ B
structure CarrySt (B : Int) (l m : List Int) (k : Nat) : Prop where
  low : ∀ j, j < k → 0 ≤ gI m j ∧ gI m j < 65536
  at_ : -(2 * B) ≤ gI m k ∧ gI m k ≤ 2 * B
  high : ∀ j, k < j → gI m j = gI l j
theorem carry_st {B : Int} {l : List Int} (hB : 2 ≤ B) (hb : Bd B l) : ∀ k, k < l.length → CarrySt B l (carryTo l k) k
  | 0, _ => ⟨fun j h => by omega, by have := hb 0; show -(2 * B) ≤ gI l 0 ∧ gI l 0 ≤ 2 * B; omega, fun j _ => rfl⟩
  | k + 1, h => by
    have ih := carry_st hB hb k (by omega)
    have hk := cstep_get (carryTo l k) k
    have hlen : k + 1 < (carryTo l k).length := by rw [carryTo_len]; exact h
    refine ⟨fun j hj => ?_, ?_, fun j hj => ?_⟩
    · rw [carryTo, hk j hlen]
      by_cases e : j = k
      · rw [if_pos e]; omega
      · rw [if_neg e, if_neg (by omega)]; exact ih.low j (by omega)
    · rw [carryTo, hk (k + 1) hlen, if_neg (by omega), if_pos rfl, ih.high (k + 1) (by omega)]
      have := hb (k + 1)
      have := ih.at_
      omega
    · rw [carryTo, hk j hlen, if_neg (by omega), if_neg (by omega)]; exact ih.high j (by omega)

/-! Digits that are digits. -/
def Pr (l : List Int) : Prop := ∀ i, 0 ≤ gI l i ∧ gI l i < 65536
theorem vL_bound : ∀ l : List Int, (∀ i, i < l.length → 0 ≤ gI l i ∧ gI l i < 65536) → 0 ≤ vL l ∧ vL l < 65536 ^ l.length
  | [], _ => by simp [vL]
  | a :: l, h => by
    have h0 := h 0 (by simp)
    have ih := vL_bound l (fun i hi => h (i + 1) (by simp; omega))
    rw [gI_zero] at h0
    rw [vL, List.length_cons, Int.pow_succ]
    generalize (65536 : Int) ^ l.length = p at *
    omega
def dgN (n : Nat) (v : Int) : List Int := match n with
  | 0 => []
  | n + 1 => v % 65536 :: dgN n (v / 65536)
theorem dgN_len : ∀ n v, (dgN n v).length = n
  | 0, _ => rfl
  | n + 1, v => by simp [dgN, dgN_len n]
theorem dg_unique : ∀ l : List Int, (∀ i, i < l.length → 0 ≤ gI l i ∧ gI l i < 65536) → l = dgN l.length (vL l)
  | [], _ => rfl
  | a :: l, h => by
    have h0 := h 0 (by simp)
    rw [gI_zero] at h0
    have ih := dg_unique l (fun i hi => h (i + 1) (by simp; omega))
    have e1 : (a + 65536 * vL l) % 65536 = a := by omega
    have e2 : (a + 65536 * vL l) / 65536 = vL l := by omega
    rw [List.length_cons, dgN, vL, e1, e2, ← ih]
theorem vL_dgN : ∀ n (v : Int), 0 ≤ v → v < 65536 ^ n → vL (dgN n v) = v
  | 0, v, h0, h1 => by simp at h1; show (0 : Int) = v; omega
  | n + 1, v, h0, h1 => by
    rw [Int.pow_succ] at h1
    have ih := vL_dgN n (v / 65536) (by omega) (by generalize (65536 : Int) ^ n = p at *; omega)
    rw [dgN, vL, ih]
    omega
theorem dgN_get : ∀ n (v : Int) i, i < n → 0 ≤ gI (dgN n v) i ∧ gI (dgN n v) i < 65536
  | 0, _, _, h => by omega
  | n + 1, v, 0, _ => by rw [dgN, gI_zero]; omega
  | n + 1, v, i + 1, h => by rw [dgN, gI_cons]; exact dgN_get n _ i (by omega)
theorem vL_split (l : List Int) (a : Int) : vL (l ++ [a]) = vL l + a * 65536 ^ l.length := by
  induction l with
  | nil => simp [vL]
  | cons b l ih =>
    rw [List.cons_append, vL, vL, ih, List.length_cons, Int.pow_succ, ← Int.mul_assoc, Int.mul_comm _ (65536 : Int)]
    generalize a * 65536 ^ l.length = q
    omega
theorem split16 {l : List Int} (h : l.length = 16) : ∃ m, l = m ++ [gI l 15] ∧ m.length = 15 ∧ ∀ i, i < 15 → gI m i = gI l i := by
  refine ⟨l.take 15, ?_, by rw [List.length_take, h]; rfl, fun i hi => ?_⟩
  · have e := List.take_append_drop 15 l
    have d : l.drop 15 = [gI l 15] := by
      rw [List.drop_eq_getElem_cons (by omega), List.drop_eq_nil_of_le (by omega)]
      simp [gI, List.getD, List.getElem?_eq_getElem (show 15 < l.length by omega)]
    rw [← d]; exact e.symm
  · unfold gI
    simp [List.getD, hi]
abbrev P255 : Int := 57896044618658097711785492504343953926634992332820282019728792003956564819968
abbrev P240 : Int := 1766847064778384329583297500742918515827483896875618958121606201292619776
abbrev pP : Int := 57896044618658097711785492504343953926634992332820282019728792003956564819949
/-- the highest digit, where the others are digits -/
theorem top_digit {l : List Int} (h : l.length = 16) (hp : ∀ i, i < 15 → 0 ≤ gI l i ∧ gI l i < 65536) : gI l 15 = vL l / P240 := by
  obtain ⟨m, e, hm, hg⟩ := split16 h
  have hv := vL_split m (gI l 15)
  rw [← e, hm] at hv
  have hb := vL_bound m (fun i hi => by rw [hg i (by omega)]; exact hp i (by omega))
  rw [hm] at hb
  have e15 : (65536 : Int) ^ 15 = P240 := by decide
  rw [e15] at hv hb
  generalize gI l 15 = t at *
  generalize vL l = v at *
  generalize vL m = u at *
  unfold P240 at *
  omega

/-- what lies above 2^255 comes in below -/
def foldL (l : List Int) : List Int := (l.set 0 (gI l 0 + 19 * (gI l 15 / 32768))).set 15 (gI l 15 % 32768)
theorem foldL_len (l : List Int) : (foldL l).length = l.length := by simp [foldL]
theorem foldL_get {l : List Int} (h : l.length = 16) (j : Nat) : gI (foldL l) j = if j = 15 then gI l 15 % 32768 else if j = 0 then gI l 0 + 19 * (gI l 15 / 32768) else gI l j := by
  unfold foldL
  rw [gI_set _ _ _ _ (by simp; omega), gI_set _ _ _ _ (by omega)]
  by_cases h1 : 15 = j
  · subst h1; simp
  · have h1' : ¬ j = 15 := fun e => h1 e.symm
    by_cases h2 : 0 = j
    · subst h2; simp
    · have h2' : ¬ j = 0 := fun e => h2 e.symm
      simp only [h1, h1', h2, h2', if_false]
theorem foldL_val {l : List Int} (h : l.length = 16) : vL (foldL l) = vL l - gI l 15 / 32768 * pP := by
  unfold foldL
  rw [vL_set _ _ _ (by simp; omega), vL_set _ _ _ (by omega), gI_set _ _ _ _ (by omega), if_neg (by omega)]
  have e15 : (65536 : Int) ^ 15 = P240 := by decide
  rw [e15, Int.pow_zero]
  generalize gI l 15 = t
  generalize gI l 0 = z
  generalize vL l = v
  unfold P240 pP
  omega
def passL (l : List Int) : List Int := foldL (carryTo l 15)
def fV (v : Int) : Int := v % P255 + 19 * (v / P255)
theorem pass_val {B : Int} {l : List Int} (hB : 2 ≤ B) (hb : Bd B l) (h : l.length = 16) : vL (passL l) = fV (vL l) := by
  have hc := carry_st hB hb 15 (by omega)
  have hl : (carryTo l 15).length = 16 := by rw [carryTo_len, h]
  have ht := top_digit hl hc.low
  have hv := carryTo_val l 15 (by omega)
  unfold passL fV
  rw [foldL_val hl, ht, hv]
  generalize vL l = v
  unfold P240 pP P255
  omega
theorem pass_len {l : List Int} (h : l.length = 16) : (passL l).length = 16 := by rw [passL, foldL_len, carryTo_len, h]
theorem pass_bd {B : Int} {l : List Int} (hB : 70368744177664 = B) (hb : Bd B l) (h : l.length = 16) : Bd B (passL l) := by
  have hc := carry_st (by omega) hb 15 (by omega)
  have hl : (carryTo l 15).length = 16 := by rw [carryTo_len, h]
  intro i
  rw [passL, foldL_get hl]
  by_cases h15 : i = 15
  · rw [if_pos h15]; omega
  · rw [if_neg h15]
    by_cases h0 : i = 0
    · rw [if_pos h0]
      have := hc.at_
      have := hc.low 0 (by omega)
      omega
    · rw [if_neg h0]
      by_cases hi : i < 15
      · have := hc.low i hi; omega
      · rw [hc.high i (by omega)]; exact hb i
def passN (l : List Int) : Nat → List Int
  | 0 => l
  | k + 1 => passL (passN l k)
theorem passN_ok {B : Int} {l : List Int} (hB : 70368744177664 = B) (hb : Bd B l) (h : l.length = 16) : ∀ k, (passN l k).length = 16 ∧ Bd B (passN l k)
  | 0 => ⟨h, hb⟩
  | k + 1 => by
    have ih := passN_ok hB hb h k
    exact ⟨pass_len ih.1, pass_bd hB ih.2 ih.1⟩
theorem passN_val {B : Int} {l : List Int} (hB : 70368744177664 = B) (hb : Bd B l) (h : l.length = 16) (k : Nat) : vL (passN l (k + 1)) = fV (vL (passN l k)) := by
  have ih := passN_ok hB hb h k
  exact pass_val (by omega) ih.2 ih.1
theorem fV_four (v : Int) (h1 : -(8 * P255) ≤ v) (h2 : v ≤ 35184372088832 * P255) : 0 ≤ fV (fV (fV (fV v))) ∧ fV (fV (fV (fV v))) < P255 ∧ fV (fV (fV (fV v))) % pP = v % pP := by
  have a1 : fV v % pP = v % pP ∧ -200 ≤ fV v ∧ fV v ≤ P255 + 668503069687808 := by unfold fV pP P255 at *; omega
  generalize fV v = x at *
  have a2 : fV x % pP = x % pP ∧ 0 ≤ fV x ∧ fV x < P255 := by unfold fV pP P255 at *; omega
  generalize fV x = y at *
  have a3 : fV y = y := by unfold fV pP P255 at *; omega
  rw [a3, a3]
  omega
def primeL : List Int := [65517, 65535, 65535, 65535, 65535, 65535, 65535, 65535, 65535, 65535, 65535, 65535, 65535, 65535, 65535, 32767]
theorem primeL_val : vL primeL = pP := by decide
theorem primeL_pr : ∀ i, i < 16 → 0 ≤ gI primeL i ∧ gI primeL i < 65536 := by decide
/-- digit by digit: k of them turned -/
def opTo (f : Nat → Int) (a : List Int) (k : Nat) : List Int := (List.range 16).map fun i => if i < k then f i else gI a i
theorem opTo_len (f a k) : (opTo f a k).length = 16 := by simp [opTo]
theorem opTo_get (f : Nat → Int) (a : List Int) (k i : Nat) (h : i < 16) : gI (opTo f a k) i = if i < k then f i else gI a i := by
  simp [opTo, gI, List.getD, h]
theorem list16 {l : List Int} (h : l.length = 16) : l = (List.range 16).map fun i => gI l i := by
  apply List.ext_getElem (by simp [h])
  intro i h1 h2
  simp [gI, List.getD, List.getElem?_eq_getElem h1]
theorem opTo_zero (f : Nat → Int) {a : List Int} (h : a.length = 16) : opTo f a 0 = a := by
  have e := list16 h
  unfold opTo
  simp only [Nat.not_lt_zero, if_false]
  exact e.symm
theorem opTo_set (f : Nat → Int) (a : List Int) {k : Nat} (h : k < 16) : (opTo f a k).set k (f k) = opTo f a (k + 1) := by
  apply List.ext_getElem (by simp [opTo])
  intro i h1 h2
  rw [List.getElem_set]
  by_cases e : k = i
  · subst e; simp [opTo]
  · rw [if_neg e]
    simp only [opTo, List.getElem_map, List.getElem_range]
    by_cases g : i < k
    · rw [if_pos g, if_pos (by omega)]
    · rw [if_neg g, if_neg (by omega)]
theorem opTo_end (f : Nat → Int) (a : List Int) : opTo f a 16 = (List.range 16).map f := by
  unfold opTo
  apply List.map_congr_left
  intro i hi
  rw [if_pos (List.mem_range.1 hi)]
theorem vL_add (f g : Nat → Int) : ∀ l : List Nat, vL (l.map fun i => f i + g i) = vL (l.map f) + vL (l.map g)
  | [] => rfl
  | a :: l => by
    have ih := vL_add f g l
    rw [List.map_cons, List.map_cons, List.map_cons, vL, vL, vL, ih]; omega
theorem vL_mulc (c : Int) (f : Nat → Int) : ∀ l : List Nat, vL (l.map fun i => c * f i) = c * vL (l.map f)
  | [] => by simp [vL]
  | a :: l => by
    have ih := vL_mulc c f l
    rw [List.map_cons, List.map_cons, vL, vL, ih, Int.mul_add, ← Int.mul_assoc, ← Int.mul_assoc, Int.mul_comm c 65536]
theorem vL16 {l : List Int} (h : l.length = 16) : vL ((List.range 16).map fun i => gI l i) = vL l := by rw [← list16 h]
theorem gI_range (f : Nat → Int) (i : Nat) (h : i < 16) : gI ((List.range 16).map f) i = f i := by simp [gI, List.getD, h]
theorem gI_out {l : List Int} {i : Nat} (h : l.length ≤ i) : gI l i = 0 := by simp [gI, List.getD, List.getElem?_eq_none h]
def subL (a b : List Int) : List Int := (List.range 16).map fun i => gI a i - gI b i
theorem subL_val {a b : List Int} (ha : a.length = 16) (hb : b.length = 16) : vL (subL a b) = vL a - vL b := by
  have h := vL_add (fun i => gI a i) (fun i => (-1) * gI b i) (List.range 16)
  rw [vL_mulc, vL16 ha, vL16 hb] at h
  unfold subL
  rw [show (fun i => gI a i - gI b i) = fun i => gI a i + (-1) * gI b i from funext fun i => by omega, h]
  omega
def fin4 (l : List Int) : List Int := carryTo (passN l 4) 15
def normL (l : List Int) : List Int := if vL (fin4 l) < pP then fin4 l else carryTo (subL (fin4 l) primeL) 15
theorem Bd.mono {B B' : Int} {l : List Int} (h : Bd B l) (hB : B ≤ B') : Bd B' l := fun i => by have := h i; omega
/-- digits whose sum lies between 0 and 2^256 come to be digits -/
theorem carry_all {B : Int} {l : List Int} (hB : 2 ≤ B) (hb : Bd B l) (h : l.length = 16) (h0 : 0 ≤ vL l) (h1 : vL l < 2 * P255) : carryTo l 15 = dgN 16 (vL l) := by
  have hc := carry_st hB hb 15 (by omega)
  have hl : (carryTo l 15).length = 16 := by rw [carryTo_len, h]
  have ht := top_digit hl hc.low
  have hv := carryTo_val l 15 (by omega)
  have hd := dg_unique (carryTo l 15) (fun i hi => by
    rw [hl] at hi
    by_cases e : i < 15
    · exact hc.low i e
    · have : i = 15 := by omega
      subst this
      rw [ht, hv]
      generalize vL l = v at *
      unfold P240 P255 at *
      omega)
  rw [hl, hv] at hd
  exact hd
theorem fin4_val {B : Int} {l : List Int} (hB : 70368744177664 = B) (hb : Bd B l) (h : l.length = 16) : vL (passN l 4) = fV (fV (fV (fV (vL l)))) := by
  rw [passN_val hB hb h, passN_val hB hb h, passN_val hB hb h, passN_val hB hb h]
  rfl
theorem fin4_is {B : Int} {l : List Int} (hB : 70368744177664 = B) (hb : Bd B l) (h : l.length = 16) (h1 : -(8 * P255) ≤ vL l) (h2 : vL l ≤ 35184372088832 * P255) :
    ∃ v, fin4 l = dgN 16 v ∧ vL (fin4 l) = v ∧ 0 ≤ v ∧ v < P255 ∧ v % pP = vL l % pP := by
  have hv := fin4_val hB hb h
  obtain ⟨a1, a2, a3⟩ := fV_four (vL l) h1 h2
  rw [← hv] at a1 a2 a3
  obtain ⟨hlen, hbd⟩ := passN_ok hB hb h 4
  have e := carry_all (by omega) hbd hlen a1 (by unfold P255 at *; omega)
  have e2 := carryTo_val (passN l 4) 15 (by omega)
  exact ⟨_, e, e2, a1, a2, a3⟩
theorem norm_is {B : Int} {l : List Int} (hB : 70368744177664 = B) (hb : Bd B l) (h : l.length = 16) (h1 : -(8 * P255) ≤ vL l) (h2 : vL l ≤ 35184372088832 * P255) : normL l = dgN 16 (vL l % pP) := by
  obtain ⟨v, e, ev, v0, vP, vm⟩ := fin4_is hB hb h h1 h2
  unfold normL
  rw [ev]
  by_cases hlt : v < pP
  · have hx : vL l % pP = v := by
      rw [← vm]
      exact Int.emod_eq_of_lt v0 hlt
    rw [if_pos hlt, e, hx]
  · rw [if_neg hlt]
    have hl : (fin4 l).length = 16 := by rw [e, dgN_len]
    have hs : vL (subL (fin4 l) primeL) = v - pP := by rw [subL_val hl rfl, ev, primeL_val]
    have hbs : Bd 131072 (subL (fin4 l) primeL) := fun i => by
      by_cases hi : i < 16
      · rw [subL, gI_range _ _ hi, e]
        have := dgN_get 16 v i hi
        have hp := primeL_pr i hi
        omega
      · rw [gI_out (by simp [subL]; omega)]; omega
    rw [carry_all (B := 131072) (by omega) hbs (by simp [subL]) (by rw [hs]; omega) (by rw [hs]; unfold P255 pP at *; omega), hs]
    have hx : vL l % pP = v - pP := by
      rw [← vm]
      unfold pP P255 at *
      omega
    rw [hx]
/-- which of two is below, from the top -/
theorem below_at {a b : List Int} (ha : a.length = 16) (hb : b.length = 16) (pa : ∀ i, i < 16 → 0 ≤ gI a i ∧ gI a i < 65536) (pb : ∀ i, i < 16 → 0 ≤ gI b i ∧ gI b i < 65536) (k : Nat) (hk : k < 16) (hs : ∀ j, k < j → j < 16 → gI a j = gI b j) (hne : gI a k ≠ gI b k) : (vL a < vL b) ↔ gI a k < gI b k := by
  have key : ∀ (n : Nat) (a b : List Int), a.length = n → b.length = n → (∀ i, i < n → 0 ≤ gI a i ∧ gI a i < 65536) → (∀ i, i < n → 0 ≤ gI b i ∧ gI b i < 65536) → ∀ k, k < n → (∀ j, k < j → j < n → gI a j = gI b j) → gI a k ≠ gI b k → ((vL a < vL b) ↔ gI a k < gI b k) := by
    intro n
    induction n with
    | zero => intro a b _ _ _ _ k hk; omega
    | succ n ih =>
      intro a b ha hb pa pb k hk hs hne
      match a, b, ha, hb with
      | x :: a, y :: b, ha, hb =>
        have hx := pa 0 (by omega)
        have hy := pb 0 (by omega)
        rw [gI_zero] at hx hy
        rw [vL, vL]
        match k with
        | 0 =>
          have e : a = b := by
            apply List.ext_getElem (by simp at ha hb; omega)
            intro i h1 h2
            have := hs (i + 1) (by omega) (by simp at ha; omega)
            rw [gI_cons, gI_cons] at this
            simpa [gI, List.getD, List.getElem?_eq_getElem h1, List.getElem?_eq_getElem h2] using this
          rw [e, gI_zero, gI_zero]
          omega
        | k + 1 =>
          rw [gI_cons, gI_cons] at hne ⊢
          have h := ih a b (by simpa using ha) (by simpa using hb) (fun i hi => by have := pa (i + 1) (by omega); rwa [gI_cons] at this) (fun i hi => by have := pb (i + 1) (by omega); rwa [gI_cons] at this) k (by omega)
            (fun j h1 h2 => by have := hs (j + 1) (by omega) (by omega); rwa [gI_cons, gI_cons] at this) hne
          have hne2 : vL a ≠ vL b := by
            intro e
            have h' := ih b a (by simpa using hb) (by simpa using ha) (fun i hi => by have := pb (i + 1) (by omega); rwa [gI_cons] at this) (fun i hi => by have := pa (i + 1) (by omega); rwa [gI_cons] at this) k (by omega)
              (fun j h1 h2 => by have := hs (j + 1) (by omega) (by omega); rw [gI_cons, gI_cons] at this; exact this.symm) (fun e => hne e.symm)
            omega
          rw [← h]
          omega
  exact key 16 a b ha hb pa pb k hk hs hne
theorem below_same {a b : List Int} (ha : a.length = 16) (hb : b.length = 16) (hs : ∀ j, j < 16 → gI a j = gI b j) : a = b := by
  rw [list16 ha, list16 hb]
  apply List.map_congr_left
  intro i hi
  exact hs i (List.mem_range.1 hi)
end Go.Proofs.Ytmmfbbbljhifjaa

namespace Go.Proofs.Ytmmfbbbljhifjaa
open Go.RowKit
set_option linter.unusedVariables false
set_option maxRecDepth 100000

def tabI (l : List Int) : Array Value := (l.map fun x => Value.int .i64 x).toArray
theorem tabI_size (l : List Int) : (tabI l).size = l.length := by simp [tabI]
theorem tabI_get (l : List Int) (i : Nat) (h : i < l.length) : (tabI l)[i]? = some (.int .i64 (gI l i)) := by
  simp [tabI, gI, List.getD, List.getElem?_eq_getElem h]
theorem tabI_set (l : List Int) (i : Nat) (x : Int) : (tabI l).setIfInBounds i (.int .i64 x) = tabI (l.set i x) := by
  unfold tabI
  rw [List.map_set]
  simp
theorem tabI_one (l : List Int) : (tabI l).all (·.oneCell') = true := by
  simp [tabI, Value.oneCell']

theorem zero_row (T : TypeId) (z : Array Value) (n : Nat) (h : (Try.prog.info? T).map (fun i => (i.zero, i.size)) = some (some (.agg z), n)) (u : World) : (zeroValue T).run Try.prog u = .ok (.agg z) u := by
  cases hi : Try.prog.info? T with
  | none => rw [hi] at h; cases h
  | some i =>
    rw [hi] at h
    simp at h
    simp [zeroValue, typeInfo, hi, h.1]
theorem below_row {B g : Nat} {a w : World} {cs : Array Value} (h : Below B a w) (hg : B ≤ g) : Below B a (w.setRow g cs) :=
  ⟨h.os, h.tape, h.output, by have := h.size; simpa using this, fun j hj => by rw [setRow_other _ _ _ _ (by omega)]; exact h.block j hj⟩
theorem below_then {w w1 w2 : World} (h : Below w.heap.size w w1) (h2 : Below w1.heap.size w1 w2) : Below w.heap.size w w2 := h.trans (h2.mono h.size)

theorem run_loadR {P : Program} {ρ : Operand → Value} {o : Oper} {w : World} {ty : TypeId} {x : Operand} (ho : o.op = .load ty x) {g : Nat} (hx : ρ x = .pointer (some ⟨g, 0, none⟩)) {t : TypeId} {cs : Array Value} {fr : Nat × Nat} {d : TypeDesc} (hg : w.heap[g]? = some (.cells cs t fr))
    (hu : P.underlying ty = some d) (hd : (match d with | .struct _ | .array _ _ => true | _ => false) = true) (hi : (P.info? ty).map (·.size) = some cs.size) :
    (execOp ρ o).run P w = .ok (.value (.agg cs)) w := by
  unfold execOp
  simp only [ho, hx, Instr.loadAt, Instr.sureAddr, Sem.run_bind, Sem.run_pure, Result.andThen_ok, run_loadVar_row w g t ty cs fr d hg hu hd hi]

theorem part_i {P : Program} (e : TypeId) (l : List Int) (i : Nat) (h : i < l.length) (ha : ∀ w, (isAgg e).run P w = .ok false w) (u : World) : (Go.part e (tabI l) i).run P u = .ok (.int .i64 (gI l i)) u := by
  have hg := tabI_get l i h
  simp only [Go.part, Sem.run_bind, ha, Result.andThen_ok, Bool.false_eq_true, if_false]
  rw [hg]
  simp
theorem eqI_loop {P : Program} (e : TypeId) (l m : List Int) (hlm : l.length = m.length) (hu : P.underlying e = some (.int .i64)) (ha : ∀ w, (isAgg e).run P w = .ok false w) (u : World) : ∀ (r : List Nat), (∀ i ∈ r, i < l.length) →
    (forIn r ((none : Option Bool), ()) fun i __s => do
      let a ← Go.part e (tabI l) (i * 1)
      let b ← Go.part e (tabI m) (i * 1)
      let c ← Op.equalIn 9999 e a b
      if (!c) = true then pure (ForInStep.done (some false, ())) else pure (ForInStep.yield ((none : Option Bool), ())) : Sem (Option Bool × Unit)).run P u = .ok (if (r.all fun i => decide (gI l i = gI m i)) = true then none else some false, ()) u
  | [], _ => by simp
  | i :: r, h => by
    have h1 := part_i (P := P) e l i (h i (by simp)) ha u
    have h1' := part_i (P := P) e m i (by have := h i (by simp); omega) ha u
    have h2 : (Op.equalIn 9999 e (.int .i64 (gI l i)) (.int .i64 (gI m i))).run P u = .ok (decide (gI l i = gI m i)) u := by
      rw [show (9999 : Nat) = 9998 + 1 from rfl, run_equalIn_int _ _ _ _ .i64 _ _ hu]
      simp
      rfl
    have ih := eqI_loop e l m hlm hu ha u r (fun j hj => h j (by simp [hj]))
    by_cases hd : gI l i = gI m i
    · have hdt : decide (gI l i = gI m i) = true := decide_eq_true hd
      simp only [List.forIn_cons, Sem.run_bind, Nat.mul_one, h1, h1', h2, Result.andThen_ok, hdt, Bool.not_true, Bool.false_eq_true, if_false, Sem.run_pure, List.all_cons, Bool.true_and] at ih ⊢
      exact ih
    · have hdf : decide (gI l i = gI m i) = false := decide_eq_false hd
      simp only [List.forIn_cons, Sem.run_bind, Nat.mul_one, h1, h1', h2, Result.andThen_ok, hdf, Bool.not_false, if_true, Sem.run_pure, List.all_cons, Bool.false_and, Bool.false_eq_true, if_false]
theorem all_same {l m : List Int} (h : l.length = m.length) : ((List.range' 0 l.length).all fun i => decide (gI l i = gI m i)) = decide (l = m) := by
  by_cases e : l = m
  · subst e; simp
  · rw [decide_eq_false e]
    cases hb : ((List.range' 0 l.length).all fun i => decide (gI l i = gI m i))
    · rfl
    · exfalso
      apply e
      apply List.ext_getElem h
      intro i h1 h2
      have := List.all_eq_true.1 hb i (by rw [List.mem_range'_1]; omega)
      simpa [gI, List.getD, List.getElem?_eq_getElem h1, List.getElem?_eq_getElem h2] using this
theorem eqI_run {P : Program} (T e : TypeId) (n : Nat) (l m : List Int) (hl : l.length = n) (hm : m.length = n) (ht : P.underlying T = some (.array n e)) (hu : P.underlying e = some (.int .i64))
    (ha : ∀ w, (isAgg e).run P w = .ok false w) (hs : ∀ w, (sizeOf e).run P w = .ok 1 w) (u : World) : (binOp .eql T (.agg (tabI l)) (.agg (tabI m))).run P u = .ok (.bool (decide (l = m))) u := by
  have h : (Op.equalIn 10000 T (.agg (tabI l)) (.agg (tabI m))).run P u = .ok (decide (l = m)) u := by
    rw [show (10000 : Nat) = 9999 + 1 from rfl, Op.equalIn]
    simp only [Sem.run_bind, run_underlying ht, Result.andThen_ok, hs]
    simp only [Std.Legacy.Range.forIn_eq_forIn_range', Std.Legacy.Range.size, Nat.sub_zero, Nat.add_sub_cancel, Nat.div_one]
    have hr : ∀ i ∈ List.range' 0 n, i < l.length := fun i hi => by
      rw [List.mem_range'_1] at hi; omega
    rw [eqI_loop e l m (by omega) hu ha u _ hr]
    have hq := all_same (l := l) (m := m) (by omega)
    rw [hl] at hq
    rw [hq]
    by_cases e : l = m
    · rw [decide_eq_true e]; simp
    · rw [decide_eq_false e]; simp
  rw [run_eql_struct, h]
  simp
end Go.Proofs.Ytmmfbbbljhifjaa

namespace Go.Proofs.Ytmmfbbbljhifjaa
open Go.RowKit
set_option linter.unusedVariables false
set_option maxRecDepth 100000

theorem i64_and65535 (n : Int) : bits .and .i64 n 65535 = n % 65536 := by
  have h127 : (BitVec.ofInt 64 65535).toNat = 2 ^ 16 - 1 := by decide
  have key : (BitVec.ofInt 64 n &&& BitVec.ofInt 64 65535).toNat = (n % ((2 ^ 64 : Nat) : Int)).toNat % 2 ^ 16 := by
    rw [BitVec.toNat_and, BitVec.toNat_ofInt, h127, Nat.and_two_pow_sub_one_eq_mod]
  show IntKind.i64.wrap ((BitVec.ofInt 64 n &&& BitVec.ofInt 64 65535).toNat : Nat) = n % 65536
  rw [key, IntKind.wrap_i64]
  omega
theorem i64_and32767 (n : Int) : bits .and .i64 n 32767 = n % 32768 := by
  have h127 : (BitVec.ofInt 64 32767).toNat = 2 ^ 15 - 1 := by decide
  have key : (BitVec.ofInt 64 n &&& BitVec.ofInt 64 32767).toNat = (n % ((2 ^ 64 : Nat) : Int)).toNat % 2 ^ 15 := by
    rw [BitVec.toNat_and, BitVec.toNat_ofInt, h127, Nat.and_two_pow_sub_one_eq_mod]
  show IntKind.i64.wrap ((BitVec.ofInt 64 n &&& BitVec.ofInt 64 32767).toNat : Nat) = n % 32768
  rw [key, IntKind.wrap_i64]
  omega

/-- the row of p's digits, as it is built -/
def primeTo (k : Nat) : List Int := opTo (fun _ => 65535) (List.replicate 16 0) k
theorem primeTo_end : ((primeTo 16).set 0 65517).set 15 32767 = primeL := by decide
end Go.Proofs.Ytmmfbbbljhifjaa

namespace Go.Proofs.Ytmmfbbbljhifjaa
open Go.RowKit
set_option linter.unusedVariables false
set_option maxRecDepth 100000

end Go.Proofs.Ytmmfbbbljhifjaa

namespace Go.Proofs.Ytmmfbbbljhifjaa
open Go.RowKit
set_option linter.unusedVariables false
set_option maxRecDepth 100000

theorem fin_pr {l : List Int} (hb : Bd 70368744177664 l) (h : l.length = 16) (h1 : -(8 * P255) ≤ vL l) (h2 : vL l ≤ 35184372088832 * P255) : ∀ i, i < 16 → 0 ≤ gI (fin4 l) i ∧ gI (fin4 l) i < 65536 := by
  obtain ⟨v, e, -⟩ := fin4_is rfl hb h h1 h2
  rw [e]
  exact fun i hi => dgN_get 16 v i hi
theorem p16 : (65536 : Int) ^ 16 = 2 * P255 := by decide
theorem dg_val {x : Int} (h0 : 0 ≤ x) (h1 : x < pP) : vL (dgN 16 x) = x := vL_dgN 16 x h0 (by rw [p16]; unfold pP P255 at *; omega)
theorem dg_bd {x : Int} (i : Nat) : 0 ≤ gI (dgN 16 x) i ∧ gI (dgN 16 x) i < 65536 := by
  by_cases h : i < 16
  · exact dgN_get 16 x i h
  · rw [gI_out (by rw [dgN_len]; omega)]; omega
/-- sums, differences, digit by digit -/
theorem map_add_val (f g : Nat → Int) (a b : List Int) (ha : a.length = 16) (hb : b.length = 16) : vL ((List.range 16).map fun i => gI a i + gI b i) = vL a + vL b := by
  rw [vL_add, vL16 ha, vL16 hb]
theorem map_bd {f : Nat → Int} {B : Int} (hB : 0 ≤ B) (h : ∀ i, i < 16 → -B ≤ f i ∧ f i ≤ B) : Bd B ((List.range 16).map f) := fun i => by
  by_cases hi : i < 16
  · rw [gI_range _ _ hi]; exact h i hi
  · rw [gI_out (by simp; omega)]; omega

theorem dg_zero : dgN 16 0 = List.replicate 16 0 := by decide
end Go.Proofs.Ytmmfbbbljhifjaa

