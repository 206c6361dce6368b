/- Numbers by sixteen digits of 16 bits, plainly: carries, the fold at 2^255, norm. No program is named here. Numbers by bytes, the lowest first; 255 bits of 32 bytes; numbers modulo 2^255 - 19. No program is named here. Rows of integers in memory; two of them compared. Rows of bytes in memory; two of them compared. -/
import Derived.Test.YtlbkpmcccipfhaaGbase
import Derived.Laws.StructEq
namespace Go.Proofs.Ytlbkpmcccipfhaa
set_option linter.unusedVariables false
set_option maxRecDepth 100000

def vL : List Int → Int
  | [] => 0
  | a :: l => a + 65536 * vL l
def gI (l : List Int) (i : Nat) : Int := l.getD i 0
theorem gI_cons (a : Int) (l : List Int) (i : Nat) : gI (a :: l) (i + 1) = gI l i := rfl
theorem gI_zero (a : Int) (l : List Int) : gI (a :: l) 0 = a := rfl
theorem gI_set (l : List Int) (i j : Nat) (x : Int) (hi : i < l.length) : gI (l.set i x) j = if i = j then x else gI l j := by
  unfold gI
  simp only [List.getD, List.getElem?_set]
  by_cases h : i = j
  · subst h; simp [hi]
  · simp [h]
theorem vL_set : ∀ (l : List Int) (i : Nat) (x : Int), i < l.length → vL (l.set i x) = vL l + (x - gI l i) * 65536 ^ i
  | [], i, x, h => by simp at h
  | a :: l, 0, x, _ => by simp [vL, gI_zero]; omega
  | a :: l, i + 1, x, h => by
    have ih := vL_set l i x (by simpa using h)
    rw [List.set_cons_succ, vL, vL, ih, gI_cons, Int.pow_succ, ← Int.mul_assoc, Int.mul_comm _ (65536 : Int)]
    generalize (x - gI l i) * 65536 ^ i = q
    omega
/-- one carry -/
def cstep (l : List Int) (i : Nat) : List Int := (l.set (i + 1) (gI l (i + 1) + gI l i / 65536)).set i (gI l i % 65536)
def carryTo (l : List Int) : Nat → List Int
  | 0 => l
  | k + 1 => cstep (carryTo l k) k
theorem cstep_len (l : List Int) (i : Nat) : (cstep l i).length = l.length := by simp [cstep]
theorem carryTo_len (l : List Int) : ∀ k, (carryTo l k).length = l.length
  | 0 => rfl
  | k + 1 => by rw [carryTo, cstep_len, carryTo_len l k]
theorem cstep_get (l : List Int) (i j : Nat) (h : i + 1 < l.length) : gI (cstep l i) j = if j = i then gI l i % 65536 else if j = i + 1 then gI l (i + 1) + gI l i / 65536 else gI l j := by
  unfold cstep
  rw [gI_set _ _ _ _ (by simp; omega), gI_set _ _ _ _ h]
  by_cases h1 : i = j
  · subst h1; simp
  · have h1' : ¬ j = i := fun e => h1 e.symm
    by_cases h2 : i + 1 = j
    · subst h2; simp
    · have h2' : ¬ j = i + 1 := fun e => h2 e.symm
      simp only [h1, h1', h2, h2', if_false]
theorem cstep_val (l : List Int) (i : Nat) (h : i + 1 < l.length) : vL (cstep l i) = vL l := by
  unfold cstep
  rw [vL_set _ _ _ (by simp; omega), vL_set _ _ _ h, gI_set _ _ _ _ h, if_neg (by omega), Int.pow_succ]
  have e : gI l i = 65536 * (gI l i / 65536) + gI l i % 65536 := by omega
  generalize gI l i / 65536 = q at *
  generalize gI l i % 65536 = r at *
  rw [e]
  generalize (65536 : Int) ^ i = p
  grind
theorem carryTo_val (l : List Int) : ∀ k, k < l.length → vL (carryTo l k) = vL l
  | 0, _ => rfl
  | k + 1, h => by rw [carryTo, cstep_val _ _ (by rw [carryTo_len]; omega), carryTo_val l k (by omega)]
def Bd (B : Int) (l : List Int) : Prop := ∀ i, -B ≤ gI l i ∧ gI l i ≤ B
structure CarrySt (B : Int) (l m : List Int) (k : Nat) : Prop where
  low : ∀ j, j < k → 0 ≤ gI m j ∧ gI m j < 65536
  at_ : -(2 * B) ≤ gI m k ∧ gI m k ≤ 2 * B
  high : ∀ j, k < j → gI m j = gI l j
theorem carry_st {B : Int} {l : List Int} (hB : 2 ≤ B) (hb : Bd B l) : ∀ k, k < l.length → CarrySt B l (carryTo l k) k
  | 0, _ => ⟨fun j h => by omega, by have := hb 0; show -(2 * B) ≤ gI l 0 ∧ gI l 0 ≤ 2 * B; omega, fun j _ => rfl⟩
  | k + 1, h => by
    have ih := carry_st hB hb k (by omega)
    have hk := cstep_get (carryTo l k) k
    have hlen : k + 1 < (carryTo l k).length := by rw [carryTo_len]; exact h
    refine ⟨fun j hj => ?_, ?_, fun j hj => ?_⟩
    · rw [carryTo, hk j hlen]
      by_cases e : j = k
      · rw [if_pos e]; omega
      · rw [if_neg e, if_neg (by omega)]; exact ih.low j (by omega)
    · rw [carryTo, hk (k + 1) hlen, if_neg (by omega), if_pos rfl, ih.high (k + 1) (by omega)]
      have := hb (k + 1)
      have := ih.at_
      omega
    · rw [carryTo, hk j hlen, if_neg (by omega), if_neg (by omega)]; exact ih.high j (by omega)

/-! Digits that are digits. -/
def Pr (l : List Int) : Prop := ∀ i, 0 ≤ gI l i ∧ gI l i < 65536
theorem vL_bound : ∀ l : List Int, (∀ i, i < l.length → 0 ≤ gI l i ∧ gI l i < 65536) → 0 ≤ vL l ∧ vL l < 65536 ^ l.length
  | [], _ => by simp [vL]
  | a :: l, h => by
    have h0 := h 0 (by simp)
    have ih := vL_bound l (fun i hi => h (i + 1) (by simp; omega))
    rw [gI_zero] at h0
    rw [vL, List.length_cons, Int.pow_succ]
    generalize (65536 : Int) ^ l.length = p at *
    omega
def dgN (n : Nat) (v : Int) : List Int := match n with
  | 0 => []
  | n + 1 => v % 65536 :: dgN n (v / 65536)
theorem dgN_len : ∀ n v, (dgN n v).length = n
  | 0, _ => rfl
  | n + 1, v => by simp [dgN, dgN_len n]
theorem dg_unique : ∀ l : List Int, (∀ i, i < l.length → 0 ≤ gI l i ∧ gI l i < 65536) → l = dgN l.length (vL l)
  | [], _ => rfl
  | a :: l, h => by
    have h0 := h 0 (by simp)
    rw [gI_zero] at h0
    have ih := dg_unique l (fun i hi => h (i + 1) (by simp; omega))
    have e1 : (a + 65536 * vL l) % 65536 = a := by omega
    have e2 : (a + 65536 * vL l) / 65536 = vL l := by omega
    rw [List.length_cons, dgN, vL, e1, e2, ← ih]
theorem vL_dgN : ∀ n (v : Int), 0 ≤ v → v < 65536 ^ n → vL (dgN n v) = v
  | 0, v, h0, h1 => by simp at h1; show (0 : Int) = v; omega
  | n + 1, v, h0, h1 => by
    rw [Int.pow_succ] at h1
    have ih := vL_dgN n (v / 65536) (by omega) (by generalize (65536 : Int) ^ n = p at *; omega)
    rw [dgN, vL, ih]
    omega
theorem dgN_get : ∀ n (v : Int) i, i < n → 0 ≤ gI (dgN n v) i ∧ gI (dgN n v) i < 65536
  | 0, _, _, h => by omega
  | n + 1, v, 0, _ => by rw [dgN, gI_zero]; omega
  | n + 1, v, i + 1, h => by rw [dgN, gI_cons]; exact dgN_get n _ i (by omega)
theorem vL_split (l : List Int) (a : Int) : vL (l ++ [a]) = vL l + a * 65536 ^ l.length := by
  induction l with
  | nil => simp [vL]
  | cons b l ih =>
    rw [List.cons_append, vL, vL, ih, List.length_cons, Int.pow_succ, ← Int.mul_assoc, Int.mul_comm _ (65536 : Int)]
    generalize a * 65536 ^ l.length = q
    omega
theorem split16 {l : List Int} (h : l.length = 16) : ∃ m, l = m ++ [gI l 15] ∧ m.length = 15 ∧ ∀ i, i < 15 → gI m i = gI l i := by
  refine ⟨l.take 15, ?_, by rw [List.length_take, h]; rfl, fun i hi => ?_⟩
  · have e := List.take_append_drop 15 l
    have d : l.drop 15 = [gI l 15] := by
      rw [List.drop_eq_getElem_cons (by omega), List.drop_eq_nil_of_le (by omega)]
      simp [gI, List.getD, List.getElem?_eq_getElem (show 15 < l.length by omega)]
    rw [← d]; exact e.symm
  · unfold gI
    simp [List.getD, hi]
abbrev P255 : Int := 57896044618658097711785492504343953926634992332820282019728792003956564819968
abbrev P240 : Int := 1766847064778384329583297500742918515827483896875618958121606201292619776
abbrev pP : Int := 57896044618658097711785492504343953926634992332820282019728792003956564819949
/-- the highest digit, where the others are digits -/
theorem top_digit {l : List Int} (h : l.length = 16) (hp : ∀ i, i < 15 → 0 ≤ gI l i ∧ gI l i < 65536) : gI l 15 = vL l / P240 := by
  obtain ⟨m, e, hm, hg⟩ := split16 h
  have hv := vL_split m (gI l 15)
  rw [← e, hm] at hv
  have hb := vL_bound m (fun i hi => by rw [hg i (by omega)]; exact hp i (by omega))
  rw [hm] at hb
  have e15 : (65536 : Int) ^ 15 = P240 := by decide
  rw [e15] at hv hb
  generalize gI l 15 = t at *
  generalize vL l = v at *
  generalize vL m = u at *
  unfold P240 at *
  omega

/-- what lies above 2^255 comes in below -/
def foldL (l : List Int) : List Int := (l.set 0 (gI l 0 + 19 * (gI l 15 / 32768))).set 15 (gI l 15 % 32768)
theorem foldL_len (l : List Int) : (foldL l).length = l.length := by simp [foldL]
theorem foldL_get {l : List Int} (h : l.length = 16) (j : Nat) : gI (foldL l) j = if j = 15 then gI l 15 % 32768 else if j = 0 then gI l 0 + 19 * (gI l 15 / 32768) else gI l j := by
  unfold foldL
  rw [gI_set _ _ _ _ (by simp; omega), gI_set _ _ _ _ (by omega)]
  by_cases h1 : 15 = j
  · subst h1; simp
  · have h1' : ¬ j = 15 := fun e => h1 e.symm
    by_cases h2 : 0 = j
    · subst h2; simp
    · have h2' : ¬ j = 0 := fun e => h2 e.symm
      simp only [h1, h1', h2, h2', if_false]
theorem foldL_val {l : List Int} (h : l.length = 16) : vL (foldL l) = vL l - gI l 15 / 32768 * pP := by
  unfold foldL
  rw [vL_set _ _ _ (by simp; omega), vL_set _ _ _ (by omega), gI_set _ _ _ _ (by omega), if_neg (by omega)]
  have e15 : (65536 : Int) ^ 15 = P240 := by decide
  rw [e15, Int.pow_zero]
  generalize gI l 15 = t
  generalize gI l 0 = z
  generalize vL l = v
  unfold P240 pP
  omega
def passL (l : List Int) : List Int := foldL (carryTo l 15)
def fV (v : Int) : Int := v % P255 + 19 * (v / P255)
theorem pass_val {B : Int} {l : List Int} (hB : 2 ≤ B) (hb : Bd B l) (h : l.length = 16) : vL (passL l) = fV (vL l) := by
  have hc := carry_st hB hb 15 (by omega)
  have hl : (carryTo l 15).length = 16 := by rw [carryTo_len, h]
  have ht := top_digit hl hc.low
  have hv := carryTo_val l 15 (by omega)
  unfold passL fV
  rw [foldL_val hl, ht, hv]
  generalize vL l = v
  unfold P240 pP P255
  omega
theorem pass_len {l : List Int} (h : l.length = 16) : (passL l).length = 16 := by rw [passL, foldL_len, carryTo_len, h]
theorem pass_bd {B : Int} {l : List Int} (hB : 70368744177664 = B) (hb : Bd B l) (h : l.length = 16) : Bd B (passL l) := by
  have hc := carry_st (by omega) hb 15 (by omega)
  have hl : (carryTo l 15).length = 16 := by rw [carryTo_len, h]
  intro i
  rw [passL, foldL_get hl]
  by_cases h15 : i = 15
  · rw [if_pos h15]; omega
  · rw [if_neg h15]
    by_cases h0 : i = 0
    · rw [if_pos h0]
      have := hc.at_
      have := hc.low 0 (by omega)
      omega
    · rw [if_neg h0]
      by_cases hi : i < 15
      · have := hc.low i hi; omega
      · rw [hc.high i (by omega)]; exact hb i
def passN (l : List Int) : Nat → List Int
  | 0 => l
  | k + 1 => passL (passN l k)
theorem passN_ok {B : Int} {l : List Int} (hB : 70368744177664 = B) (hb : Bd B l) (h : l.length = 16) : ∀ k, (passN l k).length = 16 ∧ Bd B (passN l k)
  | 0 => ⟨h, hb⟩
  | k + 1 => by
    have ih := passN_ok hB hb h k
    exact ⟨pass_len ih.1, pass_bd hB ih.2 ih.1⟩
theorem passN_val {B : Int} {l : List Int} (hB : 70368744177664 = B) (hb : Bd B l) (h : l.length = 16) (k : Nat) : vL (passN l (k + 1)) = fV (vL (passN l k)) := by
  have ih := passN_ok hB hb h k
  exact pass_val (by omega) ih.2 ih.1
theorem fV_four (v : Int) (h1 : -(8 * P255) ≤ v) (h2 : v ≤ 35184372088832 * P255) : 0 ≤ fV (fV (fV (fV v))) ∧ fV (fV (fV (fV v))) < P255 ∧ fV (fV (fV (fV v))) % pP = v % pP := by
  have a1 : fV v % pP = v % pP ∧ -200 ≤ fV v ∧ fV v ≤ P255 + 668503069687808 := by unfold fV pP P255 at *; omega
  generalize fV v = x at *
  have a2 : fV x % pP = x % pP ∧ 0 ≤ fV x ∧ fV x < P255 := by unfold fV pP P255 at *; omega
  generalize fV x = y at *
  have a3 : fV y = y := by unfold fV pP P255 at *; omega
  rw [a3, a3]
  omega
def primeL : List Int := [65517, 65535, 65535, 65535, 65535, 65535, 65535, 65535, 65535, 65535, 65535, 65535, 65535, 65535, 65535, 32767]
theorem primeL_val : vL primeL = pP := by decide
theorem primeL_pr : ∀ i, i < 16 → 0 ≤ gI primeL i ∧ gI primeL i < 65536 := by decide
/-- digit by digit: k of them turned -/
def opTo (f : Nat → Int) (a : List Int) (k : Nat) : List Int := (List.range 16).map fun i => if i < k then f i else gI a i
theorem opTo_len (f a k) : (opTo f a k).length = 16 := by simp [opTo]
theorem opTo_get (f : Nat → Int) (a : List Int) (k i : Nat) (h : i < 16) : gI (opTo f a k) i = if i < k then f i else gI a i := by
  simp [opTo, gI, List.getD, h]
theorem list16 {l : List Int} (h : l.length = 16) : l = (List.range 16).map fun i => gI l i := by
  apply List.ext_getElem (by simp [h])
  intro i h1 h2
  simp [gI, List.getD, List.getElem?_eq_getElem h1]
theorem opTo_zero (f : Nat → Int) {a : List Int} (h : a.length = 16) : opTo f a 0 = a := by
  have e := list16 h
  unfold opTo
  simp only [Nat.not_lt_zero, if_false]
  exact e.symm
theorem opTo_set (f : Nat → Int) (a : List Int) {k : Nat} (h : k < 16) : (opTo f a k).set k (f k) = opTo f a (k + 1) := by
  apply List.ext_getElem (by simp [opTo])
  intro i h1 h2
  rw [List.getElem_set]
  by_cases e : k = i
  · subst e; simp [opTo]
  · rw [if_neg e]
    simp only [opTo, List.getElem_map, List.getElem_range]
    by_cases g : i < k
    · rw [if_pos g, if_pos (by omega)]
    · rw [if_neg g, if_neg (by omega)]
theorem opTo_end (f : Nat → Int) (a : List Int) : opTo f a 16 = (List.range 16).map f := by
  unfold opTo
  apply List.map_congr_left
  intro i hi
  rw [if_pos (List.mem_range.1 hi)]
theorem vL_add (f g : Nat → Int) : ∀ l : List Nat, vL (l.map fun i => f i + g i) = vL (l.map f) + vL (l.map g)
  | [] => rfl
  | a :: l => by
    have ih := vL_add f g l
    rw [List.map_cons, List.map_cons, List.map_cons, vL, vL, vL, ih]; omega
theorem vL_mulc (c : Int) (f : Nat → Int) : ∀ l : List Nat, vL (l.map fun i => c * f i) = c * vL (l.map f)
  | [] => by simp [vL]
  | a :: l => by
    have ih := vL_mulc c f l
    rw [List.map_cons, List.map_cons, vL, vL, ih, Int.mul_add, ← Int.mul_assoc, ← Int.mul_assoc, Int.mul_comm c 65536]
theorem vL16 {l : List Int} (h : l.length = 16) : vL ((List.range 16).map fun i => gI l i) = vL l := by rw [← list16 h]
theorem gI_range (f : Nat → Int) (i : Nat) (h : i < 16) : gI ((List.range 16).map f) i = f i := by simp [gI, List.getD, h]
theorem gI_out {l : List Int} {i : Nat} (h : l.length ≤ i) : gI l i = 0 := by simp [gI, List.getD, List.getElem?_eq_none h]
def subL (a b : List Int) : List Int := (List.range 16).map fun i => gI a i - gI b i
theorem subL_val {a b : List Int} (ha : a.length = 16) (hb : b.length = 16) : vL (subL a b) = vL a - vL b := by
  have h := vL_add (fun i => gI a i) (fun i => (-1) * gI b i) (List.range 16)
  rw [vL_mulc, vL16 ha, vL16 hb] at h
  unfold subL
  rw [show (fun i => gI a i - gI b i) = fun i => gI a i + (-1) * gI b i from funext fun i => by omega, h]
  omega
def fin4 (l : List Int) : List Int := carryTo (passN l 4) 15
def normL (l : List Int) : List Int := if vL (fin4 l) < pP then fin4 l else carryTo (subL (fin4 l) primeL) 15
theorem Bd.mono {B B' : Int} {l : List Int} (h : Bd B l) (hB : B ≤ B') : Bd B' l := fun i => by have := h i; omega
/-- digits whose sum lies between 0 and 2^256 come to be digits -/
theorem carry_all {B : Int} {l : List Int} (hB : 2 ≤ B) (hb : Bd B l) (h : l.length = 16) (h0 : 0 ≤ vL l) (h1 : vL l < 2 * P255) : carryTo l 15 = dgN 16 (vL l) := by
  have hc := carry_st hB hb 15 (by omega)
  have hl : (carryTo l 15).length = 16 := by rw [carryTo_len, h]
  have ht := top_digit hl hc.low
  have hv := carryTo_val l 15 (by omega)
  have hd := dg_unique (carryTo l 15) (fun i hi => by
    rw [hl] at hi
    by_cases e : i < 15
    · exact hc.low i e
    · have : i = 15 := by omega
      subst this
      rw [ht, hv]
      generalize vL l = v at *
      unfold P240 P255 at *
      omega)
  rw [hl, hv] at hd
  exact hd
theorem fin4_val {B : Int} {l : List Int} (hB : 70368744177664 = B) (hb : Bd B l) (h : l.length = 16) : vL (passN l 4) = fV (fV (fV (fV (vL l)))) := by
  rw [passN_val hB hb h, passN_val hB hb h, passN_val hB hb h, passN_val hB hb h]
  rfl
theorem fin4_is {B : Int} {l : List Int} (hB : 70368744177664 = B) (hb : Bd B l) (h : l.length = 16) (h1 : -(8 * P255) ≤ vL l) (h2 : vL l ≤ 35184372088832 * P255) :
    ∃ v, fin4 l = dgN 16 v ∧ vL (fin4 l) = v ∧ 0 ≤ v ∧ v < P255 ∧ v % pP = vL l % pP := by
  have hv := fin4_val hB hb h
  obtain ⟨a1, a2, a3⟩ := fV_four (vL l) h1 h2
  rw [← hv] at a1 a2 a3
  obtain ⟨hlen, hbd⟩ := passN_ok hB hb h 4
  have e := carry_all (by omega) hbd hlen a1 (by unfold P255 at *; omega)
  have e2 := carryTo_val (passN l 4) 15 (by omega)
  exact ⟨_, e, e2, a1, a2, a3⟩
theorem norm_is {B : Int} {l : List Int} (hB : 70368744177664 = B) (hb : Bd B l) (h : l.length = 16) (h1 : -(8 * P255) ≤ vL l) (h2 : vL l ≤ 35184372088832 * P255) : normL l = dgN 16 (vL l % pP) := by
  obtain ⟨v, e, ev, v0, vP, vm⟩ := fin4_is hB hb h h1 h2
  unfold normL
  rw [ev]
  by_cases hlt : v < pP
  · have hx : vL l % pP = v := by
      rw [← vm]
      exact Int.emod_eq_of_lt v0 hlt
    rw [if_pos hlt, e, hx]
  · rw [if_neg hlt]
    have hl : (fin4 l).length = 16 := by rw [e, dgN_len]
    have hs : vL (subL (fin4 l) primeL) = v - pP := by rw [subL_val hl rfl, ev, primeL_val]
    have hbs : Bd 131072 (subL (fin4 l) primeL) := fun i => by
      by_cases hi : i < 16
      · rw [subL, gI_range _ _ hi, e]
        have := dgN_get 16 v i hi
        have hp := primeL_pr i hi
        omega
      · rw [gI_out (by simp [subL]; omega)]; omega
    rw [carry_all (B := 131072) (by omega) hbs (by simp [subL]) (by rw [hs]; omega) (by rw [hs]; unfold P255 pP at *; omega), hs]
    have hx : vL l % pP = v - pP := by
      rw [← vm]
      unfold pP P255 at *
      omega
    rw [hx]
/-- which of two is below, from the top -/
theorem below_at {a b : List Int} (ha : a.length = 16) (hb : b.length = 16) (pa : ∀ i, i < 16 → 0 ≤ gI a i ∧ gI a i < 65536) (pb : ∀ i, i < 16 → 0 ≤ gI b i ∧ gI b i < 65536) (k : Nat) (hk : k < 16) (hs : ∀ j, k < j → j < 16 → gI a j = gI b j) (hne : gI a k ≠ gI b k) : (vL a < vL b) ↔ gI a k < gI b k := by
  have key : ∀ (n : Nat) (a b : List Int), a.length = n → b.length = n → (∀ i, i < n → 0 ≤ gI a i ∧ gI a i < 65536) → (∀ i, i < n → 0 ≤ gI b i ∧ gI b i < 65536) → ∀ k, k < n → (∀ j, k < j → j < n → gI a j = gI b j) → gI a k ≠ gI b k → ((vL a < vL b) ↔ gI a k < gI b k) := by
    intro n
    induction n with
    | zero => intro a b _ _ _ _ k hk; omega
    | succ n ih =>
      intro a b ha hb pa pb k hk hs hne
      match a, b, ha, hb with
      | x :: a, y :: b, ha, hb =>
        have hx := pa 0 (by omega)
        have hy := pb 0 (by omega)
        rw [gI_zero] at hx hy
        rw [vL, vL]
        match k with
        | 0 =>
          have e : a = b := by
            apply List.ext_getElem (by simp at ha hb; omega)
            intro i h1 h2
            have := hs (i + 1) (by omega) (by simp at ha; omega)
            rw [gI_cons, gI_cons] at this
            simpa [gI, List.getD, List.getElem?_eq_getElem h1, List.getElem?_eq_getElem h2] using this
          rw [e, gI_zero, gI_zero]
          omega
        | k + 1 =>
          rw [gI_cons, gI_cons] at hne ⊢
          have h := ih a b (by simpa using ha) (by simpa using hb) (fun i hi => by have := pa (i + 1) (by omega); rwa [gI_cons] at this) (fun i hi => by have := pb (i + 1) (by omega); rwa [gI_cons] at this) k (by omega)
            (fun j h1 h2 => by have := hs (j + 1) (by omega) (by omega); rwa [gI_cons, gI_cons] at this) hne
          have hne2 : vL a ≠ vL b := by
            intro e
            have h' := ih b a (by simpa using hb) (by simpa using ha) (fun i hi => by have := pb (i + 1) (by omega); rwa [gI_cons] at this) (fun i hi => by have := pa (i + 1) (by omega); rwa [gI_cons] at this) k (by omega)
              (fun j h1 h2 => by have := hs (j + 1) (by omega) (by omega); rw [gI_cons, gI_cons] at this; exact this.symm) (fun e => hne e.symm)
            omega
          rw [← h]
          omega
  exact key 16 a b ha hb pa pb k hk hs hne
theorem below_same {a b : List Int} (ha : a.length = 16) (hb : b.length = 16) (hs : ∀ j, j < 16 → gI a j = gI b j) : a = b := by
  rw [list16 ha, list16 hb]
  apply List.map_congr_left
  intro i hi
  exact hs i (List.mem_range.1 hi)
end Go.Proofs.Ytlbkpmcccipfhaa

namespace Go.Proofs.Ytlbkpmcccipfhaa
set_option linter.unusedVariables false
set_option maxRecDepth 100000

def leN : List UInt8 → Nat
  | [] => 0
  | a :: l => a.toNat + 256 * leN l
def leB : Nat → Nat → List UInt8
  | 0, _ => []
  | n + 1, x => UInt8.ofNat x :: leB n (x / 256)
theorem leB_len : ∀ n x, (leB n x).length = n
  | 0, _ => rfl
  | n + 1, x => by rw [leB, List.length_cons, leB_len n]
theorem leN_lt : ∀ l : List UInt8, leN l < 256 ^ l.length
  | [] => by simp [leN]
  | a :: l => by
    have ih := leN_lt l
    have ha := a.toNat_lt
    rw [leN, List.length_cons, Nat.pow_succ]
    generalize 256 ^ l.length = p at *
    omega
theorem leN_leB : ∀ n x, x < 256 ^ n → leN (leB n x) = x
  | 0, x, h => by simp at h; subst h; rfl
  | n + 1, x, h => by
    have ih := leN_leB n (x / 256) (by rw [Nat.pow_succ] at h; generalize 256 ^ n = p at *; omega)
    rw [leB, leN, ih]
    have : (UInt8.ofNat x).toNat = x % 256 := by simp
    omega
theorem leB_leN : ∀ l : List UInt8, leB l.length (leN l) = l
  | [] => rfl
  | a :: l => by
    have ha := a.toNat_lt
    have e1 : (a.toNat + 256 * leN l) / 256 = leN l := by omega
    have e2 : UInt8.ofNat (a.toNat + 256 * leN l) = a := UInt8.toNat_inj.1 (by simp)
    rw [List.length_cons, leN, leB, e1, e2, leB_leN l]
theorem leN_inj {l m : List UInt8} (h : l.length = m.length) (e : leN l = leN m) : l = m := by
  rw [← leB_leN l, ← leB_leN m, h, e]
theorem leB_inj {n x y : Nat} (hx : x < 256 ^ n) (hy : y < 256 ^ n) (h : leB n x = leB n y) : x = y := by
  rw [← leN_leB n x hx, ← leN_leB n y hy, h]
theorem leB_get : ∀ n x i, i < n → (leB n x).getD i 0 = UInt8.ofNat (x / 256 ^ i)
  | 0, _, _, h => by omega
  | n + 1, x, 0, _ => by simp [leB]
  | n + 1, x, i + 1, h => by
    rw [leB, List.getD_cons_succ, leB_get n (x / 256) i (by omega), Nat.div_div_eq_div_mul, Nat.pow_succ, Nat.mul_comm]
theorem leN_set : ∀ (l : List UInt8) (i : Nat) (x : UInt8), i < l.length → leN (l.set i x) + (l.getD i 0).toNat * 256 ^ i = leN l + x.toNat * 256 ^ i
  | [], i, x, h => by simp at h
  | a :: l, 0, x, _ => by simp [leN]; omega
  | a :: l, i + 1, x, h => by
    have ih := leN_set l i x (by simpa using h)
    rw [List.set_cons_succ, leN, leN, List.getD_cons_succ, Nat.pow_succ, ← Nat.mul_assoc, ← Nat.mul_assoc]
    generalize (l.getD i 0).toNat * 256 ^ i = q at *
    generalize x.toNat * 256 ^ i = r at *
    omega
theorem leN_snoc (l : List UInt8) (a : UInt8) : leN (l ++ [a]) = leN l + a.toNat * 256 ^ l.length := by
  induction l with
  | nil => simp [leN]
  | cons b l ih =>
    rw [List.cons_append, leN, leN, ih, List.length_cons, Nat.pow_succ, ← Nat.mul_assoc]
    generalize a.toNat * 256 ^ l.length = q
    omega

abbrev TT : Nat := 57896044618658097711785492504343953926634992332820282019728792003956564819968
abbrev PP : Nat := 57896044618658097711785492504343953926634992332820282019728792003956564819949
theorem two256 : 256 ^ 32 = 2 * TT := by decide
/-- 32 bytes without their highest bit -/
def topC (l : List UInt8) : List UInt8 := l.set 31 (l.getD 31 0 &&& 127)
theorem topC_len (l : List UInt8) : (topC l).length = l.length := by simp [topC]
theorem top_split {l : List UInt8} (h : l.length = 32) : ∃ r, r < 256 ^ 31 ∧ leN l = r + (l.getD 31 0).toNat * 256 ^ 31 := by
  have e : l = l.take 31 ++ [l.getD 31 0] := by
    have e1 := List.take_append_drop 31 l
    have d : l.drop 31 = [l.getD 31 0] := by
      rw [List.drop_eq_getElem_cons (by omega), List.drop_eq_nil_of_le (by omega)]
      simp [List.getD, List.getElem?_eq_getElem (show 31 < l.length by omega)]
    rw [← d]; exact e1.symm
  have hl : (l.take 31).length = 31 := by rw [List.length_take]; omega
  refine ⟨leN (l.take 31), by have := leN_lt (l.take 31); rwa [hl] at this, ?_⟩
  have h2 := leN_snoc (l.take 31) (l.getD 31 0)
  rw [← e, hl] at h2
  exact h2
theorem u8_and127 (a : UInt8) : (a &&& 127).toNat = a.toNat % 128 := by
  rw [UInt8.toNat_and, show (127 : UInt8).toNat = 2 ^ 7 - 1 by decide, Nat.and_two_pow_sub_one_eq_mod]
theorem P31 : 256 ^ 31 = 452312848583266388373324160190187140051835877600158453279131187530910662656 := by decide
theorem leN_topC {l : List UInt8} (h : l.length = 32) : leN (topC l) = leN l % TT := by
  obtain ⟨r, hr, e⟩ := top_split h
  have hs := leN_set l 31 (l.getD 31 0 &&& 127) (by omega)
  rw [u8_and127] at hs
  unfold topC
  have := (l.getD 31 0).toNat_lt
  generalize (l.getD 31 0).toNat = a at *
  generalize leN (l.set 31 (l.getD 31 0 &&& 127)) = v at *
  rw [e] at hs ⊢
  rw [P31] at *
  unfold TT
  omega
def feN (l : List UInt8) : Nat := leN l % TT % PP
def canN (l : List UInt8) : Bool := decide (leN l % TT < PP)
theorem feN_lt (l : List UInt8) : feN l < PP := Nat.mod_lt _ (by decide)
theorem PP_lt : PP < 256 ^ 32 := by decide
theorem feN_leB {x : Nat} (h : x < PP) : feN (leB 32 x) = x := by
  unfold feN
  rw [leN_leB 32 x (Nat.lt_trans h PP_lt), Nat.mod_eq_of_lt (show x < TT by unfold PP at h; unfold TT; omega), Nat.mod_eq_of_lt h]
theorem canN_leB {x : Nat} (h : x < PP) : canN (leB 32 x) = true := by
  unfold canN
  rw [leN_leB 32 x (Nat.lt_trans h PP_lt), Nat.mod_eq_of_lt (show x < TT by unfold PP at h; unfold TT; omega)]
  exact decide_eq_true h
/-- what is read and written again is what was there exactly where it is below the prime -/
theorem canN_iff {l : List UInt8} (h : l.length = 32) : decide (leB 32 (feN (topC l)) = topC l) = canN l := by
  have ht := leN_topC h
  have hl := topC_len l
  rw [h] at hl
  have hlt : leN l % TT < TT := Nat.mod_lt _ (by decide)
  have hfe : feN (topC l) = leN l % TT % PP := by unfold feN; rw [ht, Nat.mod_eq_of_lt hlt]
  rw [hfe]
  unfold canN
  by_cases hc : leN l % TT < PP
  · rw [decide_eq_true hc, Nat.mod_eq_of_lt hc, ← ht]
    have := leB_leN (topC l)
    rw [hl] at this
    exact decide_eq_true this
  · rw [decide_eq_false hc]
    apply decide_eq_false
    intro e
    apply hc
    have e2 : leN (topC l) = leN l % TT % PP := by rw [← e]; exact leN_leB 32 _ (Nat.lt_trans (Nat.mod_lt _ (by decide)) PP_lt)
    rw [← ht, e2]
    exact Nat.mod_lt _ (by decide)

/-! Digits of 16 bits out of bytes, and back. -/
def pairL : List UInt8 → List Int
  | a :: b :: l => ((a.toNat : Int) + 256 * (b.toNat : Int)) :: pairL l
  | _ => []
theorem pairL_val : ∀ l : List UInt8, l.length % 2 = 0 → vL (pairL l) = (leN l : Int)
  | [], _ => rfl
  | [a], h => by simp at h
  | a :: b :: l, h => by
    have ih := pairL_val l (by simp at h; omega)
    rw [pairL, vL, ih, leN, leN]
    omega
theorem pairL_len : ∀ l : List UInt8, (pairL l).length = l.length / 2
  | [] => rfl
  | [a] => by simp [pairL]
  | a :: b :: l => by rw [pairL, List.length_cons, pairL_len l, List.length_cons, List.length_cons]; omega
theorem pairL_get : ∀ (l : List UInt8) (i : Nat), 2 * i + 1 < l.length → gI (pairL l) i = ((l.getD (2 * i) 0).toNat : Int) + 256 * ((l.getD (2 * i + 1) 0).toNat : Int)
  | [], i, h => by simp at h
  | [a], i, h => by simp at h
  | a :: b :: l, 0, _ => by simp [pairL, gI_zero]
  | a :: b :: l, i + 1, h => by
    rw [pairL, gI_cons, pairL_get l i (by simp at h; omega), show 2 * (i + 1) = (2 * i + 1) + 1 by omega]
    simp
def digitF (l : List UInt8) (i : Nat) : Int := ((l.getD (2 * i) 0).toNat : Int) + 256 * ((l.getD (2 * i + 1) 0).toNat : Int)
theorem digitF_is {l : List UInt8} (h : l.length = 32) : (List.range 16).map (digitF l) = pairL l := by
  have hl := pairL_len l
  rw [h] at hl
  rw [list16 hl]
  apply List.map_congr_left
  intro i hi
  rw [pairL_get l i (by have := List.mem_range.1 hi; omega)]
  rfl
theorem digitF_bd (l : List UInt8) (i : Nat) : 0 ≤ digitF l i ∧ digitF l i < 65536 := by
  unfold digitF
  have := (l.getD (2 * i) 0).toNat_lt
  have := (l.getD (2 * i + 1) 0).toNat_lt
  omega
/-- the digits of 32 bytes, without the highest bit -/
theorem digits_top {l : List UInt8} (h : l.length = 32) : vL (((List.range 16).map (digitF l)).set 15 (digitF l 15 % 32768)) = ((leN l % TT : Nat) : Int) := by
  rw [vL_set _ _ _ (by simp), gI_range _ _ (by omega), digitF_is h, pairL_val l (by omega)]
  obtain ⟨r, hr, e⟩ := top_split h
  have e15 : (65536 : Int) ^ 15 = P240 := by decide
  rw [e15]
  have hd := top_digit (l := pairL l) (by rw [pairL_len, h]) (fun i hi => by
    have := digitF_bd l i
    rw [← digitF_is h, gI_range _ _ (by omega)]; exact this)
  rw [← digitF_is h, gI_range _ _ (by omega), digitF_is h, pairL_val l (by omega)] at hd
  rw [hd]
  have hlt := leN_lt l
  rw [h] at hlt
  generalize leN l = v at *
  unfold P240 TT at *
  omega
/-- the bytes laid so far: k pairs of them -/
def byteTo (x : Nat) (k : Nat) : List UInt8 := (leB 32 x).take (2 * k) ++ List.replicate (32 - 2 * k) 0
theorem dgN_getN : ∀ n (x i : Nat), i < n → gI (dgN n (x : Int)) i = ((x / 65536 ^ i % 65536 : Nat) : Int)
  | 0, _, _, h => by omega
  | n + 1, x, 0, _ => by rw [dgN, gI_zero]; simp
  | n + 1, x, i + 1, h => by
    rw [dgN, gI_cons, show (x : Int) / 65536 = ((x / 65536 : Nat) : Int) by omega, dgN_getN n (x / 65536) i (by omega), Nat.div_div_eq_div_mul, Nat.pow_succ, Nat.mul_comm (65536 ^ i)]
theorem byteTo_step (x k : Nat) (h : k < 16) : ((byteTo x k).set (2 * k) (UInt8.ofNat (x / 65536 ^ k % 65536 % 256))).set (2 * k + 1) (UInt8.ofNat (x / 65536 ^ k % 65536 / 256)) = byteTo x (k + 1) := by
  have hl := leB_len 32 x
  apply List.ext_getElem
  · simp [byteTo, hl]; omega
  intro i h1 h2
  have hi : i < 32 := by simp [byteTo, hl] at h1; omega
  have g1 := leB_get 32 x i hi
  have gl : (leB 32 x)[i]'(by omega) = UInt8.ofNat (x / 256 ^ i) := by rw [← g1]; simp [List.getD, List.getElem?_eq_getElem (show i < (leB 32 x).length by omega)]
  have p2 : 256 ^ (2 * k) = 65536 ^ k := by rw [Nat.pow_mul]
  rw [List.getElem_set, List.getElem_set]
  by_cases a : 2 * k + 1 = i
  · subst a
    rw [if_pos rfl]
    simp only [byteTo]
    rw [List.getElem_append_left (by rw [List.length_take]; omega), List.getElem_take, gl, Nat.pow_succ, p2, ← Nat.div_div_eq_div_mul]
    generalize x / 65536 ^ k = y
    apply UInt8.toNat_inj.1
    simp
    omega
  · rw [if_neg a]
    by_cases b : 2 * k = i
    · subst b
      rw [if_pos rfl]
      simp only [byteTo]
      rw [List.getElem_append_left (by rw [List.length_take]; omega), List.getElem_take, gl, p2]
      generalize x / 65536 ^ k = y
      apply UInt8.toNat_inj.1
      simp
    · rw [if_neg b]
      simp only [byteTo]
      by_cases c : i < 2 * k
      · rw [List.getElem_append_left (by rw [List.length_take]; omega), List.getElem_append_left (by rw [List.length_take]; omega), List.getElem_take, List.getElem_take]
      · rw [List.getElem_append_right (by rw [List.length_take]; omega), List.getElem_append_right (by rw [List.length_take]; omega)]
        simp
theorem byteTo_zero (x : Nat) : byteTo x 0 = List.replicate 32 0 := by simp [byteTo]
theorem byteTo_end (x : Nat) : byteTo x 16 = leB 32 x := by
  have hl := leB_len 32 x
  unfold byteTo
  rw [List.take_of_length_le (by omega)]
  simp
theorem byteTo_len (x : Nat) (k : Nat) : (byteTo x k).length = 32 := by
  have hl := leB_len 32 x
  simp [byteTo, hl]; omega
end Go.Proofs.Ytlbkpmcccipfhaa

namespace Go.Proofs.Ytlbkpmcccipfhaa
open Go.RowKit
set_option linter.unusedVariables false
set_option maxRecDepth 100000

def tabI (l : List Int) : Array Value := (l.map fun x => Value.int .i64 x).toArray
theorem tabI_size (l : List Int) : (tabI l).size = l.length := by simp [tabI]
theorem tabI_get (l : List Int) (i : Nat) (h : i < l.length) : (tabI l)[i]? = some (.int .i64 (gI l i)) := by
  simp [tabI, gI, List.getD, List.getElem?_eq_getElem h]
theorem tabI_set (l : List Int) (i : Nat) (x : Int) : (tabI l).setIfInBounds i (.int .i64 x) = tabI (l.set i x) := by
  unfold tabI
  rw [List.map_set]
  simp
theorem tabI_one (l : List Int) : (tabI l).all (·.oneCell') = true := by
  simp [tabI, Value.oneCell']

theorem zero_row (T : TypeId) (z : Array Value) (n : Nat) (h : (Try.prog.info? T).map (fun i => (i.zero, i.size)) = some (some (.agg z), n)) (u : World) : (zeroValue T).run Try.prog u = .ok (.agg z) u := by
  cases hi : Try.prog.info? T with
  | none => rw [hi] at h; cases h
  | some i =>
    rw [hi] at h
    simp at h
    simp [zeroValue, typeInfo, hi, h.1]
theorem below_row {B g : Nat} {a w : World} {cs : Array Value} (h : Below B a w) (hg : B ≤ g) : Below B a (w.setRow g cs) :=
  ⟨h.os, h.tape, h.output, by have := h.size; simpa using this, fun j hj => by rw [setRow_other _ _ _ _ (by omega)]; exact h.block j hj⟩
theorem below_then {w w1 w2 : World} (h : Below w.heap.size w w1) (h2 : Below w1.heap.size w1 w2) : Below w.heap.size w w2 := h.trans (h2.mono h.size)

theorem run_loadR {P : Program} {ρ : Operand → Value} {o : Oper} {w : World} {ty : TypeId} {x : Operand} (ho : o.op = .load ty x) {g : Nat} (hx : ρ x = .pointer (some ⟨g, 0, none⟩)) {t : TypeId} {cs : Array Value} {fr : Nat × Nat} {d : TypeDesc} (hg : w.heap[g]? = some (.cells cs t fr))
    (hu : P.underlying ty = some d) (hd : (match d with | .struct _ | .array _ _ => true | _ => false) = true) (hi : (P.info? ty).map (·.size) = some cs.size) :
    (execOp ρ o).run P w = .ok (.value (.agg cs)) w := by
  unfold execOp
  simp only [ho, hx, Instr.loadAt, Instr.sureAddr, Sem.run_bind, Sem.run_pure, Result.andThen_ok, run_loadVar_row w g t ty cs fr d hg hu hd hi]

theorem part_i {P : Program} (e : TypeId) (l : List Int) (i : Nat) (h : i < l.length) (ha : ∀ w, (isAgg e).run P w = .ok false w) (u : World) : (Go.part e (tabI l) i).run P u = .ok (.int .i64 (gI l i)) u := by
  have hg := tabI_get l i h
  simp only [Go.part, Sem.run_bind, ha, Result.andThen_ok, Bool.false_eq_true, if_false]
  rw [hg]
  simp
theorem eqI_loop {P : Program} (e : TypeId) (l m : List Int) (hlm : l.length = m.length) (hu : P.underlying e = some (.int .i64)) (ha : ∀ w, (isAgg e).run P w = .ok false w) (u : World) : ∀ (r : List Nat), (∀ i ∈ r, i < l.length) →
    (forIn r ((none : Option Bool), ()) fun i __s => do
      let a ← Go.part e (tabI l) (i * 1)
      let b ← Go.part e (tabI m) (i * 1)
      let c ← Op.equalIn 9999 e a b
      if (!c) = true then pure (ForInStep.done (some false, ())) else pure (ForInStep.yield ((none : Option Bool), ())) : Sem (Option Bool × Unit)).run P u = .ok (if (r.all fun i => decide (gI l i = gI m i)) = true then none else some false, ()) u
  | [], _ => by simp
  | i :: r, h => by
    have h1 := part_i (P := P) e l i (h i (by simp)) ha u
    have h1' := part_i (P := P) e m i (by have := h i (by simp); omega) ha u
    have h2 : (Op.equalIn 9999 e (.int .i64 (gI l i)) (.int .i64 (gI m i))).run P u = .ok (decide (gI l i = gI m i)) u := by
      rw [show (9999 : Nat) = 9998 + 1 from rfl, run_equalIn_int _ _ _ _ .i64 _ _ hu]
      simp
      rfl
    have ih := eqI_loop e l m hlm hu ha u r (fun j hj => h j (by simp [hj]))
    by_cases hd : gI l i = gI m i
    · have hdt : decide (gI l i = gI m i) = true := decide_eq_true hd
      simp only [List.forIn_cons, Sem.run_bind, Nat.mul_one, h1, h1', h2, Result.andThen_ok, hdt, Bool.not_true, Bool.false_eq_true, if_false, Sem.run_pure, List.all_cons, Bool.true_and] at ih ⊢
      exact ih
    · have hdf : decide (gI l i = gI m i) = false := decide_eq_false hd
      simp only [List.forIn_cons, Sem.run_bind, Nat.mul_one, h1, h1', h2, Result.andThen_ok, hdf, Bool.not_false, if_true, Sem.run_pure, List.all_cons, Bool.false_and, Bool.false_eq_true, if_false]
theorem all_same {l m : List Int} (h : l.length = m.length) : ((List.range' 0 l.length).all fun i => decide (gI l i = gI m i)) = decide (l = m) := by
  by_cases e : l = m
  · subst e; simp
  · rw [decide_eq_false e]
    cases hb : ((List.range' 0 l.length).all fun i => decide (gI l i = gI m i))
    · rfl
    · exfalso
      apply e
      apply List.ext_getElem h
      intro i h1 h2
      have := List.all_eq_true.1 hb i (by rw [List.mem_range'_1]; omega)
      simpa [gI, List.getD, List.getElem?_eq_getElem h1, List.getElem?_eq_getElem h2] using this
theorem eqI_run {P : Program} (T e : TypeId) (n : Nat) (l m : List Int) (hl : l.length = n) (hm : m.length = n) (ht : P.underlying T = some (.array n e)) (hu : P.underlying e = some (.int .i64))
    (ha : ∀ w, (isAgg e).run P w = .ok false w) (hs : ∀ w, (sizeOf e).run P w = .ok 1 w) (u : World) : (binOp .eql T (.agg (tabI l)) (.agg (tabI m))).run P u = .ok (.bool (decide (l = m))) u := by
  have h : (Op.equalIn 10000 T (.agg (tabI l)) (.agg (tabI m))).run P u = .ok (decide (l = m)) u := by
    rw [show (10000 : Nat) = 9999 + 1 from rfl, Op.equalIn]
    simp only [Sem.run_bind, run_underlying ht, Result.andThen_ok, hs]
    simp only [Std.Legacy.Range.forIn_eq_forIn_range', Std.Legacy.Range.size, Nat.sub_zero, Nat.add_sub_cancel, Nat.div_one]
    have hr : ∀ i ∈ List.range' 0 n, i < l.length := fun i hi => by
      rw [List.mem_range'_1] at hi; omega
    rw [eqI_loop e l m (by omega) hu ha u _ hr]
    have hq := all_same (l := l) (m := m) (by omega)
    rw [hl] at hq
    rw [hq]
    by_cases e : l = m
    · rw [decide_eq_true e]; simp
    · rw [decide_eq_false e]; simp
  rw [run_eql_struct, h]
  simp
end Go.Proofs.Ytlbkpmcccipfhaa

namespace Go.Proofs.Ytlbkpmcccipfhaa
open Go.RowKit
set_option linter.unusedVariables false
set_option maxRecDepth 100000

/-- bytes in a row -/
def arrB (l : List UInt8) : Array Value := (l.map bval).toArray
theorem arrB_size (l : List UInt8) : (arrB l).size = l.length := by simp [arrB]
theorem arrB_get (l : List UInt8) (i : Nat) (h : i < l.length) : (arrB l)[i]? = some (.int .u8 ((l.getD i 0).toNat : Int)) := by
  simp [arrB, List.getD, List.getElem?_eq_getElem h, bval]
theorem arrB_set (l : List UInt8) (i : Nat) (x : UInt8) : (arrB l).setIfInBounds i (.int .u8 (x.toNat : Int)) = arrB (l.set i x) := by
  unfold arrB
  rw [List.map_set]
  simp [bval]
theorem arrB_one (l : List UInt8) : (arrB l).all (·.oneCell') = true := by
  simp [arrB, Value.oneCell', bval]
theorem zero_arr (T : TypeId) (z : Array Value) (n : Nat) (h : (Try.prog.info? T).map (fun i => (i.zero, i.size)) = some (some (.agg z), n)) (u : World) : (zeroValue T).run Try.prog u = .ok (.agg z) u := by
  cases hi : Try.prog.info? T with
  | none => rw [hi] at h; cases h
  | some i =>
    rw [hi] at h
    simp at h
    simp [zeroValue, typeInfo, hi, h.1]

theorem part_b {P : Program} (e : TypeId) (l : List UInt8) (i : Nat) (h : i < l.length) (ha : ∀ w, (isAgg e).run P w = .ok false w) (u : World) : (Go.part e (arrB l) i).run P u = .ok (.int .u8 ((l.getD i 0).toNat : Int)) u := by
  have hg := arrB_get l i h
  simp only [Go.part, Sem.run_bind, ha, Result.andThen_ok, Bool.false_eq_true, if_false]
  rw [hg]
  simp

theorem eqB_loop {P : Program} (e : TypeId) (l : List UInt8) (hu : P.underlying e = some (.int .u8)) (ha : ∀ w, (isAgg e).run P w = .ok false w) (u : World) : ∀ (r : List Nat), (∀ i ∈ r, i < l.length) →
    (forIn r ((none : Option Bool), ()) fun i __s => do
      let a ← Go.part e (arrB l) (i * 1)
      let b ← Go.part e (arrB l) (i * 1)
      let c ← Op.equalIn 9999 e a b
      if (!c) = true then pure (ForInStep.done (some false, ())) else pure (ForInStep.yield ((none : Option Bool), ())) : Sem (Option Bool × Unit)).run P u = .ok (none, ()) u
  | [], _ => by simp
  | i :: r, h => by
    have h1 := part_b (P := P) e l i (h i (by simp)) ha u
    have h2 : (Op.equalIn 9999 e (.int .u8 ((l.getD i 0).toNat : Int)) (.int .u8 ((l.getD i 0).toNat : Int))).run P u = .ok true u := by
      rw [show (9999 : Nat) = 9998 + 1 from rfl, run_equalIn_int _ _ _ _ .u8 _ _ hu]; simp
    have ih := eqB_loop e l hu ha u r (fun j hj => h j (by simp [hj]))
    simp only [List.forIn_cons, Sem.run_bind, Nat.mul_one, h1, h2, Result.andThen_ok, Bool.not_true, Bool.false_eq_true, if_false, Sem.run_pure] at ih ⊢
    exact ih

theorem eqB_in {P : Program} (T e : TypeId) (n : Nat) (l : List UInt8) (hl : l.length = n) (ht : P.underlying T = some (.array n e)) (hu : P.underlying e = some (.int .u8))
    (ha : ∀ w, (isAgg e).run P w = .ok false w) (hs : ∀ w, (sizeOf e).run P w = .ok 1 w) (u : World) : (Op.equalIn 10000 T (.agg (arrB l)) (.agg (arrB l))).run P u = .ok true u := by
  rw [show (10000 : Nat) = 9999 + 1 from rfl, Op.equalIn]
  simp only [Sem.run_bind, run_underlying ht, Result.andThen_ok, hs]
  simp only [Std.Legacy.Range.forIn_eq_forIn_range', Std.Legacy.Range.size, Nat.sub_zero, Nat.add_sub_cancel, Nat.div_one]
  have hr : ∀ i ∈ List.range' 0 n, i < l.length := fun i hi => by
    rw [List.mem_range'_1] at hi; omega
  generalize List.range' 0 n = r at *
  rw [eqB_loop e l hu ha u r hr]
  simp
theorem eqB_refl {P : Program} (T e : TypeId) (n : Nat) (l : List UInt8) (hl : l.length = n) (ht : P.underlying T = some (.array n e)) (hu : P.underlying e = some (.int .u8))
    (ha : ∀ w, (isAgg e).run P w = .ok false w) (hs : ∀ w, (sizeOf e).run P w = .ok 1 w) (u : World) : (binOp .eql T (.agg (arrB l)) (.agg (arrB l))).run P u = .ok (.bool true) u := by
  rw [run_eql_struct, eqB_in T e n l hl ht hu ha hs u]
  simp
theorem bs_lt {W : World} {A : Option Addr} {l : List UInt8} (h : Bs W A l) (hl : 0 < l.length) {k : Nat} (hk : At A k) : k < W.heap.size := by
  obtain ⟨b, o, rfl, hc⟩ := h hl
  obtain ⟨a, e, rfl⟩ := hk
  injection e with e
  subst e
  exact World.block_lt_of_cell? W _ (hc 0 hl)

theorem run_eql2 {P : Program} {ρ : Operand → Value} {o : Oper} {w : World} {op : BinOp} {T T' : TypeId} {x y : Operand} {cs ds : Array Value} {r : Value} (ho : o.op = .binOp op T x y T') (hx : ρ x = .agg cs) (hy : ρ y = .agg ds) (hm : P.eqGuardType P.depth T = false)
    (he : (binOp op T (.agg cs) (.agg ds)).run P w = .ok r w) : (execOp ρ o).run P w = .ok (.value r) w := by
  unfold execOp
  simp only [ho, hx, hy, Sem.run_bind, run_eqGuard_agg w op T x y cs ds hm, Result.andThen_ok, he, Sem.run_pure]
theorem frozen_row {W : World} {g : Nat} {cs : Array Value} {t : TypeId} (h : W.heap[g]? = some (.cells cs t (0, 0))) (k : Nat) : W.frozen? ⟨g, k, none⟩ = false := by simp [World.frozen?, h]
theorem neqB_run {P : Program} (T : TypeId) (xs ys : Array Value) (b : Bool) (u : World) (h : (binOp .eql T (.agg xs) (.agg ys)).run P u = .ok (.bool b) u) : (binOp .neq T (.agg xs) (.agg ys)).run P u = .ok (.bool (!b)) u := by
  rw [run_eql_struct] at h
  rw [run_neq_struct]
  cases hq : (Op.equalIn 10000 T (.agg xs) (.agg ys)).run P u with
  | ok c w' =>
    rw [hq] at h
    simp [Result.andThen] at h
    obtain ⟨h1, h2⟩ := h
    subst h1
    subst h2
    simp [Result.andThen]
  | halt x w' => rw [hq] at h; cases h

theorem eqB2_loop {P : Program} (e : TypeId) (l m : List UInt8) (hlm : l.length = m.length) (hu : P.underlying e = some (.int .u8)) (ha : ∀ w, (isAgg e).run P w = .ok false w) (u : World) : ∀ (r : List Nat), (∀ i ∈ r, i < l.length) →
    (forIn r ((none : Option Bool), ()) fun i __s => do
      let a ← Go.part e (arrB l) (i * 1)
      let b ← Go.part e (arrB m) (i * 1)
      let c ← Op.equalIn 9999 e a b
      if (!c) = true then pure (ForInStep.done (some false, ())) else pure (ForInStep.yield ((none : Option Bool), ())) : Sem (Option Bool × Unit)).run P u = .ok (if (r.all fun i => decide (l.getD i 0 = m.getD i 0)) = true then none else some false, ()) u
  | [], _ => by simp
  | i :: r, h => by
    have h1 := part_b (P := P) e l i (h i (by simp)) ha u
    have h1' := part_b (P := P) e m i (by have := h i (by simp); omega) ha u
    have h2 : (Op.equalIn 9999 e (.int .u8 ((l.getD i 0).toNat : Int)) (.int .u8 ((m.getD i 0).toNat : Int))).run P u = .ok (decide (l.getD i 0 = m.getD i 0)) u := by
      rw [show (9999 : Nat) = 9998 + 1 from rfl, run_equalIn_int _ _ _ _ .u8 _ _ hu]
      generalize l.getD i 0 = a
      generalize m.getD i 0 = b
      by_cases hq : a = b
      · rw [hq]; simp
      · rw [decide_eq_false hq]
        have : ¬ a.toNat = b.toNat := fun e => hq (UInt8.toNat_inj.1 e)
        congr 1
        simp; omega
    have ih := eqB2_loop e l m hlm hu ha u r (fun j hj => h j (by simp [hj]))
    by_cases hd : l.getD i 0 = m.getD i 0
    · have hdt : decide (l.getD i 0 = m.getD i 0) = true := decide_eq_true hd
      simp only [List.forIn_cons, Sem.run_bind, Nat.mul_one, h1, h1', h2, Result.andThen_ok, hdt, Bool.not_true, Bool.false_eq_true, if_false, Sem.run_pure, List.all_cons, Bool.true_and] at ih ⊢
      exact ih
    · have hdf : decide (l.getD i 0 = m.getD i 0) = false := decide_eq_false hd
      simp only [List.forIn_cons, Sem.run_bind, Nat.mul_one, h1, h1', h2, Result.andThen_ok, hdf, Bool.not_false, if_true, Sem.run_pure, List.all_cons, Bool.false_and, Bool.false_eq_true, if_false]
theorem allB_same {l m : List UInt8} (h : l.length = m.length) : ((List.range' 0 l.length).all fun i => decide (l.getD i 0 = m.getD i 0)) = decide (l = m) := by
  by_cases e : l = m
  · subst e; simp
  · rw [decide_eq_false e]
    cases hb : ((List.range' 0 l.length).all fun i => decide (l.getD i 0 = m.getD i 0))
    · rfl
    · exfalso
      apply e
      apply List.ext_getElem h
      intro i h1 h2
      have := List.all_eq_true.1 hb i (by rw [List.mem_range'_1]; omega)
      simpa [List.getD, List.getElem?_eq_getElem h1, List.getElem?_eq_getElem h2] using this
theorem eqB_any {P : Program} (T e : TypeId) (n : Nat) (l m : List UInt8) (hl : l.length = n) (hm : m.length = n) (ht : P.underlying T = some (.array n e)) (hu : P.underlying e = some (.int .u8))
    (ha : ∀ w, (isAgg e).run P w = .ok false w) (hs : ∀ w, (sizeOf e).run P w = .ok 1 w) (u : World) : (Op.equalIn 10000 T (.agg (arrB l)) (.agg (arrB m))).run P u = .ok (decide (l = m)) u := by
  rw [show (10000 : Nat) = 9999 + 1 from rfl, Op.equalIn]
  simp only [Sem.run_bind, run_underlying ht, Result.andThen_ok, hs]
  simp only [Std.Legacy.Range.forIn_eq_forIn_range', Std.Legacy.Range.size, Nat.sub_zero, Nat.add_sub_cancel, Nat.div_one]
  have hr : ∀ i ∈ List.range' 0 n, i < l.length := fun i hi => by
    rw [List.mem_range'_1] at hi; omega
  rw [eqB2_loop e l m (by omega) hu ha u _ hr]
  have hq := allB_same (l := l) (m := m) (by omega)
  rw [hl] at hq
  rw [hq]
  by_cases e : l = m
  · rw [decide_eq_true e]; simp
  · rw [decide_eq_false e]; simp
theorem eqB_run {P : Program} (T e : TypeId) (n : Nat) (l m : List UInt8) (hl : l.length = n) (hm : m.length = n) (ht : P.underlying T = some (.array n e)) (hu : P.underlying e = some (.int .u8))
    (ha : ∀ w, (isAgg e).run P w = .ok false w) (hs : ∀ w, (sizeOf e).run P w = .ok 1 w) (u : World) : (binOp .eql T (.agg (arrB l)) (.agg (arrB m))).run P u = .ok (.bool (decide (l = m))) u := by
  rw [run_eql_struct, eqB_any T e n l m hl hm ht hu ha hs u]
  simp
end Go.Proofs.Ytlbkpmcccipfhaa

