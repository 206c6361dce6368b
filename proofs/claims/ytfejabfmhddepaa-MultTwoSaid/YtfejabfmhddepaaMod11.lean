/- Numbers modulo the base point's order by digits of 16 bits, bit by bit. No program is named here. -/
import Derived.Test.YtfejabfmhddepaaGfb
namespace Go.Proofs.Ytfejabfmhddepaa
set_option linter.unusedVariables false
set_option maxRecDepth 100000

abbrev LL : Nat := 7237005577332262213973186563042994240857116359379907606001950938285454250989
/-- a row of n whose first k are by f -/
def opG (n : Nat) (f : Nat → Int) (a : List Int) (k : Nat) : List Int := (List.range n).map fun i => if i < k then f i else gI a i
theorem opG_len (n f a k) : (opG n f a k).length = n := by simp [opG]
theorem opG_get {n : Nat} (f : Nat → Int) (a : List Int) (k i : Nat) (h : i < n) : gI (opG n f a k) i = if i < k then f i else gI a i := by
  simp [opG, gI, List.getD, h]
theorem list_ext_gI {l m : List Int} (h : l.length = m.length) (hc : ∀ i, i < l.length → gI l i = gI m i) : l = m := by
  apply List.ext_getElem h
  intro i h1 h2
  have := hc i h1
  simpa [gI, List.getD, List.getElem?_eq_getElem h1, List.getElem?_eq_getElem h2] using this
theorem opG_zero {n : Nat} (f : Nat → Int) {a : List Int} (h : a.length = n) : opG n f a 0 = a :=
  list_ext_gI (by rw [opG_len, h]) fun i hi => by rw [opG_len] at hi; rw [opG_get _ _ _ _ hi]; simp
theorem opG_set {n : Nat} (f : Nat → Int) (a : List Int) {k : Nat} (h : k < n) : (opG n f a k).set k (f k) = opG n f a (k + 1) :=
  list_ext_gI (by rw [List.length_set, opG_len, opG_len]) fun i hi => by
    rw [List.length_set, opG_len] at hi
    rw [gI_set _ _ _ _ (by rw [opG_len]; exact h), opG_get _ _ _ _ hi, opG_get _ _ _ _ hi]
    by_cases e : k = i
    · subst e; simp
    · rw [if_neg e]
      by_cases h2 : i < k
      · rw [if_pos h2, if_pos (by omega)]
      · rw [if_neg h2, if_neg (by omega)]
theorem opG_end {n : Nat} (f : Nat → Int) (a : List Int) {b : List Int} (hb : b.length = n) (h : ∀ i, i < n → f i = gI b i) : opG n f a n = b :=
  list_ext_gI (by rw [opG_len, hb]) fun i hi => by rw [opG_len] at hi; rw [opG_get _ _ _ _ hi, if_pos hi, h i hi]
theorem gI_dgN : ∀ (n i v : Nat), i < n → gI (dgN n (v : Int)) i = ((v / 65536 ^ i % 65536 : Nat) : Int)
  | 0, _, _, h => by omega
  | n + 1, 0, v, _ => by rw [dgN, gI_zero]; simp
  | n + 1, i + 1, v, h => by
    rw [dgN, gI_cons, show (v : Int) / 65536 = ((v / 65536 : Nat) : Int) by omega, gI_dgN n i (v / 65536) (by omega), Nat.pow_succ, Nat.mul_comm, Nat.div_div_eq_div_mul]
/-! Doubling. -/
def dblC (R c k : Nat) : Nat := (2 * (R % 65536 ^ k) + c) / 65536 ^ k
theorem dblC_zero (R c : Nat) : dblC R c 0 = c := by unfold dblC; simp [Nat.mod_one]
theorem dbl_step (R c k : Nat) : (dblC R c k + 2 * (R / 65536 ^ k % 65536)) % 65536 = (2 * R + c) / 65536 ^ k % 65536 ∧ (dblC R c k + 2 * (R / 65536 ^ k % 65536)) / 65536 = dblC R c (k + 1) := by
  unfold dblC
  rw [Nat.pow_succ]
  have hP : 0 < 65536 ^ k := Nat.pow_pos (by decide)
  generalize 65536 ^ k = P at *
  have h1 : R = P * (R / P) + R % P := (Nat.div_add_mod R P).symm
  have h2 : R / P = 65536 * (R / P / 65536) + R / P % 65536 := (Nat.div_add_mod _ _).symm
  have h3 : R % (P * 65536) = R % P + P * (R / P % 65536) := Nat.mod_mul
  have hr : R % P < P := Nat.mod_lt _ hP
  have h4 : 2 * (R % P) + c = P * ((2 * (R % P) + c) / P) + (2 * (R % P) + c) % P := (Nat.div_add_mod _ _).symm
  have hs : (2 * (R % P) + c) % P < P := Nat.mod_lt _ hP
  have e1 : (2 * R + c) / P = (2 * (R % P) + c) / P + 2 * (R / P) := by
    rw [show 2 * R + c = 2 * (R % P) + c + 2 * (R / P) * P by
      have : 2 * R = 2 * (P * (R / P)) + 2 * (R % P) := by omega
      rw [this, Nat.mul_comm (2 * (R / P)) P, ← Nat.mul_assoc, Nat.mul_comm 2 P, Nat.mul_assoc]; omega]
    rw [Nat.add_mul_div_right _ _ hP]
  have e2 : (2 * (R % (P * 65536)) + c) / (P * 65536) = ((2 * (R % P) + c) / P + 2 * (R / P % 65536)) / 65536 := by
    rw [h3, ← Nat.div_div_eq_div_mul]
    congr 1
    rw [show 2 * (R % P + P * (R / P % 65536)) + c = 2 * (R % P) + c + 2 * (R / P % 65536) * P by
      rw [Nat.mul_add, ← Nat.mul_assoc, Nat.mul_comm 2 P, Nat.mul_assoc, Nat.mul_comm (2 * (R / P % 65536)) P]; omega]
    rw [Nat.add_mul_div_right _ _ hP]
  rw [e1, e2]
  constructor <;> omega
theorem dblC_le (R c k : Nat) (hc : c < 2) : dblC R c k < 2 := by
  unfold dblC
  have hP : 0 < 65536 ^ k := Nat.pow_pos (by decide)
  have hr : R % 65536 ^ k < 65536 ^ k := Nat.mod_lt _ hP
  rw [Nat.div_lt_iff_lt_mul hP]
  omega
/-! Taking the order away. -/
theorem vL_sub (f g : Nat → Int) : ∀ l : List Nat, vL (l.map fun i => f i - g i) = vL (l.map f) - vL (l.map g)
  | [] => rfl
  | a :: l => by have := vL_sub f g l; simp only [List.map_cons, vL] at *; omega
theorem range_gI {n : Nat} {l : List Int} (h : l.length = n) : (List.range n).map (fun i => gI l i) = l :=
  list_ext_gI (by simp [h]) fun i hi => by simp at hi; simp [gI, List.getD, hi]
def subG (R : Nat) : List Int := (List.range 17).map fun i => gI (dgN 17 (R : Int)) i - gI (dgN 34 (LL : Int)) i
theorem subG_len (R : Nat) : (subG R).length = 17 := by simp [subG]
theorem subG_get (R i : Nat) (h : i < 17) : gI (subG R) i = gI (dgN 17 (R : Int)) i - gI (dgN 34 (LL : Int)) i := by
  simp [subG, gI, List.getD, h]
theorem dg34 (i : Nat) (h : i < 17) : gI (dgN 34 (LL : Int)) i = gI (dgN 17 (LL : Int)) i := by
  rw [gI_dgN 34 i LL (by omega), gI_dgN 17 i LL h]
theorem pow17 : (65536 : Int) ^ 17 = ((65536 ^ 17 : Nat) : Int) := by decide
theorem pow34 : (65536 : Int) ^ 34 = ((65536 ^ 34 : Nat) : Int) := by decide
theorem subG_val (R : Nat) (h : R < 65536 ^ 17) : vL (subG R) = (R : Int) - (LL : Int) := by
  have e : subG R = (List.range 17).map fun i => gI (dgN 17 (R : Int)) i - gI (dgN 17 (LL : Int)) i := by
    unfold subG
    apply List.map_congr_left
    intro i hi
    rw [dg34 i (by simpa using hi)]
  rw [e, vL_sub, range_gI (dgN_len _ _), range_gI (dgN_len _ _), vL_dgN 17 _ (by omega) (by rw [pow17]; exact Int.ofNat_lt.2 h), vL_dgN 17 _ (by omega) (by decide)]
theorem subG_bd (R : Nat) : Bd 65536 (subG R) := fun i => by
  by_cases h : i < 17
  · rw [subG_get R i h]
    have a := dgN_get 17 (R : Int) i h
    have b := dgN_get 34 (LL : Int) i (by omega)
    omega
  · rw [gI_out (by rw [subG_len]; omega)]; omega
theorem top17 {m : List Int} (hl : m.length = 17) (hp : ∀ i, i < 16 → 0 ≤ gI m i ∧ gI m i < 65536) : (0 ≤ gI m 16 ↔ 0 ≤ vL m) ∧ (0 ≤ vL m → vL m < 65536 ^ 17 → m = dgN 17 (vL m)) := by
  have e : m = m.take 16 ++ [gI m 16] := by
    have e1 := List.take_append_drop 16 m
    have d : m.drop 16 = [gI m 16] := by
      rw [List.drop_eq_getElem_cons (by omega), List.drop_eq_nil_of_le (by omega)]
      simp [gI, List.getD, List.getElem?_eq_getElem (show 16 < m.length by omega)]
    rw [← d]; exact e1.symm
  have ht : (m.take 16).length = 16 := by rw [List.length_take]; omega
  have hv : vL m = vL (m.take 16) + gI m 16 * 65536 ^ 16 := by
    have h := vL_split (m.take 16) (gI m 16)
    rw [← e, ht] at h
    exact h
  have hb := vL_bound (m.take 16) (fun i hi => by
    rw [ht] at hi
    have := hp i hi
    have e2 : gI (m.take 16) i = gI m i := by unfold gI; simp [List.getD, hi]
    rw [e2]; exact this)
  rw [ht] at hb
  have hP : (65536 : Int) ^ 16 = 115792089237316195423570985008687907853269984665640564039457584007913129639936 := by decide
  have hP2 : (65536 : Int) ^ 17 = 7588550360256754183279148073529370729071901715047420004889892225542594864082845696 := by decide
  rw [hP] at hv hb
  rw [hP2]
  refine ⟨by omega, fun h0 h1 => ?_⟩
  have := dg_unique m (fun i hi => by
    rw [hl] at hi
    by_cases h16 : i < 16
    · exact hp i h16
    · have : i = 16 := by omega
      subst this
      omega)
  rwa [hl] at this
theorem sub_carry (R : Nat) (h : R < 2 * LL) : (0 ≤ gI (carryTo (subG R) 16) 16 ↔ LL ≤ R) ∧ (LL ≤ R → carryTo (subG R) 16 = dgN 17 ((R - LL : Nat) : Int)) := by
  have hR : R < 65536 ^ 17 := Nat.lt_trans h (by decide)
  have st := carry_st (B := 65536) (by decide) (subG_bd R) 16 (by rw [subG_len]; omega)
  have hv := carryTo_val (subG R) 16 (by rw [subG_len]; omega)
  rw [subG_val R hR] at hv
  have t := top17 (by rw [carryTo_len, subG_len]) st.low
  rw [hv] at t
  refine ⟨t.1.trans (by omega), fun hle => ?_⟩
  have := t.2 (by omega) (by
    have : (R : Int) - (LL : Int) < (65536 ^ 17 : Nat) := by omega
    simpa using this)
  rwa [show (R : Int) - (LL : Int) = ((R - LL : Nat) : Int) by omega] at this
/-! The bits. -/
theorem bit_at (V i : Nat) : V / 65536 ^ (i / 16) % 65536 / 2 ^ (i % 16) % 2 = V / 2 ^ i % 2 := by
  have e : 2 ^ i = 65536 ^ (i / 16) * 2 ^ (i % 16) := by
    rw [show (65536 : Nat) = 2 ^ 16 by decide, ← Nat.pow_mul, ← Nat.pow_add]
    congr 1; omega
  rw [e, ← Nat.div_div_eq_div_mul]
  generalize V / 65536 ^ (i / 16) = a
  have : i % 16 < 16 := Nat.mod_lt _ (by decide)
  generalize i % 16 = r at *
  have h : r = 0 ∨ r = 1 ∨ r = 2 ∨ r = 3 ∨ r = 4 ∨ r = 5 ∨ r = 6 ∨ r = 7 ∨ r = 8 ∨ r = 9 ∨ r = 10 ∨ r = 11 ∨ r = 12 ∨ r = 13 ∨ r = 14 ∨ r = 15 := by omega
  rcases h with rfl | rfl | rfl | rfl | rfl | rfl | rfl | rfl | rfl | rfl | rfl | rfl | rfl | rfl | rfl | rfl <;> (simp only [Nat.reducePow]; omega)
def modR (V k : Nat) : Nat := V / 2 ^ k % LL
theorem modR_lt (V k : Nat) : modR V k < LL := Nat.mod_lt _ (by decide)
theorem modR_step (V k : Nat) : modR V k = (2 * modR V (k + 1) + V / 2 ^ k % 2) % LL := by
  unfold modR
  have e : V / 2 ^ k = 2 * (V / 2 ^ (k + 1)) + V / 2 ^ k % 2 := by
    rw [Nat.pow_succ, ← Nat.div_div_eq_div_mul]; omega
  conv => lhs; rw [e]
  rw [Nat.add_mod, Nat.mul_mod]
  conv => rhs; rw [Nat.add_mod, Nat.mul_mod, Nat.mod_mod]
theorem modR_next {V k R c : Nat} (hR : R = modR V (k + 1)) (hc : c = V / 2 ^ k % 2) : modR V k = if LL ≤ 2 * R + c then 2 * R + c - LL else 2 * R + c := by
  have h1 := modR_lt V (k + 1)
  have h2 : V / 2 ^ k % 2 < 2 := Nat.mod_lt _ (by decide)
  rw [modR_step, ← hR, ← hc]
  rw [← hR] at h1
  rw [← hc] at h2
  unfold LL at *
  split <;> omega
theorem modR_top (V : Nat) (h : V < 65536 ^ 34) : modR V 544 = 0 := by
  rw [show (65536 : Nat) = 2 ^ 16 by decide, ← Nat.pow_mul, show 16 * 34 = 544 from rfl] at h
  unfold modR
  rw [Nat.div_eq_of_lt h, Nat.zero_mod]
theorem modR_zero (V : Nat) : modR V 0 = V % LL := by unfold modR; simp
/-! Bytes of digits, digits of bytes. -/
theorem byte_dg (R i : Nat) : R / 65536 ^ (i / 2) % 65536 / 2 ^ (8 * (i % 2)) % 256 = R / 256 ^ i % 256 := by
  have e : 256 ^ i = 65536 ^ (i / 2) * 2 ^ (8 * (i % 2)) := by
    rw [show (65536 : Nat) = 2 ^ 16 by decide, show (256 : Nat) = 2 ^ 8 by decide, ← Nat.pow_mul, ← Nat.pow_mul, ← Nat.pow_add]
    congr 1; omega
  rw [e, ← Nat.div_div_eq_div_mul]
  generalize R / 65536 ^ (i / 2) = a
  have : i % 2 = 0 ∨ i % 2 = 1 := by omega
  rcases this with h | h <;> rw [h] <;> simp only [Nat.reducePow, Nat.reduceMul] <;> omega
theorem dg_add (n b k : Nat) (hk : k < 68) (hn : n < 256 ^ k) (hb : b < 256) : dgN 34 ((n + b * 256 ^ k : Nat) : Int) = (dgN 34 (n : Int)).set (k / 2) (gI (dgN 34 (n : Int)) (k / 2) + ((b * 2 ^ (8 * (k % 2)) : Nat) : Int)) := by
  have e : 256 ^ k = 65536 ^ (k / 2) * 2 ^ (8 * (k % 2)) := by
    rw [show (65536 : Nat) = 2 ^ 16 by decide, show (256 : Nat) = 2 ^ 8 by decide, ← Nat.pow_mul, ← Nat.pow_mul, ← Nat.pow_add]
    congr 1; omega
  have hq : k / 2 < 34 := by omega
  have hlt : n < 65536 ^ 34 := Nat.lt_of_lt_of_le hn (Nat.le_trans (Nat.pow_le_pow_right (by decide) (show k ≤ 68 by omega)) (by decide))
  have hd : n / 65536 ^ (k / 2) < 2 ^ (8 * (k % 2)) := by
    rw [Nat.div_lt_iff_lt_mul (Nat.pow_pos (by decide)), Nat.mul_comm, ← e]; exact hn
  have hr : 2 ^ (8 * (k % 2)) = 1 ∨ 2 ^ (8 * (k % 2)) = 256 := by
    have : k % 2 = 0 ∨ k % 2 = 1 := by omega
    rcases this with h | h <;> rw [h] <;> simp
  have hg := gI_dgN 34 (k / 2) n hq
  have key := dg_unique ((dgN 34 (n : Int)).set (k / 2) (gI (dgN 34 (n : Int)) (k / 2) + ((b * 2 ^ (8 * (k % 2)) : Nat) : Int))) (fun i hi => by
    rw [List.length_set, dgN_len] at hi
    rw [gI_set _ _ _ _ (by rw [dgN_len]; exact hq)]
    by_cases h : k / 2 = i
    · rw [if_pos h, hg]
      have h2 : n / 65536 ^ (k / 2) % 65536 = n / 65536 ^ (k / 2) := Nat.mod_eq_of_lt (by rcases hr with h | h <;> rw [h] at hd <;> omega)
      rw [h2]
      generalize n / 65536 ^ (k / 2) = y at *
      rcases hr with h3 | h3 <;> rw [h3] at hd ⊢ <;> omega
    · rw [if_neg h]; exact dgN_get 34 _ i hi)
  rw [List.length_set, dgN_len, vL_set _ _ _ (by rw [dgN_len]; exact hq), vL_dgN 34 _ (by omega) (by rw [pow34]; exact Int.ofNat_lt.2 hlt)] at key
  rw [key]
  congr 1
  rw [e]
  have : ((b * (65536 ^ (k / 2) * 2 ^ (8 * (k % 2))) : Nat) : Int) = ((b * 2 ^ (8 * (k % 2)) : Nat) : Int) * 65536 ^ (k / 2) := by
    rw [← Nat.mul_assoc, Nat.mul_right_comm, Int.natCast_mul (b * 2 ^ (8 * (k % 2)))]; simp
  rw [Int.natCast_add, this]
  generalize ((b * 2 ^ (8 * (k % 2)) : Nat) : Int) = z
  generalize (65536 : Int) ^ (k / 2) = q
  grind
end Go.Proofs.Ytfejabfmhddepaa

