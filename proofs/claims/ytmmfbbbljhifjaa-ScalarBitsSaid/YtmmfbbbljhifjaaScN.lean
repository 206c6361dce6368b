/- Numbers in rows of words of 64 bits: bytes, sums, differences, products, what is left modulo the base point's order. No program is named here. -/
import Derived.Test.YtmmfbbbljhifjaaGwd
import Derived.Test.YtmmfbbbljhifjaaMod11
namespace Go.Proofs.Ytmmfbbbljhifjaa
set_option linter.unusedVariables false
set_option maxRecDepth 100000

/-- the number of a row of words, the lowest first -/
def vQ : List Nat → Nat
  | [] => 0
  | x :: l => x + Q64 * vQ l
/-- the first k words of a number -/
def wsL : Nat → Nat → List Nat
  | 0, _ => []
  | k + 1, n => n % Q64 :: wsL k (n / Q64)
def wsA (l : List Nat) : Array Value := (l.map fun x : Nat => Value.int .u64 ((x : Nat) : Int)).toArray
/-- k words of a number in a row -/
def wdW (k n : Nat) : Array Value := wsA (wsL k n)
/-- a row of k words -/
structure Ws (k : Nat) (l : List Nat) : Prop where
  len : l.length = k
  lt : ∀ i, i < k → l.getD i 0 < Q64
theorem wsL_len : ∀ k n, (wsL k n).length = k
  | 0, _ => rfl
  | k + 1, n => by rw [wsL, List.length_cons, wsL_len]
theorem wsL_get : ∀ (k n i : Nat), i < k → (wsL k n).getD i 0 = wq n i
  | 0, _, _, h => by omega
  | k + 1, n, 0, _ => by simp [wsL, wq]
  | k + 1, n, i + 1, h => by
    rw [wsL, List.getD_cons_succ, wsL_get k (n / Q64) i (by omega)]
    unfold wq
    rw [Nat.div_div_eq_div_mul, ← Nat.pow_succ']
theorem wsL_ws (k n : Nat) : Ws k (wsL k n) := ⟨wsL_len k n, fun i hi => by rw [wsL_get k n i hi]; exact wq_lt n i⟩
theorem vQ_wsL : ∀ k n, vQ (wsL k n) = n % Q64 ^ k
  | 0, n => by simp [wsL, vQ, Nat.mod_one]
  | k + 1, n => by rw [wsL, vQ, vQ_wsL k (n / Q64), Nat.pow_succ', Nat.mod_mul]
theorem vQ_eq {k n : Nat} (h : n < Q64 ^ k) : vQ (wsL k n) = n := by rw [vQ_wsL, Nat.mod_eq_of_lt h]
theorem wsL_vQ : ∀ {k : Nat} {l : List Nat}, Ws k l → wsL k (vQ l) = l
  | 0, l, h => by rw [List.eq_nil_of_length_eq_zero h.len]; rfl
  | k + 1, [], h => by have := h.len; simp at this
  | k + 1, x :: l, h => by
    have hx : x < Q64 := h.lt 0 (by omega)
    have hl : Ws k l := ⟨by have := h.len; simpa using this, fun i hi => by have := h.lt (i + 1) (by omega); rwa [List.getD_cons_succ] at this⟩
    rw [vQ, wsL, Nat.add_mul_mod_self_left, Nat.mod_eq_of_lt hx, Nat.add_mul_div_left _ _ (by decide), Nat.div_eq_of_lt hx, Nat.zero_add, wsL_vQ hl]
theorem vQ_lt : ∀ {k : Nat} {l : List Nat}, Ws k l → vQ l < Q64 ^ k
  | 0, l, h => by rw [List.eq_nil_of_length_eq_zero h.len]; simp [vQ]
  | k + 1, [], h => by have := h.len; simp at this
  | k + 1, x :: l, h => by
    have hx : x < Q64 := h.lt 0 (by omega)
    have hl : Ws k l := ⟨by have := h.len; simpa using this, fun i hi => by have := h.lt (i + 1) (by omega); rwa [List.getD_cons_succ] at this⟩
    have := vQ_lt hl
    rw [vQ, Nat.pow_succ']
    have : Q64 * (vQ l + 1) ≤ Q64 * Q64 ^ k := Nat.mul_le_mul_left _ this
    rw [Nat.mul_add] at this
    omega
theorem vQ_set : ∀ (l : List Nat) (i v : Nat), i < l.length → vQ (l.set i v) + l.getD i 0 * Q64 ^ i = vQ l + v * Q64 ^ i
  | [], _, _, h => by simp at h
  | x :: l, 0, v, _ => by simp [vQ]; omega
  | x :: l, i + 1, v, h => by
    have ih := vQ_set l i v (by simpa using h)
    rw [List.set_cons_succ, vQ, vQ, List.getD_cons_succ, Nat.pow_succ']
    have := congrArg (Q64 * ·) ih
    simp only [Nat.mul_add] at this
    rw [Nat.mul_left_comm (l.getD i 0), Nat.mul_left_comm v]
    omega
theorem Ws.set {k : Nat} {l : List Nat} (h : Ws k l) (i v : Nat) (hv : v < Q64) : Ws k (l.set i v) :=
  ⟨by rw [List.length_set]; exact h.len, fun j hj => by
    have := h.lt j hj
    rw [List.getD_eq_getElem?_getD, List.getElem?_set]
    by_cases e : i = j
    · subst e; simp [h.len, hj, hv]
    · simp only [if_neg e]; rwa [← List.getD_eq_getElem?_getD]⟩
theorem ws_row {k n : Nat} {l : List Nat} (h : Ws k l) (hv : vQ l = n) : wsA l = wdW k n := by rw [wdW, ← hv, wsL_vQ h]
theorem wsA_size (l : List Nat) : (wsA l).size = l.length := by simp [wsA]
theorem wsA_get (l : List Nat) (i : Nat) (h : i < l.length) : (wsA l)[i]? = some (.int .u64 ((l.getD i 0 : Nat) : Int)) := by
  simp [wsA, List.getD, List.getElem?_eq_getElem h]
theorem wsA_set (l : List Nat) (i x : Nat) : (wsA l).setIfInBounds i (.int .u64 (x : Int)) = wsA (l.set i x) := by
  unfold wsA
  rw [List.map_set]
  simp
theorem wsA_one (l : List Nat) : (wsA l).all (·.oneCell') = true := by simp [wsA, Value.oneCell']
theorem wdW_size (k n : Nat) : (wdW k n).size = k := by rw [wdW, wsA_size, wsL_len]
theorem wdW_get (k n d : Nat) (h : d < k) : (wdW k n)[d]? = some (.int .u64 (wq n d : Int)) := by
  rw [wdW, wsA_get _ _ (by rw [wsL_len]; exact h), wsL_get _ _ _ h]
theorem wdW_one (k n : Nat) : (wdW k n).all (·.oneCell') = true := wsA_one _
theorem ws_ext {k : Nat} {l m : List Nat} (h : l.length = k) (h2 : m.length = k) (he : ∀ i, i < k → l.getD i 0 = m.getD i 0) : l = m := by
  apply List.ext_getElem (by omega)
  intro i h3 h4
  have := he i (by omega)
  simpa [List.getD, List.getElem?_eq_getElem h3, List.getElem?_eq_getElem h4] using this
theorem wdW_set (k n m d : Nat) (hd : d < k) (h : ∀ j, j < k → j ≠ d → wq m j = wq n j) : (wdW k n).setIfInBounds d (.int .u64 (wq m d : Int)) = wdW k m := by
  rw [wdW, wsA_set, wdW]
  congr 1
  refine ws_ext (k := k) (by rw [List.length_set, wsL_len]) (wsL_len _ _) fun i hi => ?_
  rw [List.getD_eq_getElem?_getD, List.getElem?_set, wsL_get _ _ _ hi]
  by_cases e : d = i
  · subst e; simp [wsL_len, hi]
  · simp only [if_neg e]
    rw [← List.getD_eq_getElem?_getD, wsL_get _ _ _ hi]
    exact (h i hi (fun e2 => e e2.symm)).symm
theorem wdW_zero4 : wdW 4 0 = #[.int .u64 0, .int .u64 0, .int .u64 0, .int .u64 0] := rfl
theorem wdW_zero8 : wdW 8 0 = #[.int .u64 0, .int .u64 0, .int .u64 0, .int .u64 0, .int .u64 0, .int .u64 0, .int .u64 0, .int .u64 0] := rfl
theorem wdW_four (n : Nat) : wdW 4 n = #[.int .u64 (wq n 0 : Int), .int .u64 (wq n 1 : Int), .int .u64 (wq n 2 : Int), .int .u64 (wq n 3 : Int)] := by
  rw [wdW, ws_ext (wsL_len 4 n) (m := [wq n 0, wq n 1, wq n 2, wq n 3]) rfl fun i hi => by
    rw [wsL_get _ _ _ hi]
    have : i = 0 ∨ i = 1 ∨ i = 2 ∨ i = 3 := by omega
    rcases this with rfl | rfl | rfl | rfl <;> rfl]
  rfl
theorem four_row (a b c d n : Nat) (ha : a < Q64) (hb : b < Q64) (hc : c < Q64) (hd : d < Q64) (h : a + Q64 * (b + Q64 * (c + Q64 * d)) = n) :
    #[Value.int .u64 (a : Int), .int .u64 (b : Int), .int .u64 (c : Int), .int .u64 (d : Int)] = wdW 4 n := by
  have hw : Ws 4 [a, b, c, d] := ⟨rfl, fun i hi => by
    have : i = 0 ∨ i = 1 ∨ i = 2 ∨ i = 3 := by omega
    rcases this with rfl | rfl | rfl | rfl <;> assumption⟩
  exact ws_row hw (by simpa [vQ] using h)
/-- one more byte, in its word -/
theorem wd_step (n b k : Nat) (hn : n < 256 ^ k) (hb : b < 256) : wq n (k / 8) < 2 ^ (k % 8 * 8) ∧ 2 ^ (k % 8 * 8) * b < Q64 ∧ wq (n + b * 256 ^ k) (k / 8) = wq n (k / 8) + 2 ^ (k % 8 * 8) * b ∧
    ∀ j, j ≠ k / 8 → wq (n + b * 256 ^ k) j = wq n j := by
  have hk : k = 8 * (k / 8) + k % 8 := by omega
  obtain ⟨d, hd⟩ : ∃ d, k / 8 = d := ⟨_, rfl⟩
  obtain ⟨r, hr⟩ : ∃ r, k % 8 = r := ⟨_, rfl⟩
  have hr8 : r < 8 := by omega
  rw [hd, hr] at hk ⊢
  have hP : 256 ^ k = Q64 ^ d * 2 ^ (r * 8) := by
    rw [hk, Nat.pow_add, Nat.pow_mul, show (256 : Nat) ^ 8 = Q64 from rfl, show (256 : Nat) = 2 ^ 8 from rfl, ← Nat.pow_mul, Nat.mul_comm 8 r]
  have hS : 2 ^ (r * 8) * 256 ≤ Q64 := by
    have : 2 ^ (r * 8) * 256 = 2 ^ (r * 8 + 8) := by rw [Nat.pow_add]
    rw [this]
    exact Nat.pow_le_pow_right (n := 2) (by decide) (show r * 8 + 8 ≤ 64 by omega)
  have hS0 : 0 < 2 ^ (r * 8) := Nat.pow_pos (by decide)
  have hQ0 : 0 < Q64 ^ d := Nat.pow_pos (by decide)
  rw [hP] at hn ⊢
  generalize 2 ^ (r * 8) = S at *
  have hnd : n / Q64 ^ d < S := Nat.div_lt_of_lt_mul hn
  have hSb : S * b ≤ S * 255 := Nat.mul_le_mul_left _ (by omega)
  have hnQ : n / Q64 ^ d + S * b < Q64 := by
    have : S * 255 + S = S * 256 := by omega
    omega
  have e1 : b * (Q64 ^ d * S) = S * b * Q64 ^ d := by rw [Nat.mul_left_comm, Nat.mul_comm b S, Nat.mul_comm]
  refine ⟨?_, by omega, ?_, fun j hj => ?_⟩
  · unfold wq; rw [Nat.mod_eq_of_lt (by omega)]; exact hnd
  · unfold wq
    rw [e1, Nat.add_mul_div_right _ _ hQ0, Nat.mod_eq_of_lt hnQ, Nat.mod_eq_of_lt (by omega)]
  · unfold wq
    rcases Nat.lt_or_ge j d with h | h
    · obtain ⟨t, rfl⟩ : ∃ t, d = j + (t + 1) := ⟨d - j - 1, by omega⟩
      have hj0 : 0 < Q64 ^ j := Nat.pow_pos (by decide)
      rw [e1, Nat.pow_add, Nat.pow_succ', show S * b * (Q64 ^ j * (Q64 * Q64 ^ t)) = S * b * Q64 ^ t * Q64 * Q64 ^ j by
        rw [Nat.mul_comm (Q64 ^ j), Nat.mul_comm Q64 (Q64 ^ t), Nat.mul_assoc (S * b), Nat.mul_assoc (S * b), Nat.mul_assoc (Q64 ^ t)],
        Nat.add_mul_div_right _ _ hj0, Nat.add_mul_mod_self_right]
    · obtain ⟨t, rfl⟩ : ∃ t, j = d + (t + 1) := ⟨j - d - 1, by omega⟩
      have hbig : Q64 ^ d * Q64 ≤ Q64 ^ (d + (t + 1)) := by
        rw [← Nat.pow_succ]
        exact Nat.pow_le_pow_right (by decide) (by omega)
      have h1 : n + S * b * Q64 ^ d < Q64 ^ d * Q64 := by
        have hn2 : n < Q64 ^ d * (n / Q64 ^ d + 1) := Nat.lt_mul_div_succ n hQ0
        have : Q64 ^ d * (n / Q64 ^ d + 1 + S * b) ≤ Q64 ^ d * Q64 := Nat.mul_le_mul_left _ (by omega)
        rw [Nat.mul_add, Nat.mul_comm (Q64 ^ d) (S * b)] at this
        omega
      rw [e1, Nat.div_eq_of_lt (by omega), Nat.div_eq_of_lt (Nat.lt_of_le_of_lt (Nat.le_add_right _ _) (Nat.lt_of_lt_of_le h1 hbig))]
theorem mod_q (n k : Nat) : n % Q64 ^ (k + 1) = n % Q64 ^ k + wq n k * Q64 ^ k := by
  rw [Nat.mod_pow_succ, wq, Nat.mul_comm]
/-! One word of a sum, of a difference, of a product. -/
theorem add_wd {P V V' a z d m c n s : Nat} (h : z + d * Q64 = a + m + c) (hs : V' + a * P = V + z * P) (hi : V + c * P = n + s) : V' + d * (P * Q64) = n + (s + m * P) := by
  have e := congrArg (· * P) h
  simp only [Nat.add_mul] at e
  rw [Nat.mul_comm P, ← Nat.mul_assoc]
  omega
theorem sub_wd {P V V' a z d m b n s : Nat} (h : z + m + b = a + d * Q64) (hs : V' + a * P = V + z * P) (hi : V + s = n + b * P) : V' + (s + m * P) = n + d * (P * Q64) := by
  have e := congrArg (· * P) h
  simp only [Nat.add_mul] at e
  rw [Nat.mul_comm P, ← Nat.mul_assoc]
  omega
theorem mul_wd {P R V V' a z d m x c n s : Nat} (h : z + d * Q64 = x * m + a + c) (hs : V' + a * (P * R) = V + z * (P * R)) (hi : V + c * (P * R) = n + x * s * P) : V' + d * (P * R * Q64) = n + x * (s + m * R) * P := by
  have e := congrArg (· * (P * R)) h
  simp only [Nat.add_mul] at e
  have e2 : x * (s + m * R) * P = x * s * P + x * m * (P * R) := by
    rw [Nat.mul_add, Nat.add_mul, ← Nat.mul_assoc x m R, Nat.mul_assoc (x * m) R P, Nat.mul_comm R P]
  rw [e2, Nat.mul_comm (P * R), ← Nat.mul_assoc]
  omega
theorem sum_end {V c n m P : Nat} (h : V + c * P = n + m) (hv : V < P) : V = (n + m) % P := by
  rw [← h, Nat.add_mul_mod_self_right, Nat.mod_eq_of_lt hv]
theorem dif_end {V b n m P : Nat} (h : V + m = n + b * P) (hv : V < P) (hn : n < P) (hm : m < P) (hb : b ≤ 1) : V = (n + (P - m)) % P ∧ (b = 1 ↔ n < m) := by
  have : b = 0 ∨ b = 1 := by omega
  rcases this with rfl | rfl
  · refine ⟨?_, by omega⟩
    have e : n + (P - m) = V + P := by omega
    rw [e, Nat.add_mod_right, Nat.mod_eq_of_lt hv]
  · refine ⟨?_, by omega⟩
    rw [show n + (P - m) = V by omega, Nat.mod_eq_of_lt hv]
/-! What is left, 32 bits more. -/
abbrev R11 : Nat := 27742317777372353535851937790883648493
theorem next_is {n w : Nat} (hn : n < LL) (hw : w < 4294967296) :
    (n / 2 ^ 220 * R11 < LL) ∧ (n % 2 ^ 220 * 2 ^ 32 + w < LL) ∧
    (n % 2 ^ 220 * 2 ^ 32 + w < n / 2 ^ 220 * R11 → n % 2 ^ 220 * 2 ^ 32 + w + LL - n / 2 ^ 220 * R11 = (n * 2 ^ 32 + w) % LL) ∧
    (¬ n % 2 ^ 220 * 2 ^ 32 + w < n / 2 ^ 220 * R11 → n % 2 ^ 220 * 2 ^ 32 + w - n / 2 ^ 220 * R11 = (n * 2 ^ 32 + w) % LL) := by
  unfold LL R11 at *
  simp only [Nat.reducePow]
  have hd := Nat.div_add_mod n 1684996666696914987166688442938726917102321526408785780068975640576
  have hm := Nat.mod_lt n (show 1684996666696914987166688442938726917102321526408785780068975640576 > 0 by decide)
  generalize n / 1684996666696914987166688442938726917102321526408785780068975640576 = q at *
  generalize n % 1684996666696914987166688442938726917102321526408785780068975640576 = t at *
  refine ⟨by omega, by omega, fun h => ?_, fun h => ?_⟩
  · have e : n * 4294967296 + w = (t * 4294967296 + w + 7237005577332262213973186563042994240857116359379907606001950938285454250989 - q * 27742317777372353535851937790883648493) + 7237005577332262213973186563042994240857116359379907606001950938285454250989 * (q - 1) := by omega
    rw [e, Nat.add_mul_mod_self_left, Nat.mod_eq_of_lt (by omega)]
  · have e : n * 4294967296 + w = (t * 4294967296 + w - q * 27742317777372353535851937790883648493) + 7237005577332262213973186563042994240857116359379907606001950938285454250989 * q := by omega
    rw [e, Nat.add_mul_mod_self_left, Nat.mod_eq_of_lt (by omega)]
/-- the words of a number that is moved by 32 bits, without its topmost -/
theorem next_words (n w : Nat) (hn : n < LL) (hw : w < 4294967296) :
    w + 2 ^ 32 * (wq n 0 % 4294967296) + Q64 * (wq n 0 / 4294967296 + 2 ^ 32 * (wq n 1 % 4294967296) + Q64 * (wq n 1 / 4294967296 + 2 ^ 32 * (wq n 2 % 4294967296) + Q64 * (wq n 2 / 4294967296 + 2 ^ 32 * (wq n 3 % 268435456)))) = n % 2 ^ 220 * 2 ^ 32 + w ∧
    wq n 3 / 268435456 = n / 2 ^ 220 := by
  unfold wq Q64 LL at *
  simp only [Nat.reducePow]
  constructor <;> omega
/-- both, by names -/
theorem next_ex {n w : Nat} (hn : n < LL) (hw : w < 4294967296) : ∃ S q O : Nat,
    q * R11 < LL ∧ S < LL ∧ (S < q * R11 → S + LL - q * R11 = O) ∧ (¬ S < q * R11 → S - q * R11 = O) ∧ O < LL ∧ (n * 2 ^ 32 + w) % LL = O ∧
    w + 2 ^ 32 * (wq n 0 % 4294967296) + Q64 * (wq n 0 / 4294967296 + 2 ^ 32 * (wq n 1 % 4294967296) + Q64 * (wq n 1 / 4294967296 + 2 ^ 32 * (wq n 2 % 4294967296) + Q64 * (wq n 2 / 4294967296 + 2 ^ 32 * (wq n 3 % 268435456)))) = S ∧
    wq n 3 / 268435456 = q := by
  obtain ⟨a, b, c, d⟩ := next_is hn hw
  obtain ⟨e, f⟩ := next_words n w hn hw
  exact ⟨_, _, _, a, b, c, d, Nat.mod_lt _ (by decide), rfl, e, f⟩
abbrev Q4 : Nat := 115792089237316195423570985008687907853269984665640564039457584007913129639936
theorem q4_is : Q64 ^ 4 = Q4 := by decide
theorem min_less {S Y O : Nat} (hS : S < LL) (hY : Y < LL) (h : S < Y) (e : S + LL - Y = O) (hO : O < LL) : ((S + (Q4 - Y)) % Q4 + LL) % Q4 = O := by
  unfold Q4 LL at *
  omega
theorem min_else {S Y O : Nat} (hS : S < LL) (hY : Y < LL) (h : ¬ S < Y) (e : S - Y = O) : (S + (Q4 - Y)) % Q4 = O := by
  unfold Q4 LL at *
  omega
/-- 64 bits more -/
theorem round_is (n i : Nat) : ((n / Q64 ^ (i + 1) % LL * 2 ^ 32 + wq n i / 4294967296) % LL * 2 ^ 32 + wq n i % 4294967296) % LL = n / Q64 ^ i % LL := by
  have e : n / Q64 ^ i = n / Q64 ^ (i + 1) * Q64 + wq n i := by
    unfold wq
    rw [Nat.pow_succ, ← Nat.div_div_eq_div_mul, Nat.mul_comm]
    exact (Nat.div_add_mod _ _).symm
  have hw := wq_lt n i
  rw [e]
  generalize n / Q64 ^ (i + 1) = h at *
  generalize wq n i = w at *
  unfold Q64 LL at *
  simp only [Nat.reducePow]
  omega
/-! The negative. -/
theorem neg_is (a : Nat) : a * (LL - 1) % LL = (LL - a % LL) % LL := by
  have h : (a * (LL - 1) + a) % LL = 0 := by
    rw [← Nat.mul_succ, show (LL - 1).succ = LL from rfl, Nat.mul_mod_left]
  have hl := Nat.mod_lt (a * (LL - 1)) (show LL > 0 by decide)
  have ha := Nat.mod_lt a (show LL > 0 by decide)
  rw [Nat.add_mod] at h
  generalize a * (LL - 1) % LL = x at *
  generalize a % LL = y at *
  unfold LL at *
  omega
theorem mul_lim {a b c P R : Nat} (ha : a < P) (hb : b < R) (hc : c < R) : a * b + c < P * R := by
  have h1 : a * b ≤ (P - 1) * (R - 1) := Nat.mul_le_mul (by omega) (by omega)
  have h2 : (P - 1) * (R - 1) + (R - 1) = P * (R - 1) := by rw [← Nat.succ_mul]; congr 1; omega
  have h3 : P * (R - 1) + P = P * R := by rw [← Nat.mul_succ]; congr 1; omega
  omega
end Go.Proofs.Ytmmfbbbljhifjaa

