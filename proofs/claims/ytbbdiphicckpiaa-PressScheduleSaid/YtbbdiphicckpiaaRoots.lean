/- Roots and primes, plainly: a number built bit by bit; the root of p by its first 64 bits behind the point; the first primes. No program is named here. -/
namespace Go.Proofs.Ytbbdiphicckpiaa
set_option linter.unusedVariables false
set_option maxRecDepth 100000

/-- the greatest number that fits, bit by bit: k bits are still to be asked, r has been found -/
def grt (F : Nat → Bool) : Nat → Nat → Nat
  | 0, r => r
  | k + 1, r => grt F k (if F (r + 2 ^ k) then r + 2 ^ k else r)

theorem grt_spec (F : Nat → Bool) (hm : ∀ x y, x ≤ y → F y = true → F x = true) : ∀ k r, F r = true →
    r ≤ grt F k r ∧ grt F k r < r + 2 ^ k ∧ F (grt F k r) = true ∧ (grt F k r + 1 < r + 2 ^ k → F (grt F k r + 1) = false) := by
  intro k
  induction k with
  | zero => intro r hr; exact ⟨Nat.le_refl _, by simp [grt], hr, fun h => by simp [grt] at h⟩
  | succ k ih =>
    intro r hr
    have e : 2 ^ (k + 1) = 2 ^ k + 2 ^ k := by rw [Nat.pow_succ]; omega
    have hp : 0 < 2 ^ k := Nat.two_pow_pos k
    unfold grt
    by_cases h : F (r + 2 ^ k) = true
    · rw [if_pos h]
      obtain ⟨a, b, c, d⟩ := ih (r + 2 ^ k) h
      exact ⟨by omega, by omega, c, fun g => d (by omega)⟩
    · rw [if_neg h]
      obtain ⟨a, b, c, d⟩ := ih r hr
      refine ⟨a, by omega, c, fun g => ?_⟩
      by_cases g2 : grt F k r + 1 < r + 2 ^ k
      · exact d g2
      · have : grt F k r + 1 = r + 2 ^ k := by omega
        rw [this]
        simpa using h

/-- the square (or, where c, the cube) -/
def pw (c : Bool) (y : Nat) : Nat := if c then y * y * y else y * y
/-- 2^64 as often -/
def sc (c : Bool) : Nat := if c then 6277101735386680763835789423207666416102355444464034512896 else 340282366920938463463374607431768211456

theorem mul3_le {x y : Nat} (h : x ≤ y) : x * x * x ≤ y * y * y := Nat.mul_le_mul (Nat.mul_le_mul h h) h
theorem pw_le (c : Bool) {x y : Nat} (h : x ≤ y) : pw c x ≤ pw c y := by
  unfold pw
  split
  · exact mul3_le h
  · exact Nat.mul_le_mul h h

def rt (c : Bool) (p : Nat) : Nat := grt (fun y => decide (pw c y ≤ p * sc c)) 80 0

theorem rt_spec (c : Bool) {p : Nat} (hp : p < 4294967296) : pw c (rt c p) ≤ p * sc c ∧ p * sc c < pw c (rt c p + 1) ∧ rt c p < 1208925819614629174706176 := by
  obtain ⟨-, b, h, d⟩ := grt_spec (fun y => decide (pw c y ≤ p * sc c)) (fun x y hxy hy => by
    have := pw_le c hxy
    simp at hy ⊢; omega) 80 0 (by cases c <;> simp [pw])
  have e80 : (0 : Nat) + 2 ^ 80 = 1208925819614629174706176 := by decide
  rw [e80] at b d
  change rt c p < _ at b
  change decide (pw c (rt c p) ≤ _) = true at h
  change rt c p + 1 < _ → decide (pw c (rt c p + 1) ≤ _) = false at d
  refine ⟨by simpa using h, ?_, b⟩
  by_cases g : rt c p + 1 < 1208925819614629174706176
  · have := d g
    simp at this
    exact this
  · have e : rt c p + 1 = 1208925819614629174706176 := by omega
    rw [e]
    cases c <;> simp only [pw, sc] <;> simp <;> omega

theorem rt_eq (c : Bool) {p y : Nat} (hp : p < 4294967296) (h1 : pw c y ≤ p * sc c) (h2 : p * sc c < pw c (y + 1)) : rt c p = y := by
  obtain ⟨a, b, -⟩ := rt_spec c hp
  rcases Nat.lt_trichotomy (rt c p) y with h | h | h
  · have := pw_le c (show rt c p + 1 ≤ y from h); omega
  · exact h
  · have := pw_le c (show y + 1 ≤ rt c p from h); omega

/-- what Square (where c: Cube) answers -/
def sqv (c : Bool) (p : Nat) : Nat := if p < 4294967296 then rt c p % 18446744073709551616 else 0

theorem sqv_lt (c : Bool) (p : Nat) : sqv c p < 18446744073709551616 := by unfold sqv; split <;> omega

/-! The program's way: the whole part, then what stands behind the point. -/
def wh (c : Bool) (p : Nat) : Nat := grt (fun x => decide (pw c x ≤ p)) 16 0

theorem wh_spec (c : Bool) {p : Nat} (hp : p < 4294967296) : pw c (wh c p) ≤ p ∧ p < pw c (wh c p + 1) ∧ wh c p < 65536 := by
  obtain ⟨-, b, h, d⟩ := grt_spec (fun y => decide (pw c y ≤ p)) (fun x y hxy hy => by
    have := pw_le c hxy
    simp at hy ⊢; omega) 16 0 (by cases c <;> simp [pw])
  have e16 : (0 : Nat) + 2 ^ 16 = 65536 := by decide
  rw [e16] at b d
  change wh c p < _ at b
  change decide (pw c (wh c p) ≤ _) = true at h
  change wh c p + 1 < _ → decide (pw c (wh c p + 1) ≤ _) = false at d
  refine ⟨by simpa using h, ?_, b⟩
  by_cases g : wh c p + 1 < 65536
  · have := d g
    simp at this
    exact this
  · have e : wh c p + 1 = 65536 := by omega
    rw [e]
    cases c <;> simp only [pw] <;> simp <;> omega

/-- what is compared: the power of a * 2^64 + x, less that of a * 2^64 -/
def ex (c : Bool) (a x : Nat) : Nat :=
  if c then ((3 * a * 18446744073709551616 + x) * x + 3 * a * a * 340282366920938463463374607431768211456) * x else (2 * a * 18446744073709551616 + x) * x

theorem pw_ex (c : Bool) (a x : Nat) : pw c (a * 18446744073709551616 + x) = pw c a * sc c + ex c a x := by
  cases c <;> simp only [pw, sc, ex] <;> simp <;> grind

theorem ex_le (c : Bool) (a : Nat) {x y : Nat} (h : x ≤ y) : ex c a x ≤ ex c a y := by
  have h1 := pw_ex c a x
  have h2 := pw_ex c a y
  have h3 := pw_le c (show a * 18446744073709551616 + x ≤ a * 18446744073709551616 + y by omega)
  omega

def fr (c : Bool) (a rest : Nat) : Nat := grt (fun x => decide (ex c a x ≤ rest * sc c)) 64 0

theorem fr_rt (c : Bool) {p : Nat} (hp : p < 4294967296) : fr c (wh c p) (p - pw c (wh c p)) = rt c p % 18446744073709551616 := by
  obtain ⟨w1, w2, w3⟩ := wh_spec c hp
  generalize wh c p = a at *
  obtain ⟨-, b, h, d⟩ := grt_spec (fun x => decide (ex c a x ≤ (p - pw c a) * sc c)) (fun x y hxy hy => by
    have := ex_le c a hxy
    simp at hy ⊢; omega) 64 0 (by cases c <;> simp [ex])
  have e64 : (0 : Nat) + 2 ^ 64 = 18446744073709551616 := by decide
  rw [e64] at b d
  change fr c a (p - pw c a) < _ at b
  change decide (ex c a (fr c a (p - pw c a)) ≤ _) = true at h
  change fr c a (p - pw c a) + 1 < _ → decide (ex c a (fr c a (p - pw c a) + 1) ≤ _) = false at d
  generalize fr c a (p - pw c a) = x at *
  have es : (p - pw c a) * sc c + pw c a * sc c = p * sc c := by rw [← Nat.add_mul]; congr 1; omega
  have k1 : pw c (a * 18446744073709551616 + x) ≤ p * sc c := by
    rw [pw_ex]
    simp at h
    omega
  have k2 : p * sc c < pw c (a * 18446744073709551616 + x + 1) := by
    by_cases g : x + 1 < 18446744073709551616
    · have := d g
      rw [Nat.add_assoc, pw_ex]
      simp at this
      omega
    · have e : a * 18446744073709551616 + x + 1 = (a + 1) * 18446744073709551616 + 0 := by omega
      rw [e, pw_ex]
      have : p * sc c < pw c (a + 1) * sc c := Nat.mul_lt_mul_of_pos_right w2 (by cases c <;> simp [sc])
      omega
  rw [rt_eq c hp k1 k2]
  omega

/-! Whole roots, and neighbours. -/
theorem rt_whole (c : Bool) (a : Nat) (h : pw c a < 4294967296) : rt c (pw c a) = a * 18446744073709551616 := by
  have e := pw_ex c a 0
  have e1 := pw_ex c a 1
  have h0 : ex c a 0 = 0 := by cases c <;> simp [ex]
  have h1 : 0 < ex c a 1 := by cases c <;> simp [ex] <;> omega
  rw [Nat.add_zero, h0] at e
  exact rt_eq c h (by omega) (by omega)

theorem sqv_whole (c : Bool) (a : Nat) (h : pw c a < 4294967296) : sqv c (pw c a) = 0 := by
  unfold sqv
  rw [if_pos h, rt_whole c a h]
  omega

theorem step_small (c : Bool) (y : Nat) (hy : y < 1208925819614629174706176) : pw c (y + 1) ≤ pw c y + sc c := by
  cases c
  · simp only [pw, sc]
    have e : (y + 1) * (y + 1) = y * y + (2 * y + 1) := by grind
    simp
    omega
  · simp only [pw, sc]
    have e : (y + 1) * (y + 1) * (y + 1) = y * y * y + (3 * (y * y) + 3 * y + 1) := by grind
    have hyy : y * y ≤ 1208925819614629174706176 * 1208925819614629174706176 := Nat.mul_le_mul (by omega) (by omega)
    simp
    omega

theorem sqv_near (c : Bool) (a p : Nat) (h0 : pw c a ≤ p) (h1 : p + 1 < pw c (a + 1)) (h2 : p + 1 < 4294967296) : sqv c p < sqv c (p + 1) := by
  obtain ⟨x1, x2, x3⟩ := rt_spec c (show p < 4294967296 by omega)
  obtain ⟨y1, y2, y3⟩ := rt_spec c h2
  unfold sqv
  rw [if_pos (by omega), if_pos h2]
  have hs : 0 < sc c := by cases c <;> simp [sc]
  have ep : (p + 1) * sc c = p * sc c + sc c := by rw [Nat.add_mul, Nat.one_mul]
  -- both lie from a on and below a + 1
  have ea : pw c (a * 18446744073709551616) = pw c a * sc c := by
    have e := pw_ex c a 0
    have h0 : ex c a 0 = 0 := by cases c <;> simp [ex]
    rw [Nat.add_zero, h0] at e
    omega
  have eb : pw c ((a + 1) * 18446744073709551616) = pw c (a + 1) * sc c := by
    have e := pw_ex c (a + 1) 0
    have h0 : ex c (a + 1) 0 = 0 := by cases c <;> simp [ex]
    rw [Nat.add_zero, h0] at e
    omega
  have la : pw c a * sc c ≤ p * sc c := Nat.mul_le_mul_right _ h0
  have lb : (p + 1) * sc c < pw c (a + 1) * sc c := Nat.mul_lt_mul_of_pos_right h1 hs
  have l1 : a * 18446744073709551616 ≤ rt c p := by
    rcases Nat.lt_or_ge (rt c p) (a * 18446744073709551616) with g | g
    · have := pw_le c (show rt c p + 1 ≤ a * 18446744073709551616 from g); omega
    · exact g
  have l2 : rt c (p + 1) < (a + 1) * 18446744073709551616 := by
    rcases Nat.lt_or_ge (rt c (p + 1)) ((a + 1) * 18446744073709551616) with g | g
    · exact g
    · have := pw_le c g; omega
  have l3 : rt c p < rt c (p + 1) := by
    rcases Nat.lt_or_ge (rt c p) (rt c (p + 1)) with g | g
    · exact g
    · have k1 := pw_le c (show rt c (p + 1) + 1 ≤ rt c p + 1 by omega)
      have k2 := step_small c (rt c p) x3
      omega
  omega

/-! Primes. -/
/-- of a number from 2 on: no smaller one from 2 on divides it -/
def isP (n : Nat) : Bool := (List.range n).all (fun d => Nat.ble d 1 || !(Nat.beq (n % d) 0))
def pl (x : Nat) : List Nat := (List.range x).filter (fun n => Nat.ble 2 n && isP n)

theorem isP_iff {n : Nat} : isP n = true ↔ ∀ d, 2 ≤ d → d < n → n % d ≠ 0 := by
  simp only [isP, List.all_eq_true, List.mem_range, Bool.or_eq_true, Nat.ble_eq, Bool.not_eq_true']
  constructor
  · intro h d h2 hd e
    rcases h d hd with g | g
    · omega
    · rw [e] at g; cases g
  · intro h d hd
    rcases Nat.lt_or_ge 1 d with g | g
    · refine .inr ?_
      have := h d g hd
      cases hb : Nat.beq (n % d) 0
      · rfl
      · exact absurd (Nat.eq_of_beq_eq_true hb) this
    · exact .inl g

theorem mem_pl {x n : Nat} : n ∈ pl x ↔ n < x ∧ 2 ≤ n ∧ isP n = true := by
  simp [pl, List.mem_filter]

theorem has_prime : ∀ d, 2 ≤ d → ∃ q, 2 ≤ q ∧ q ≤ d ∧ isP q = true ∧ d % q = 0 := by
  intro d
  induction d using Nat.strongRecOn with
  | ind d ih =>
    intro h
    by_cases hp : isP d = true
    · exact ⟨d, h, Nat.le_refl _, hp, Nat.mod_self d⟩
    · have hne : ¬ ∀ e, 2 ≤ e → e < d → d % e ≠ 0 := fun g => hp (isP_iff.2 g)
      obtain ⟨e, h2, hlt, h0⟩ : ∃ e, 2 ≤ e ∧ e < d ∧ d % e = 0 := by
        apply Classical.byContradiction
        intro hno
        exact hne fun e a b c => hno ⟨e, a, b, c⟩
      obtain ⟨q, q2, qe, qp, q0⟩ := ih e hlt h2
      exact ⟨q, q2, by omega, qp, Nat.mod_eq_zero_of_dvd (Nat.dvd_trans (Nat.dvd_of_mod_eq_zero q0) (Nat.dvd_of_mod_eq_zero h0))⟩

/-- a number that no smaller prime divides is one -/
theorem isP_any {x : Nat} (hx : 2 ≤ x) : isP x = !((pl x).any fun q => decide (x % q = 0)) := by
  cases hp : isP x
  · have hne : ¬ ∀ e, 2 ≤ e → e < x → x % e ≠ 0 := fun g => by rw [isP_iff.2 g] at hp; cases hp
    obtain ⟨e, h2, hlt, h0⟩ : ∃ e, 2 ≤ e ∧ e < x ∧ x % e = 0 := by
      apply Classical.byContradiction
      intro hno
      exact hne fun e a b c => hno ⟨e, a, b, c⟩
    obtain ⟨q, q2, qe, qp, q0⟩ := has_prime e h2
    have : (pl x).any (fun q => decide (x % q = 0)) = true := by
      rw [List.any_eq_true]
      exact ⟨q, mem_pl.2 ⟨by omega, q2, qp⟩, by simp; exact Nat.mod_eq_zero_of_dvd (Nat.dvd_trans (Nat.dvd_of_mod_eq_zero q0) (Nat.dvd_of_mod_eq_zero h0))⟩
    rw [this]; rfl
  · have : (pl x).any (fun q => decide (x % q = 0)) = false := by
      rw [List.any_eq_false]
      intro q hq
      obtain ⟨a, b, -⟩ := mem_pl.1 hq
      have := isP_iff.1 hp q b a
      simpa using this
    rw [this]; rfl

theorem pl_succ (x : Nat) (hx : 2 ≤ x) : pl (x + 1) = if isP x then pl x ++ [x] else pl x := by
  unfold pl
  have h2 : Nat.ble 2 x = true := by rw [Nat.ble_eq]; exact hx
  rw [List.range_succ, List.filter_append]
  cases h : isP x <;> simp [h, h2]

theorem pl_prefix {x y : Nat} (h : x ≤ y) : pl x <+: pl y := by
  obtain ⟨d, rfl⟩ : ∃ d, y = x + d := ⟨y - x, by omega⟩
  clear h
  induction d with
  | zero => exact List.prefix_refl _
  | succ d ih =>
    refine List.IsPrefix.trans ih ?_
    unfold pl
    rw [show x + (d + 1) = (x + d) + 1 by omega, List.range_succ, List.filter_append]
    exact List.prefix_append _ _

def P100 : List Nat := [2, 3, 5, 7, 11, 13, 17, 19, 23, 29, 31, 37, 41, 43, 47, 53, 59, 61, 67, 71, 73, 79, 83, 89, 97, 101, 103, 107, 109, 113, 127, 131, 137, 139, 149, 151, 157, 163, 167, 173, 179, 181, 191, 193, 197, 199, 211, 223, 227, 229, 233, 239, 241, 251, 257, 263, 269, 271, 277, 281, 283, 293, 307, 311, 313, 317, 331, 337, 347, 349, 353, 359, 367, 373, 379, 383, 389, 397, 401, 409, 419, 421, 431, 433, 439, 443, 449, 457, 461, 463, 467, 479, 487, 491, 499, 503, 509, 521, 523, 541]

theorem pl_all : pl 542 = P100 := by decide +kernel
theorem P100_len : P100.length = 100 := by decide

theorem pl_take {x : Nat} (hx : x ≤ 542) : pl x = P100.take (pl x).length := by
  have := List.prefix_iff_eq_take.1 (pl_prefix hx)
  rw [pl_all] at this
  exact this

theorem pl_len_le {x : Nat} (hx : x ≤ 542) : (pl x).length ≤ 100 := by
  have := (pl_prefix hx).length_le
  rw [pl_all, P100_len] at this
  exact this

theorem pl_two : pl 2 = [] := by decide

theorem P100_lt : ∀ x ∈ P100, x < 542 := by decide
end Go.Proofs.Ytbbdiphicckpiaa

