/- What layer 9's laws say of plain numbers. No program is named here. Powers, inverses, roots modulo 2^255 - 19, by plain numbers. No program is named here. Bits of numbers by bytes; a number halved, byte by byte. No program is named here. How the landed package powers comes to inverses, roots and ratios, by plain numbers. No program is named here. -/
import Derived.Test.YtfejabfmhddepaaGfb
import Derived.Test.YtfejabfmhddepaaGfp
namespace Go.Proofs.Ytfejabfmhddepaa
set_option linter.unusedVariables false
set_option maxRecDepth 100000

theorem fr_dist (x y z : Nat) : (x * ((y + z) % PP)) % PP = ((x * y) % PP + (x * z) % PP) % PP := by
  generalize PP = p
  simp only [Nat.mul_mod_mod, Nat.add_mod_mod, Nat.mod_add_mod, Nat.mul_add]
theorem fr_assoc (x y z : Nat) : ((x * y) % PP * z) % PP = (x * ((y * z) % PP)) % PP := by
  generalize PP = p
  simp only [Nat.mul_mod_mod, Nat.mod_mul_mod, Nat.mul_assoc]
theorem fr_sums (x y z : Nat) : ((x + y) % PP + z) % PP = (x + ((z + y) % PP)) % PP := by
  generalize PP = p
  simp only [Nat.add_mod_mod, Nat.mod_add_mod]
  congr 1
  omega
theorem fr_square (x y : Nat) : (((x + y) % PP) * ((x + y) % PP)) % PP = (((x * x) % PP + (y * y) % PP) % PP + (2 * ((x * y) % PP)) % PP) % PP := by
  generalize PP = p
  simp only [Nat.mul_mod_mod, Nat.mod_mul_mod, Nat.add_mod_mod, Nat.mod_add_mod]
  congr 1
  grind
theorem fr_one {x : Nat} (h : x < PP) : (x * 1) % PP = x := by rw [Nat.mul_one, Nat.mod_eq_of_lt h]
theorem fr_zero (x : Nat) : (x * 0) % PP = 0 := by rw [Nat.mul_zero, Nat.zero_mod]
theorem fr_subneg (x : Nat) {y : Nat} (h : y < PP) : (x + (PP - y)) % PP = (x + ((PP - y) % PP)) % PP := by rw [Nat.add_mod_mod]
theorem fr_negneg {x : Nat} (h : x < PP) : (PP - ((PP - x) % PP)) % PP = x := by unfold PP at *; omega
theorem fr_subself {x : Nat} (h : x < PP) : (x + (PP - x)) % PP = 0 := by unfold PP at *; omega
theorem fr_negmul {x y : Nat} (hx : x < PP) (hy : y < PP) : (((PP - x) % PP) * ((PP - y) % PP)) % PP = (x * y) % PP := by
  have h0 : 0 < PP := by decide
  generalize PP = p at *
  rw [Nat.mul_mod_mod, Nat.mod_mul_mod]
  have e : (((p - x) * (p - y) : Nat) : Int) = (x * y : Nat) + (p : Int) * ((p : Int) - x - y) := by
    rw [Int.natCast_mul, Int.natCast_sub (by omega), Int.natCast_sub (by omega), Int.natCast_mul]
    grind
  have e2 : (((p - x) * (p - y) : Nat) : Int) % p = ((x * y : Nat) : Int) % p := by rw [e, Int.add_mul_emod_self_left]
  rw [← Int.natCast_emod, ← Int.natCast_emod] at e2
  exact Int.ofNat.inj e2
theorem fr_oddneg {x : Nat} (h : x < PP) : (decide (x % 2 = 1) != decide ((PP - x) % PP % 2 = 1)) = !decide (x = 0) := by
  by_cases h0 : x = 0
  · subst h0
    rw [Nat.sub_zero, Nat.mod_self]
    rfl
  · have e : (PP - x) % PP = PP - x := Nat.mod_eq_of_lt (by omega)
    have hp : PP % 2 = 1 := by decide
    rw [e, decide_eq_false h0]
    generalize PP = p at *
    by_cases h1 : x % 2 = 1
    · rw [decide_eq_true h1, decide_eq_false (show ¬ (p - x) % 2 = 1 by omega)]; rfl
    · rw [decide_eq_false h1, decide_eq_true (show (p - x) % 2 = 1 by omega)]; rfl

theorem xor128 (a : UInt8) : (a ^^^ 128).toNat % 128 = a.toNat % 128 := by
  have e : (128 : UInt8).toNat % 2 ^ 7 = 0 := rfl
  rw [UInt8.toNat_xor, show (128 : Nat) = 2 ^ 7 by decide, Nat.xor_mod_two_pow, e, Nat.xor_zero]
/-- the highest bit turned -/
def flipB (l : List UInt8) : List UInt8 := l.set 31 (l.getD 31 0 ^^^ 128)
theorem flip_mod {l : List UInt8} (h : l.length = 32) : leN (flipB l) % TT = leN l % TT := by
  obtain ⟨r, hr, e⟩ := top_split h
  have hs := leN_set l 31 (l.getD 31 0 ^^^ 128) (by omega)
  have hx := xor128 (l.getD 31 0)
  unfold flipB
  generalize (l.getD 31 0 ^^^ 128).toNat = b at *
  generalize (l.getD 31 0).toNat = a at *
  generalize leN (l.set 31 (l.getD 31 0 ^^^ 128)) = v at *
  rw [e] at hs ⊢
  rw [P31] at *
  unfold TT
  omega
theorem flip_fe {l : List UInt8} (h : l.length = 32) : feN (flipB l) = feN l := by unfold feN; rw [flip_mod h]
theorem flip_can {l : List UInt8} (h : l.length = 32) : canN (flipB l) = canN l := by unfold canN; rw [flip_mod h]
theorem top_lt {x : Nat} (h : x < PP) : ((leB 32 x).getD 31 0).toNat < 128 := by
  rw [leB_get 32 x 31 (by omega), P31]
  unfold PP at h
  simp
  omega

/-- the numbers near the end -/
def edgeB (n : Nat) : List UInt8 := ((List.replicate 32 (255 : UInt8)).set 0 (UInt8.ofNat n)).set 31 127
theorem edge_len (n : Nat) : (edgeB n).length = 32 := by simp [edgeB]
theorem edge_val {n : Nat} (h : n < 256) : leN (edgeB n) = TT - 256 + n := by
  have h1 := leN_set (List.replicate 32 (255 : UInt8)) 0 (UInt8.ofNat n) (by simp)
  have h2 := leN_set ((List.replicate 32 (255 : UInt8)).set 0 (UInt8.ofNat n)) 31 127 (by simp)
  have e1 : leN (List.replicate 32 (255 : UInt8)) = 2 * TT - 1 := by decide +kernel
  have e2 : (UInt8.ofNat n).toNat = n := by simp; omega
  have e3 : ((List.replicate 32 (255 : UInt8)).getD 0 0).toNat = 255 := by decide
  have e4 : (((List.replicate 32 (255 : UInt8)).set 0 (UInt8.ofNat n)).getD 31 0).toNat = 255 := by simp [List.getD]
  rw [e1, e2, e3, Nat.pow_zero] at h1
  rw [e4, P31, show (127 : UInt8).toNat = 127 from rfl] at h2
  unfold edgeB
  unfold TT at *
  omega
theorem edge_low {n : Nat} (h : n < 237) : feN (edgeB n) = PP - (237 - n) ∧ canN (edgeB n) = true ∧ leB 32 (feN (edgeB n)) = edgeB n ∧ (PP - (237 - n) + (237 - n)) % PP = 0 := by
  have hv := edge_val (n := n) (by omega)
  have e1 : leN (edgeB n) % TT = PP - (237 - n) := by rw [hv]; unfold TT PP; omega
  have e2 : feN (edgeB n) = PP - (237 - n) := by unfold feN; rw [e1]; exact Nat.mod_eq_of_lt (by unfold PP; omega)
  refine ⟨e2, ?_, ?_, by unfold PP; omega⟩
  · unfold canN; rw [e1]; exact decide_eq_true (by unfold PP; omega)
  · have e3 : feN (edgeB n) = leN (edgeB n) := by rw [e2, hv]; unfold TT PP; omega
    rw [e3]
    have := leB_leN (edgeB n)
    rwa [edge_len] at this
theorem edge_high {n : Nat} (h : 237 ≤ n) (h2 : n < 256) : feN (edgeB n) = n - 237 ∧ canN (edgeB n) = false := by
  have hv := edge_val (n := n) h2
  have e1 : leN (edgeB n) % TT = PP + (n - 237) := by rw [hv]; unfold TT PP; omega
  refine ⟨?_, ?_⟩
  · unfold feN; rw [e1]; unfold PP; omega
  · unfold canN; rw [e1]; exact decide_eq_false (by unfold PP; omega)
end Go.Proofs.Ytfejabfmhddepaa

namespace Go.Proofs.Ytfejabfmhddepaa
set_option linter.unusedVariables false
set_option maxRecDepth 100000
open Pm Fl

def pwN (x n : Nat) : Nat := ((F25519.c x) ^ n).val
theorem pwN_lt (x n : Nat) : pwN x n < PP := ((F25519.c x) ^ n).isLt
theorem c_pwN (x n : Nat) : F25519.c (pwN x n) = F25519.c x ^ n := F25519.c_of _
theorem c_same {a b : Nat} (ha : a < PP) (hb : b < PP) (h : F25519.c a = F25519.c b) : a = b := F25519.c_inj ha hb h
theorem c_modP (a : Nat) : F25519.c (a % PP) = F25519.c a := F25519.c_mod a
theorem mod_lt_PP (a : Nat) : a % PP < PP := Nat.mod_lt _ (by decide)
theorem c_prod (a b : Nat) : F25519.c ((a * b) % PP) = F25519.c a * F25519.c b := by rw [c_modP, F25519.c_mul]
theorem c_negP {a : Nat} (h : a < PP) : F25519.c ((PP - a) % PP) = -F25519.c a := by
  rw [c_modP]
  have e := F25519.c_sub (a := 0) (b := a) (Nat.le_of_lt h)
  rw [Nat.zero_add] at e
  rw [show PP - a = F25519.P - a from rfl, e]
  have z : F25519.c 0 = 0 := rfl
  rw [z]
  grind
theorem c_one : F25519.c 1 = 1 := rfl
theorem c_zero : F25519.c 0 = 0 := rfl
theorem c_eq_zeroP {a : Nat} (h : a < PP) : F25519.c a = 0 ↔ a = 0 :=
  ⟨fun e => c_same h (by decide) (by rw [e]; rfl), fun e => by rw [e]; rfl⟩
theorem pwN_zero (x : Nat) : pwN x 0 = 1 := c_same (pwN_lt _ _) (by decide) (by rw [c_pwN, pow_zero_, c_one])
theorem pwN_add (x m n : Nat) : (pwN x m * pwN x n) % PP = pwN x (m + n) := c_same (mod_lt_PP _) (pwN_lt _ _) (by rw [c_prod, c_pwN, c_pwN, c_pwN, F25519.pw_add])
theorem pwN_succ (x n : Nat) : (pwN x n * x) % PP = pwN x (n + 1) := c_same (mod_lt_PP _) (pwN_lt _ _) (by rw [c_prod, c_pwN, c_pwN, pow_succ_])
theorem pwN_pw (x m n : Nat) : pwN (pwN x m) n = pwN x (m * n) := c_same (pwN_lt _ _) (pwN_lt _ _) (by rw [c_pwN, c_pwN, c_pwN, F25519.pw_mul])
theorem pwN_prod (x y n : Nat) : pwN ((x * y) % PP) n = (pwN x n * pwN y n) % PP := c_same (pwN_lt _ _) (mod_lt_PP _) (by rw [c_pwN, c_prod, c_prod, c_pwN, c_pwN, F25519.mul_pw])
theorem pwN_one (n : Nat) : pwN 1 n = 1 := c_same (pwN_lt _ _) (by decide) (by rw [c_pwN, c_one, F25519.one_pw])

def invN (x : Nat) : Nat := pwN x (PP - 2)
theorem invN_lt (x : Nat) : invN x < PP := pwN_lt _ _
theorem c_invN {x : Nat} (h : x < PP) : F25519.c (invN x) = inv (F25519.c x) := by
  unfold invN inv
  rw [c_pwN]
  by_cases h0 : F25519.c x = 0
  · rw [if_pos h0, h0, show PP - 2 = (PP - 3) + 1 from rfl, pow_succ_, mul_zero_]
  · rw [if_neg h0]; rfl
theorem inv_right {x : Nat} (h : x < PP) (h0 : x ≠ 0) : (x * invN x) % PP = 1 := c_same (mod_lt_PP _) (by decide) (by
  rw [c_prod, c_invN h, mul_inv F25519.prP (fun e => h0 ((c_eq_zeroP h).1 e)), c_one])
theorem inv_zeroN : invN 0 = 0 := c_same (invN_lt _) (by decide) (by rw [c_invN (by decide), c_zero, inv_zero])
theorem inv_oneN : invN 1 = 1 := pwN_one _
theorem inv_ne {x : Nat} (h : x < PP) (h0 : x ≠ 0) : invN x ≠ 0 := fun e => by
  have := inv_right h h0
  rw [e, Nat.mul_zero, Nat.zero_mod] at this
  cases this
theorem inv_invN {x : Nat} (h : x < PP) : invN (invN x) = x := by
  by_cases h0 : x = 0
  · subst h0; rw [inv_zeroN, inv_zeroN]
  · have a := inv_right h h0
    have b := inv_right (invN_lt x) (inv_ne h h0)
    apply c_same (invN_lt _) h
    have a' := congrArg F25519.c a
    have b' := congrArg F25519.c b
    rw [c_prod, c_one] at a' b'
    generalize F25519.c (invN (invN x)) = z at *
    generalize F25519.c (invN x) = y at *
    generalize F25519.c x = x at *
    have e1 : z = x * y * z := by rw [a', one_mul_]
    rw [e1, mul_assoc_, b', mul_one_]
theorem inv_prod (x y : Nat) : invN ((x * y) % PP) = (invN x * invN y) % PP := pwN_prod x y _

/-! Roots. -/
abbrev KP : Nat := 7237005577332262213973186563042994240829374041602535252466099000494570602493
theorem two_quarter : F25519.c (pwN 2 (2 * KP + 1)) = F25519.iV := by
  rw [c_pwN]
  apply Fin.ext
  rw [F25519.val_pm _ _ 255 (by decide +kernel)]
  decide +kernel
def fixN (z : Nat) : Nat := if z % 2 = 1 then (PP - z) % PP else z
theorem fixN_lt {z : Nat} (h : z < PP) : fixN z < PP := by unfold fixN; split; exact mod_lt_PP _; exact h
theorem fixN_even {z : Nat} (h : z < PP) : fixN z % 2 = 0 := by
  unfold fixN
  have hp : PP % 2 = 1 := by decide
  by_cases h1 : z % 2 = 1
  · rw [if_pos h1, show (PP - z) % PP = PP - z from Nat.mod_eq_of_lt (by omega)]; omega
  · rw [if_neg h1]; omega
theorem fixN_sq {z : Nat} (h : z < PP) : (fixN z * fixN z) % PP = (z * z) % PP := by
  unfold fixN
  by_cases h1 : z % 2 = 1
  · rw [if_pos h1]; exact fr_negmul h h
  · rw [if_neg h1]
def rtG (a b x : Nat) : Option Nat := if (a * a) % PP = x then some (fixN a) else if (b * b) % PP = x then some (fixN b) else none
def rtN (x : Nat) : Option Nat := rtG (pwN x (KP + 1)) ((pwN x (KP + 1) * pwN 2 (2 * KP + 1)) % PP) x
theorem rtG_some {a b x z : Nat} (ha : a < PP) (hb : b < PP) (h : rtG a b x = some z) : z < PP ∧ (z * z) % PP = x ∧ z % 2 = 0 := by
  unfold rtG at h
  split at h
  · rename_i e
    injection h with h
    subst h
    exact ⟨fixN_lt ha, by rw [fixN_sq ha]; exact e, fixN_even ha⟩
  · split at h
    · rename_i e
      injection h with h
      subst h
      exact ⟨fixN_lt hb, by rw [fixN_sq hb]; exact e, fixN_even hb⟩
    · cases h
theorem rtG_none {a b x : Nat} (h : rtG a b x = none) : ¬ (a * a) % PP = x ∧ ¬ (b * b) % PP = x := by
  unfold rtG at h
  split at h
  · cases h
  · rename_i e1
    split at h
    · cases h
    · rename_i e2
      exact ⟨e1, e2⟩
theorem rtG_A {a b x : Nat} (h : (a * a) % PP = x) : (rtG a b x).getD 0 = fixN a ∧ (rtG a b x).isSome = true := by
  unfold rtG
  rw [if_pos h]
  exact ⟨rfl, rfl⟩
theorem rtG_B {a b x : Nat} (h : ¬ (a * a) % PP = x) (h2 : (b * b) % PP = x) : (rtG a b x).getD 0 = fixN b ∧ (rtG a b x).isSome = true := by
  unfold rtG
  rw [if_neg h, if_pos h2]
  exact ⟨rfl, rfl⟩
theorem rtG_C {a b x : Nat} (h : ¬ (a * a) % PP = x) (h2 : ¬ (b * b) % PP = x) : (rtG a b x).getD 0 = 0 ∧ (rtG a b x).isSome = false := by
  unfold rtG
  rw [if_neg h, if_neg h2]
  exact ⟨rfl, rfl⟩
def rootN (x : Nat) : Nat := (rtN x).getD 0
def isN (x : Nat) : Bool := (rtN x).isSome
theorem rt_some {x z : Nat} (h : rtN x = some z) : z < PP ∧ (z * z) % PP = x ∧ z % 2 = 0 := rtG_some (pwN_lt _ _) (mod_lt_PP _) h
theorem rt_none {x : Nat} (hx : x < PP) (h : rtN x = none) : ¬ F25519.IsSq (F25519.c x) := fun hs => by
  obtain ⟨e1, e2⟩ := rtG_none h
  have k := F25519.root_alg hs
  rw [show F25519.K + 1 = KP + 1 from rfl, ← c_pwN x (KP + 1), ← two_quarter, ← c_prod, ← c_prod, ← c_prod] at k
  rcases k with k | k
  · exact e1 (c_same (mod_lt_PP _) hx k)
  · exact e2 (c_same (mod_lt_PP _) hx k)
theorem rootN_eq (x : Nat) : rootN x = (rtG (pwN x (KP + 1)) ((pwN x (KP + 1) * pwN 2 (2 * KP + 1)) % PP) x).getD 0 := by unfold rootN rtN; rfl
theorem isN_eq (x : Nat) : isN x = (rtG (pwN x (KP + 1)) ((pwN x (KP + 1) * pwN 2 (2 * KP + 1)) % PP) x).isSome := by unfold isN rtN; rfl
theorem rootN_lt (x : Nat) : rootN x < PP := by
  unfold rootN
  cases h : rtN x with
  | none => decide
  | some z => exact (rt_some h).1
theorem rootN_even (x : Nat) : rootN x % 2 = 0 := by
  unfold rootN
  cases h : rtN x with
  | none => rfl
  | some z => exact (rt_some h).2.2
theorem rootN_sq {x : Nat} (h : isN x = true) : (rootN x * rootN x) % PP = x := by
  unfold rootN
  unfold isN at h
  cases e : rtN x with
  | none => rw [e] at h; cases h
  | some z => exact (rt_some e).2.1
theorem rootN_none {x : Nat} (h : isN x = false) : rootN x = 0 := by
  unfold rootN
  unfold isN at h
  cases e : rtN x with
  | none => rfl
  | some z => rw [e] at h; cases h
theorem isN_iff {x : Nat} (hx : x < PP) : isN x = true ↔ F25519.IsSq (F25519.c x) := by
  constructor
  · intro h
    have e := congrArg F25519.c (rootN_sq h)
    rw [c_prod] at e
    exact ⟨_, e⟩
  · intro h
    unfold isN
    cases e : rtN x with
    | none => exact absurd h (rt_none hx e)
    | some z => rfl
theorem isN_sq (y : Nat) : isN ((y * y) % PP) = true := (isN_iff (mod_lt_PP _)).2 ⟨F25519.c y, (c_prod _ _).symm⟩
/-- how a root is told -/
theorem root_is {x y : Nat} (hy : y < PP) (he : y % 2 = 0) (h : (y * y) % PP = x) : rootN x = y ∧ isN x = true := by
  have hi : isN x = true := by rw [← h]; exact isN_sq y
  refine ⟨?_, hi⟩
  have e := rootN_sq hi
  rw [← h] at e
  have e2 := congrArg F25519.c e
  rw [c_prod, c_prod] at e2
  apply c_same (rootN_lt _) hy
  refine F25519.even_root (by rw [← h]; exact e2) ?_ ?_
  · rw [F25519.c_val, show F25519.P = PP from rfl, Nat.mod_eq_of_lt (rootN_lt _)]; exact rootN_even _
  · rw [F25519.c_val, show F25519.P = PP from rfl, Nat.mod_eq_of_lt hy]; exact he
/-- a root of a square is the number or its negative -/
theorem root_two {x y : Nat} (hx : x < PP) (hy : y < PP) (h : (y * y) % PP = (x * x) % PP) : y = x ∨ y = (PP - x) % PP := by
  have e := congrArg F25519.c h
  rw [c_prod, c_prod] at e
  rcases F25519.sq_eq e with g | g
  · exact .inl (c_same hy hx g)
  · exact .inr (c_same hy (mod_lt_PP _) (by rw [g, c_negP hx]))
theorem sq_double {x : Nat} (hx : x < PP) (h0 : x ≠ 0) : isN x = !isN ((2 * x) % PP) := by
  have hc : F25519.c x ≠ 0 := fun e => h0 ((c_eq_zeroP hx).1 e)
  have k := F25519.sq_or_double hc
  rw [← isN_iff hx, show (2 : Fin F25519.P) * F25519.c x = F25519.c ((2 * x) % PP) by rw [c_prod]; rfl, ← isN_iff (mod_lt_PP _)] at k
  cases a : isN x <;> cases b : isN ((2 * x) % PP) <;> simp_all
theorem root_zero : rootN 0 = 0 ∧ isN 0 = true := root_is (by decide) rfl rfl
theorem root_four : rootN 4 = 2 ∧ isN 4 = true := root_is (by decide) rfl (by decide)

/-- the root of a ratio -/
def ratN (u v : Nat) : Nat := if v = 0 then 0 else rootN ((u * invN v) % PP)
def fineN (u v : Nat) : Bool := if v = 0 then decide (u = 0) else isN ((u * invN v) % PP)
theorem ratN_lt (u v : Nat) : ratN u v < PP := by unfold ratN; split; decide; exact rootN_lt _
theorem ratN_even (u v : Nat) : ratN u v % 2 = 0 := by unfold ratN; split; rfl; exact rootN_even _
theorem ratN_none {u v : Nat} (h : fineN u v = false) : ratN u v = 0 := by
  unfold ratN
  unfold fineN at h
  split
  · rfl
  · rename_i e; rw [if_neg e] at h; exact rootN_none h
theorem ratN_sq {u v : Nat} (hu : u < PP) (hv : v < PP) (h0 : v ≠ 0) (h : fineN u v = true) : ((ratN u v * ratN u v) % PP * v) % PP = u := by
  unfold ratN
  unfold fineN at h
  rw [if_neg h0] at h ⊢
  have e := congrArg F25519.c (rootN_sq h)
  have i := congrArg F25519.c (inv_right hv h0)
  apply c_same (mod_lt_PP _) hu
  rw [c_prod, e]
  rw [c_prod, c_one] at i
  rw [c_prod]
  generalize F25519.c (invN v) = y at *
  generalize F25519.c v = z at *
  rw [mul_assoc_, mul_comm_ y z, i, mul_one_]
/-- of a square times the denominator -/
theorem ratN_of {u v : Nat} (hu : u < PP) (hv : v < PP) (h0 : v ≠ 0) : fineN (((u * u) % PP * v) % PP) v = true ∧ (ratN (((u * u) % PP * v) % PP) v = u ∨ ratN (((u * u) % PP * v) % PP) v = (PP - u) % PP) := by
  have e : (((u * u) % PP * v) % PP * invN v) % PP = (u * u) % PP := by
    have i := congrArg F25519.c (inv_right hv h0)
    rw [c_prod, c_one] at i
    apply c_same (mod_lt_PP _) (mod_lt_PP _)
    rw [c_prod, c_prod, mul_assoc_, i, mul_one_]
  unfold fineN ratN
  rw [if_neg h0, if_neg h0, e]
  have hi := isN_sq u
  exact ⟨hi, root_two hu (rootN_lt _) (rootN_sq hi)⟩
end Go.Proofs.Ytfejabfmhddepaa

namespace Go.Proofs.Ytfejabfmhddepaa
set_option linter.unusedVariables false
set_option maxRecDepth 100000

theorem leN_byte : ∀ (l : List UInt8) (j : Nat), leN l / 256 ^ j % 256 = (l.getD j 0).toNat
  | [], j => by simp [leN]
  | a :: l, 0 => by have := a.toNat_lt; rw [leN, Nat.pow_zero, Nat.div_one, List.getD_cons_zero]; omega
  | a :: l, j + 1 => by
    have ih := leN_byte l j
    have ha := a.toNat_lt
    have e : (a.toNat + 256 * leN l) / 256 = leN l := by omega
    rw [leN, List.getD_cons_succ, ← ih, Nat.pow_succ, Nat.mul_comm (256 ^ j) 256, ← Nat.div_div_eq_div_mul, e]
theorem small_bit (y r : Nat) (hr : r < 8) : y / 2 ^ r % 2 = y % 256 / 2 ^ r % 2 := by
  have h : r = 0 ∨ r = 1 ∨ r = 2 ∨ r = 3 ∨ r = 4 ∨ r = 5 ∨ r = 6 ∨ r = 7 := by omega
  rcases h with rfl | rfl | rfl | rfl | rfl | rfl | rfl | rfl <;> omega
theorem leN_bit (l : List UInt8) (i : Nat) : (l.getD (i / 8) 0).toNat / 2 ^ (i % 8) % 2 = leN l / 2 ^ i % 2 := by
  have e : 2 ^ i = 256 ^ (i / 8) * 2 ^ (i % 8) := by
    rw [show (256 : Nat) = 2 ^ 8 from rfl, ← Nat.pow_mul, ← Nat.pow_add]
    congr 1
    omega
  rw [e, ← Nat.div_div_eq_div_mul, small_bit (leN l / 256 ^ (i / 8)) (i % 8) (Nat.mod_lt _ (by omega)), leN_byte]
/-- one step of the power -/
theorem pow_step (x E k : Nat) (hk : k < 256) :
    (if E / 2 ^ (255 - k) % 2 = 1 then ((pwN x (E / 2 ^ (256 - k)) * pwN x (E / 2 ^ (256 - k))) % PP * x) % PP else (pwN x (E / 2 ^ (256 - k)) * pwN x (E / 2 ^ (256 - k))) % PP) = pwN x (E / 2 ^ (256 - (k + 1))) := by
  rw [pwN_add]
  have e : E / 2 ^ (256 - k) = E / 2 ^ (255 - k) / 2 := by
    rw [Nat.div_div_eq_div_mul, ← Nat.pow_succ, show (255 - k).succ = 256 - k by omega]
  rw [e, show 256 - (k + 1) = 255 - k by omega]
  generalize E / 2 ^ (255 - k) = y
  split
  · rename_i h
    rw [pwN_succ]
    congr 1
    omega
  · rename_i h
    congr 1
    omega

/-- a number halved: so many bytes are done -/
def halfB9 (E k : Nat) : List UInt8 := (leB 32 (E / 2)).take k ++ (leB 32 E).drop k
theorem halfB9_len (E : Nat) {k : Nat} (h : k ≤ 32) : (halfB9 E k).length = 32 := by
  have a := leB_len 32 (E / 2)
  have b := leB_len 32 E
  simp [halfB9, a, b]
  omega
theorem halfB9_zero (E : Nat) : halfB9 E 0 = leB 32 E := rfl
theorem halfB9_end (E : Nat) : halfB9 E 32 = leB 32 (E / 2) := by
  have a := leB_len 32 (E / 2)
  have b := leB_len 32 E
  unfold halfB9
  rw [List.take_of_length_le (by omega), List.drop_eq_nil_of_le (by omega), List.append_nil]
theorem halfB9_get (E : Nat) {k j : Nat} (h : k ≤ j) (hj : j < 32) (hk : k ≤ 32) : (halfB9 E k).getD j 0 = UInt8.ofNat (E / 256 ^ j) := by
  have a := leB_len 32 (E / 2)
  have b := leB_len 32 E
  have g := leB_get 32 E j hj
  unfold halfB9
  rw [← g]
  simp only [List.getD]
  rw [List.getElem?_append_right (by rw [List.length_take]; omega), List.getElem?_drop, List.length_take, a]
  congr 2
  omega
theorem halfB9_set (E : Nat) {k : Nat} (h : k < 32) : (halfB9 E k).set k (UInt8.ofNat (E / 2 / 256 ^ k)) = halfB9 E (k + 1) := by
  have a := leB_len 32 (E / 2)
  have b := leB_len 32 E
  have g := leB_get 32 (E / 2) k h
  unfold halfB9
  rw [List.set_append, if_neg (by rw [List.length_take]; omega), List.length_take, a, Nat.min_eq_left (by omega), Nat.sub_self, List.drop_eq_getElem_cons (by omega), List.set_cons_zero, List.take_succ_eq_append_getElem (by omega), List.append_assoc]
  congr 1
  rw [List.singleton_append]
  congr 1
  rw [← g]
  simp [List.getD, List.getElem?_eq_getElem (show k < (leB 32 (E / 2)).length by omega)]
theorem half_byte (E k : Nat) : E / 2 / 256 ^ k % 256 = E / 256 ^ k % 256 / 2 + E / 256 ^ (k + 1) % 2 * 128 := by
  rw [Nat.pow_succ, ← Nat.div_div_eq_div_mul, Nat.div_div_eq_div_mul, Nat.mul_comm 2, ← Nat.div_div_eq_div_mul]
  generalize E / 256 ^ k = y
  omega
theorem half_top {E : Nat} (h : E < 256 ^ 32) : E / 256 ^ (31 + 1) % 2 = 0 := by
  rw [Nat.div_eq_of_lt h]
theorem ones_low {less : Nat} (h : less ≤ 237) : ((List.replicate 32 (255 : UInt8)).set 31 127).set 0 (UInt8.ofNat (237 - less)) = leB 32 (PP - less) := by
  have e : edgeB (237 - less) = leB 32 (PP - less) := by
    have hv := edge_val (n := 237 - less) (by omega)
    have := leB_leN (edgeB (237 - less))
    rw [edge_len, hv] at this
    rw [← this]
    congr 1
    unfold TT PP
    omega
  rw [← e]
  unfold edgeB
  rw [List.set_comm _ _ (by omega)]
theorem ones13 : (PP - 1) / 2 ^ 3 = KP := by decide
theorem ones12 : (PP - 1) / 2 ^ 2 = 2 * KP + 1 := by decide
theorem ones20 : (PP - 2) / 2 ^ 0 = PP - 2 := by decide
theorem K_inc : (leB 32 KP).set 0 254 = leB 32 (KP + 1) := by decide +kernel
theorem K_low : ((leB 32 KP).getD 0 0).toNat = 253 := by decide +kernel
theorem rootA {x : Nat} (h : (pwN x (KP + 1) * pwN x (KP + 1)) % PP = x) : rootN x = fixN (pwN x (KP + 1)) ∧ isN x = true := by
  rw [rootN_eq, isN_eq]; exact rtG_A h
theorem rootB {x : Nat} (h : ¬ (pwN x (KP + 1) * pwN x (KP + 1)) % PP = x) (h2 : ((pwN x (KP + 1) * pwN 2 (2 * KP + 1)) % PP * ((pwN x (KP + 1) * pwN 2 (2 * KP + 1)) % PP)) % PP = x) : rootN x = fixN ((pwN x (KP + 1) * pwN 2 (2 * KP + 1)) % PP) ∧ isN x = true := by
  rw [rootN_eq, isN_eq]; exact rtG_B h h2
theorem rootC {x : Nat} (h : ¬ (pwN x (KP + 1) * pwN x (KP + 1)) % PP = x) (h2 : ¬ ((pwN x (KP + 1) * pwN 2 (2 * KP + 1)) % PP * ((pwN x (KP + 1) * pwN 2 (2 * KP + 1)) % PP)) % PP = x) : rootN x = 0 ∧ isN x = false := by
  rw [rootN_eq, isN_eq]; exact rtG_C h h2
theorem fix_odd {z : Nat} (h : z % 2 = 1) : fixN z = (PP - z) % PP := if_pos h
theorem fix_even {z : Nat} (h : ¬ z % 2 = 1) : fixN z = z := if_neg h
end Go.Proofs.Ytfejabfmhddepaa

namespace Go.Proofs.Ytfejabfmhddepaa
set_option linter.unusedVariables false
set_option maxRecDepth 100000
open Pm Fl

theorem pwN_oneE {x : Nat} (hx : x < PP) : pwN x 1 = x := by
  have h := pwN_succ x 0
  rw [pwN_zero, Nat.one_mul, Nat.mod_eq_of_lt hx] at h
  exact h.symm
theorem pwN_sq {x : Nat} (hx : x < PP) : (x * x) % PP = pwN x 2 := by
  have h := pwN_succ x 1
  rwa [pwN_oneE hx] at h
theorem pwN_cube {x : Nat} (hx : x < PP) : ((x * x) % PP * x) % PP = pwN x 3 := by
  rw [pwN_sq hx, pwN_succ]
theorem pwN_nilP {n : Nat} (h : 0 < n) : pwN 0 n = 0 := by
  obtain ⟨m, rfl⟩ : ∃ m, n = m + 1 := ⟨n - 1, by omega⟩
  rw [← pwN_succ, Nat.mul_zero, Nat.zero_mod]
/-- squared so many times more -/
theorem pow2_next (x k : Nat) : (pwN x (2 ^ k) * pwN x (2 ^ k)) % PP = pwN x (2 ^ (k + 1)) := by
  rw [pwN_add, Nat.pow_succ]; congr 1; omega
/-- the digits doubled -/
theorem ones_even (x m : Nat) : (pwN (pwN x (2 ^ m - 1)) (2 ^ m) * pwN x (2 ^ m - 1)) % PP = pwN x (2 ^ (2 * m) - 1) := by
  have h1 : 1 ≤ 2 ^ m := Nat.one_le_two_pow
  rw [pwN_pw, pwN_add]
  congr 1
  rw [Nat.two_mul, Nat.pow_add, Nat.sub_mul]
  have h2 : 2 ^ m ≤ 2 ^ m * 2 ^ m := Nat.le_mul_of_pos_left _ h1
  omega
theorem ones_odd {x : Nat} (m : Nat) : ((pwN x (2 ^ (2 * m) - 1) * pwN x (2 ^ (2 * m) - 1)) % PP * x) % PP = pwN x (2 ^ (2 * m + 1) - 1) := by
  have h1 : 1 ≤ 2 ^ (2 * m) := Nat.one_le_two_pow
  rw [pwN_add, pwN_succ]
  congr 1
  rw [Nat.pow_succ]
  omega
theorem ones_eighth : (2 ^ 250 - 1) * 2 ^ 2 + 1 = KP := by decide +kernel
theorem inv_eighth : KP * 2 ^ 3 + 3 = PP - 2 := by decide +kernel
theorem K_pos : 0 < KP := by decide +kernel
theorem eighth_is {x : Nat} : (pwN (pwN x (2 ^ 250 - 1)) (2 ^ 2) * x) % PP = pwN x KP := by
  rw [← ones_eighth]
  generalize 2 ^ 250 - 1 = e
  rw [pwN_pw, pwN_succ]
theorem invert_is {x : Nat} (hx : x < PP) : (pwN (pwN x KP) (2 ^ 3) * (((x * x) % PP * x) % PP)) % PP = invN x := by
  unfold invN
  rw [pwN_cube hx, pwN_pw, pwN_add, ← inv_eighth]
/-- a root of -1, written out -/
def qI : Nat := 19681161376707505956807079304988542015446066515923890162744021073123829784752
theorem qI_lt : qI < PP := by decide +kernel
theorem qI_c : F25519.c qI = F25519.iV := by apply Fin.ext; decide +kernel
theorem ratio_is {u v z : Nat} (hu : u < PP) (hv : v < PP) (hz : z < PP) (h : (v * ((z * z) % PP)) % PP = u) (h0 : v = 0 → z = 0) : ratN u v = fixN z ∧ fineN u v = true := by
  unfold ratN fineN
  by_cases e : v = 0
  · have hz0 := h0 e
    subst e hz0
    rw [Nat.zero_mul, Nat.zero_mod] at h
    rw [if_pos rfl, if_pos rfl, ← h]
    exact ⟨rfl, rfl⟩
  · rw [if_neg e, if_neg e]
    have i := congrArg F25519.c (inv_right hv e)
    rw [c_prod, c_one] at i
    have hzz : (fixN z * fixN z) % PP = (u * invN v) % PP := by
      rw [fixN_sq hz]
      apply c_same (mod_lt_PP _) (mod_lt_PP _)
      rw [c_prod u, ← h, c_prod v, c_modP (z * z)]
      generalize F25519.c (z * z) = q at *
      generalize F25519.c (invN v) = y at *
      generalize F25519.c v = t at *
      rw [mul_assoc_, mul_comm_ q y, ← mul_assoc_, i, one_mul_]
    exact root_is (fixN_lt hz) (fixN_even hz) hzz
/-- what the landed Ratio tries first -/
theorem ratio_alg {N : Nat} [NeZero N] (k : Nat) (a b : Fin N) : b * ((a * (a * b) ^ k) * (a * (a * b) ^ k)) = a * (a * b) ^ (2 * k + 1) := by
  rw [F25519.pw_add, F25519.pw_one, Nat.two_mul, F25519.pw_add]
  generalize (a * b) ^ k = q
  grind
theorem times_negone {N : Nat} [NeZero N] (q : Fin N) : q * -1 = -q := by grind
theorem ratio_found {u v : Nat} : F25519.c ((v * (((u * pwN ((u * v) % PP) KP) % PP * ((u * pwN ((u * v) % PP) KP) % PP)) % PP)) % PP) = F25519.c u * (F25519.c u * F25519.c v) ^ (2 * KP + 1) := by
  rw [c_prod, c_prod, c_prod, c_pwN, c_prod, ratio_alg]
theorem ratio_zero {u : Nat} : (u * pwN ((u * 0) % PP) KP) % PP = 0 := by
  rw [Nat.mul_zero, Nat.zero_mod, pwN_nilP K_pos, Nat.mul_zero, Nat.zero_mod]
theorem ratio_none {u v f : Nat} (hu : u < PP) (hv : v < PP) (hf : F25519.c f = F25519.c u * (F25519.c u * F25519.c v) ^ (2 * KP + 1)) (hl : f < PP) (h1 : ¬ f = u) (h2 : ¬ f = (PP - u) % PP) : ratN u v = 0 ∧ fineN u v = false := by
  have hu0 : u ≠ 0 := by
    rintro rfl
    apply h1
    apply c_same hl hu
    rw [hf, c_zero, zero_mul_]
  have key : ¬ (v ≠ 0 ∧ F25519.IsSq (F25519.c ((u * invN v) % PP))) := by
    rintro ⟨hv0, s, hs⟩
    have i := congrArg F25519.c (inv_right hv hv0)
    rw [c_prod, c_one] at i
    rw [c_prod] at hs
    have eu : F25519.c u = F25519.c v * (s * s) := by
      rw [hs]
      generalize F25519.c (invN v) = y at *
      generalize F25519.c v = t at *
      generalize F25519.c u = q at *
      rw [mul_comm_ q y, ← mul_assoc_, i, one_mul_]
    have ew : F25519.c u * F25519.c v = (F25519.c v * s) * (F25519.c v * s) := by
      rw [eu]
      generalize F25519.c v = t
      grind
    have hcu : F25519.c u ≠ 0 := fun e => hu0 ((c_eq_zeroP hu).1 e)
    have ht : F25519.c v * s ≠ 0 := by
      intro e
      rw [e, mul_zero_] at ew
      rcases F25519.mul_zero_or ew with g | g
      · exact hcu g
      · exact hv0 ((c_eq_zeroP hv).1 g)
    have hh := F25519.half_sq ht
    rw [show 4 * F25519.K + 2 = 2 * KP + 1 + (2 * KP + 1) by show 4 * KP + 2 = _; omega, F25519.pw_add, ← F25519.mul_pw, ← ew] at hh
    rcases hh with g | g
    · rw [g, mul_one_] at hf
      exact h1 (c_same hl hu hf)
    · rw [g] at hf
      apply h2
      apply c_same hl (mod_lt_PP _)
      rw [hf, c_negP hu, times_negone]
  unfold ratN fineN
  by_cases e : v = 0
  · rw [if_pos e, if_pos e]
    exact ⟨rfl, decide_eq_false hu0⟩
  · rw [if_neg e, if_neg e]
    have hno : isN ((u * invN v) % PP) = false := by
      cases hh : isN ((u * invN v) % PP) with
      | false => rfl
      | true => exact absurd ⟨e, (isN_iff (mod_lt_PP _)).1 hh⟩ key
    exact ⟨rootN_none hno, hno⟩
/-- the second try -/
theorem ratio_second {u v r : Nat} (hu : u < PP) (h : (v * ((r * r) % PP)) % PP = (PP - u) % PP) : (v * (((r * qI) % PP * ((r * qI) % PP)) % PP)) % PP = u := by
  apply c_same (mod_lt_PP _) hu
  have e := congrArg F25519.c h
  rw [c_prod, c_prod, c_negP hu] at e
  rw [c_prod, c_prod, c_prod, qI_c]
  have i := F25519.i_sq
  generalize F25519.iV = j at *
  generalize F25519.c r = q at *
  generalize F25519.c v = t at *
  have e2 : t * (q * j * (q * j)) = (t * (q * q)) * (j * j) := by grind
  rw [e2, e, i]
  grind
theorem ratN_oneP {x : Nat} (hx : x < PP) : ratN x 1 = rootN x := by
  unfold ratN
  rw [if_neg (by omega), inv_oneN, Nat.mul_one, Nat.mod_eq_of_lt hx]
theorem fineN_oneP {x : Nat} (hx : x < PP) : fineN x 1 = isN x := by
  unfold fineN
  rw [if_neg (by omega), inv_oneN, Nat.mul_one, Nat.mod_eq_of_lt hx]
end Go.Proofs.Ytfejabfmhddepaa

