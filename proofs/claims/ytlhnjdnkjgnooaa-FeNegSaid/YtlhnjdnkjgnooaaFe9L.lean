/- What layer 9's laws say of plain numbers. No program is named here. -/
import Derived.Test.YtlhnjdnkjgnooaaFeN
namespace Go.Proofs.Ytlhnjdnkjgnooaa
set_option linter.unusedVariables false
set_option maxRecDepth 100000

theorem fr_dist (x y z : Nat) : (x * ((y + z) % PP)) % PP = ((x * y) % PP + (x * z) % PP) % PP := by
  generalize PP = p
  simp only [Nat.mul_mod_mod, Nat.add_mod_mod, Nat.mod_add_mod, Nat.mul_add]
theorem fr_assoc (x y z : Nat) : ((x * y) % PP * z) % PP = (x * ((y * z) % PP)) % PP := by
  generalize PP = p
  simp only [Nat.mul_mod_mod, Nat.mod_mul_mod, Nat.mul_assoc]
theorem fr_sums (x y z : Nat) : ((x + y) % PP + z) % PP = (x + ((z + y) % PP)) % PP := by
  generalize PP = p
  simp only [Nat.add_mod_mod, Nat.mod_add_mod]
  congr 1
  omega
theorem fr_square (x y : Nat) : (((x + y) % PP) * ((x + y) % PP)) % PP = (((x * x) % PP + (y * y) % PP) % PP + (2 * ((x * y) % PP)) % PP) % PP := by
  generalize PP = p
  simp only [Nat.mul_mod_mod, Nat.mod_mul_mod, Nat.add_mod_mod, Nat.mod_add_mod]
  congr 1
  grind
theorem fr_one {x : Nat} (h : x < PP) : (x * 1) % PP = x := by rw [Nat.mul_one, Nat.mod_eq_of_lt h]
theorem fr_zero (x : Nat) : (x * 0) % PP = 0 := by rw [Nat.mul_zero, Nat.zero_mod]
theorem fr_subneg (x : Nat) {y : Nat} (h : y < PP) : (x + (PP - y)) % PP = (x + ((PP - y) % PP)) % PP := by rw [Nat.add_mod_mod]
theorem fr_negneg {x : Nat} (h : x < PP) : (PP - ((PP - x) % PP)) % PP = x := by unfold PP at *; omega
theorem fr_subself {x : Nat} (h : x < PP) : (x + (PP - x)) % PP = 0 := by unfold PP at *; omega
theorem fr_negmul {x y : Nat} (hx : x < PP) (hy : y < PP) : (((PP - x) % PP) * ((PP - y) % PP)) % PP = (x * y) % PP := by
  have h0 : 0 < PP := by decide
  generalize PP = p at *
  rw [Nat.mul_mod_mod, Nat.mod_mul_mod]
  have e : (((p - x) * (p - y) : Nat) : Int) = (x * y : Nat) + (p : Int) * ((p : Int) - x - y) := by
    rw [Int.natCast_mul, Int.natCast_sub (by omega), Int.natCast_sub (by omega), Int.natCast_mul]
    grind
  have e2 : (((p - x) * (p - y) : Nat) : Int) % p = ((x * y : Nat) : Int) % p := by rw [e, Int.add_mul_emod_self_left]
  rw [← Int.natCast_emod, ← Int.natCast_emod] at e2
  exact Int.ofNat.inj e2
theorem fr_oddneg {x : Nat} (h : x < PP) : (decide (x % 2 = 1) != decide ((PP - x) % PP % 2 = 1)) = !decide (x = 0) := by
  by_cases h0 : x = 0
  · subst h0
    rw [Nat.sub_zero, Nat.mod_self]
    rfl
  · have e : (PP - x) % PP = PP - x := Nat.mod_eq_of_lt (by omega)
    have hp : PP % 2 = 1 := by decide
    rw [e, decide_eq_false h0]
    generalize PP = p at *
    by_cases h1 : x % 2 = 1
    · rw [decide_eq_true h1, decide_eq_false (show ¬ (p - x) % 2 = 1 by omega)]; rfl
    · rw [decide_eq_false h1, decide_eq_true (show (p - x) % 2 = 1 by omega)]; rfl

theorem xor128 (a : UInt8) : (a ^^^ 128).toNat % 128 = a.toNat % 128 := by
  have e : (128 : UInt8).toNat % 2 ^ 7 = 0 := rfl
  rw [UInt8.toNat_xor, show (128 : Nat) = 2 ^ 7 by decide, Nat.xor_mod_two_pow, e, Nat.xor_zero]
/-- the highest bit turned -/
def flipB (l : List UInt8) : List UInt8 := l.set 31 (l.getD 31 0 ^^^ 128)
theorem flip_mod {l : List UInt8} (h : l.length = 32) : leN (flipB l) % TT = leN l % TT := by
  obtain ⟨r, hr, e⟩ := top_split h
  have hs := leN_set l 31 (l.getD 31 0 ^^^ 128) (by omega)
  have hx := xor128 (l.getD 31 0)
  unfold flipB
  generalize (l.getD 31 0 ^^^ 128).toNat = b at *
  generalize (l.getD 31 0).toNat = a at *
  generalize leN (l.set 31 (l.getD 31 0 ^^^ 128)) = v at *
  rw [e] at hs ⊢
  rw [P31] at *
  unfold TT
  omega
theorem flip_fe {l : List UInt8} (h : l.length = 32) : feN (flipB l) = feN l := by unfold feN; rw [flip_mod h]
theorem flip_can {l : List UInt8} (h : l.length = 32) : canN (flipB l) = canN l := by unfold canN; rw [flip_mod h]
theorem top_lt {x : Nat} (h : x < PP) : ((leB 32 x).getD 31 0).toNat < 128 := by
  rw [leB_get 32 x 31 (by omega), P31]
  unfold PP at h
  simp
  omega

/-- the numbers near the end -/
def edgeB (n : Nat) : List UInt8 := ((List.replicate 32 (255 : UInt8)).set 0 (UInt8.ofNat n)).set 31 127
theorem edge_len (n : Nat) : (edgeB n).length = 32 := by simp [edgeB]
theorem edge_val {n : Nat} (h : n < 256) : leN (edgeB n) = TT - 256 + n := by
  have h1 := leN_set (List.replicate 32 (255 : UInt8)) 0 (UInt8.ofNat n) (by simp)
  have h2 := leN_set ((List.replicate 32 (255 : UInt8)).set 0 (UInt8.ofNat n)) 31 127 (by simp)
  have e1 : leN (List.replicate 32 (255 : UInt8)) = 2 * TT - 1 := by decide +kernel
  have e2 : (UInt8.ofNat n).toNat = n := by simp; omega
  have e3 : ((List.replicate 32 (255 : UInt8)).getD 0 0).toNat = 255 := by decide
  have e4 : (((List.replicate 32 (255 : UInt8)).set 0 (UInt8.ofNat n)).getD 31 0).toNat = 255 := by simp [List.getD]
  rw [e1, e2, e3, Nat.pow_zero] at h1
  rw [e4, P31, show (127 : UInt8).toNat = 127 from rfl] at h2
  unfold edgeB
  unfold TT at *
  omega
theorem edge_low {n : Nat} (h : n < 237) : feN (edgeB n) = PP - (237 - n) ∧ canN (edgeB n) = true ∧ leB 32 (feN (edgeB n)) = edgeB n ∧ (PP - (237 - n) + (237 - n)) % PP = 0 := by
  have hv := edge_val (n := n) (by omega)
  have e1 : leN (edgeB n) % TT = PP - (237 - n) := by rw [hv]; unfold TT PP; omega
  have e2 : feN (edgeB n) = PP - (237 - n) := by unfold feN; rw [e1]; exact Nat.mod_eq_of_lt (by unfold PP; omega)
  refine ⟨e2, ?_, ?_, by unfold PP; omega⟩
  · unfold canN; rw [e1]; exact decide_eq_true (by unfold PP; omega)
  · have e3 : feN (edgeB n) = leN (edgeB n) := by rw [e2, hv]; unfold TT PP; omega
    rw [e3]
    have := leB_leN (edgeB n)
    rwa [edge_len] at this
theorem edge_high {n : Nat} (h : 237 ≤ n) (h2 : n < 256) : feN (edgeB n) = n - 237 ∧ canN (edgeB n) = false := by
  have hv := edge_val (n := n) h2
  have e1 : leN (edgeB n) % TT = PP + (n - 237) := by rw [hv]; unfold TT PP; omega
  refine ⟨?_, ?_⟩
  · unfold feN; rw [e1]; unfold PP; omega
  · unfold canN; rw [e1]; exact decide_eq_false (by unfold PP; omega)
end Go.Proofs.Ytlhnjdnkjgnooaa

