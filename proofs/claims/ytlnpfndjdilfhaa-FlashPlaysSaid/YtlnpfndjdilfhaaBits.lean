/- A byte bit by bit. -/
import Derived.Test.YtlnpfndjdilfhaaMask
namespace Go.Proofs.Ytlnpfndjdilfhaa
open Go.RowKit
set_option linter.unusedVariables false

/-- a byte's bit, as a number -/
def bitI (x : UInt8) (k : Nat) : Int := if x.toBitVec.getLsbD k then 1 else 0

theorem bitI_eq (x : UInt8) (k : Nat) : bitI x k = ((x.toNat / 2 ^ k % 2 : Nat) : Int) := by
  unfold bitI
  rw [BitVec.getLsbD, Nat.testBit_eq_decide_div_mod_eq]
  have : x.toBitVec.toNat = x.toNat := rfl
  rw [this]
  have h2 := Nat.mod_lt (x.toNat / 2 ^ k) (show 2 > 0 by omega)
  by_cases h : x.toNat / 2 ^ k % 2 = 1
  · simp [h]
  · have : x.toNat / 2 ^ k % 2 = 0 := by omega
    simp [this]

theorem i64_and1 (n : Nat) (h : n < 256) : bits .and .i64 (n : Int) 1 = ((n % 2 : Nat) : Int) := by
  have := (bits_nat .i64 63 (by decide) (fun m h0 h1 => by rw [IntKind.wrap_i64]; omega) n 1 (by omega) (by decide)).1
  rw [Nat.and_one_is_mod] at this
  exact this

theorem bit_and {n k : Nat} (h : n < 2 ^ 8) : bits .and .i64 (wrap64 ((n : Int) / 2 ^ k)) 1 = ((n / 2 ^ k % 2 : Nat) : Int) := by
  have hd : n / 2 ^ k ≤ n := Nat.div_le_self _ _
  have e : (n : Int) / 2 ^ k = ((n / 2 ^ k : Nat) : Int) := by simp
  rw [e]
  have e2 : wrap64 ((n / 2 ^ k : Nat) : Int) = ((n / 2 ^ k : Nat) : Int) := by
    generalize n / 2 ^ k = q at *
    unfold wrap64
    omega
  rw [e2, i64_and1 _ (by omega)]

theorem bitI_le (x y : UInt8) : (∀ k, k < 8 → bitI y k ≤ bitI x k) ↔ y &&& ~~~x = 0 := by
  constructor
  · intro h
    apply u8_ext
    intro i hi
    have := h i hi
    unfold bitI at this
    simp [hi]
    cases hx : (x.toBitVec).getLsbD i <;> cases hy : (y.toBitVec).getLsbD i <;> simp_all
  · intro h k hk
    have := u8_at h k
    unfold bitI
    simp [hk] at this
    cases hx : (x.toBitVec).getLsbD k <;> cases hy : (y.toBitVec).getLsbD k <;> simp_all

/-- b, and of f the lowest k bits -/
def lowMask (k : Nat) : UInt8 := UInt8.ofNat (2 ^ k - 1)

def part (b f : UInt8) (k : Nat) : UInt8 := b ||| (f &&& lowMask k)

theorem lowMask_bit : ∀ k, k ≤ 8 → ∀ i, i < 8 → (lowMask k).toBitVec.getLsbD i = decide (i < k) := by
  have h : ∀ k : Fin 9, ∀ i : Fin 8, (lowMask k.1).toBitVec.getLsbD i.1 = decide (i.1 < k.1) := by decide
  exact fun k hk i hi => h ⟨k, by omega⟩ ⟨i, hi⟩

theorem oneAt_bit : ∀ k, k < 8 → ∀ i, i < 8 → (UInt8.ofNat (2 ^ k)).toBitVec.getLsbD i = decide (i = k) := by
  have h : ∀ k : Fin 8, ∀ i : Fin 8, (UInt8.ofNat (2 ^ k.1)).toBitVec.getLsbD i.1 = decide (i.1 = k.1) := by decide
  exact fun k hk i hi => h ⟨k, hk⟩ ⟨i, hi⟩

theorem part_zero (b f : UInt8) : part b f 0 = b := by
  apply u8_ext
  intro i hi
  simp [part, lowMask_bit 0 (by omega) i hi]

theorem part_eight {b f : UInt8} (h : b &&& ~~~f = 0) : part b f 8 = f := by
  apply u8_ext
  intro i hi
  have q := (bitI_le f b).2 h i hi
  unfold bitI at q
  simp only [part, UInt8.toBitVec_or, UInt8.toBitVec_and, BitVec.getLsbD_or, BitVec.getLsbD_and, lowMask_bit 8 (by omega) i hi]
  rw [decide_eq_true hi]
  cases hx : (b.toBitVec).getLsbD i <;> cases hy : (f.toBitVec).getLsbD i <;> simp_all

theorem part_no {b f : UInt8} {k : Nat} (hk : k < 8) (h : f.toBitVec.getLsbD k = false ∨ b.toBitVec.getLsbD k = true) : part b f (k + 1) = part b f k := by
  apply u8_ext
  intro i hi
  simp [part, lowMask_bit k (by omega) i hi, lowMask_bit (k + 1) (by omega) i hi]
  by_cases e : i = k
  · subst e
    rcases h with h | h <;> simp [h]
  · have : (i < k + 1) ↔ (i < k) := by omega
    simp [this]

theorem u8_add_or {x y : UInt8} (h : x &&& y = 0) : x + y = x ||| y := by
  apply UInt8.toBitVec_inj.1
  rw [UInt8.toBitVec_add, UInt8.toBitVec_or]
  apply BitVec.add_eq_or_of_and_eq_zero
  have := congrArg UInt8.toBitVec h
  simpa using this

theorem part_yes {b f : UInt8} {k : Nat} (hk : k < 8) (h1 : f.toBitVec.getLsbD k = true) (h2 : b.toBitVec.getLsbD k = false) : part b f k + UInt8.ofNat (2 ^ k) = part b f (k + 1) := by
  have hz : part b f k &&& UInt8.ofNat (2 ^ k) = 0 := by
    apply u8_ext
    intro i hi
    simp only [UInt8.toBitVec_and, BitVec.getLsbD_and, oneAt_bit k hk i hi]
    simp [part, lowMask_bit k (by omega) i hi]
    by_cases e : i = k
    · subst e; simp [h2]
    · simp [e]
  rw [u8_add_or hz]
  apply u8_ext
  intro i hi
  simp only [UInt8.toBitVec_or, BitVec.getLsbD_or, oneAt_bit k hk i hi]
  simp [part, lowMask_bit k (by omega) i hi, lowMask_bit (k + 1) (by omega) i hi]
  by_cases e : i = k
  · subst e; simp [h1]
  · have : (i < k + 1) ↔ (i < k) := by omega
    simp [e, this]

theorem part_toNat {b f : UInt8} {k : Nat} (hk : k < 8) (h1 : f.toBitVec.getLsbD k = true) (h2 : b.toBitVec.getLsbD k = false) : (part b f k).toNat + 2 ^ k = (part b f (k + 1)).toNat := by
  have hz : part b f k &&& UInt8.ofNat (2 ^ k) = 0 := by
    apply u8_ext
    intro i hi
    simp only [UInt8.toBitVec_and, BitVec.getLsbD_and, oneAt_bit k hk i hi]
    simp [part, lowMask_bit k (by omega) i hi]
    by_cases e : i = k
    · subst e; simp [h2]
    · simp [e]
  have e := part_yes hk h1 h2
  have hp : (UInt8.ofNat (2 ^ k)).toNat = 2 ^ k := by
    rw [UInt8.toNat_ofNat']
    exact Nat.mod_eq_of_lt (Nat.pow_lt_pow_right (by omega) hk)
  have hz' : (part b f k).toBitVec &&& (UInt8.ofNat (2 ^ k)).toBitVec = 0#8 := by simpa using congrArg UInt8.toBitVec hz
  have hs := BitVec.toNat_add_of_and_eq_zero hz'
  have h3 : (part b f k).toNat + (UInt8.ofNat (2 ^ k)).toNat = (part b f k + UInt8.ofNat (2 ^ k)).toNat := hs.symm
  rw [e, hp] at h3
  exact h3

theorem set_same (l : List UInt8) (k : Nat) (x : UInt8) (hk : k < l.length) (h : l.getD k 0 = x) : l.set k x = l := by
  apply list_ext_getD (by simp)
  intro i hi
  rw [getD_set _ _ _ _ (by simpa using hi)]
  by_cases e : k = i
  · subst e; rw [if_pos rfl, h]
  · rw [if_neg e]

theorem torn_bit (o n p : UInt8) (k : Nat) : (tornByte o n p).toBitVec.getLsbD k = (n.toBitVec.getLsbD k || (o.toBitVec.getLsbD k && (decide (k < 8) && !n.toBitVec.getLsbD k) && p.toBitVec.getLsbD k)) := by
  simp only [tornByte, UInt8.toBitVec_or, UInt8.toBitVec_and, UInt8.toBitVec_not, BitVec.getLsbD_or, BitVec.getLsbD_and, BitVec.getLsbD_not]

theorem half_bit (o p : UInt8) (k : Nat) : (o ||| p).toBitVec.getLsbD k = (o.toBitVec.getLsbD k || p.toBitVec.getLsbD k) := by
  simp only [UInt8.toBitVec_or, BitVec.getLsbD_or]

theorem bitI_one {x : UInt8} {k : Nat} : bitI x k = 1 ↔ x.toBitVec.getLsbD k = true := by
  unfold bitI; split <;> simp_all

theorem bitI_zero {x : UInt8} {k : Nat} : bitI x k = 0 ↔ x.toBitVec.getLsbD k = false := by
  unfold bitI; split <;> simp_all

theorem sum_at {a b : Nat} {q : Nat} (h : a + 2 ^ q = b) (hb : b < 2 ^ 8) : ((a : Int) + 2 ^ q) % 256 = (b : Int) := by
  have e : ((a : Int) + 2 ^ q) = (b : Int) := by exact_mod_cast h
  rw [e]
  omega

theorem half_no {x z : UInt8} {q : Nat} (hq : q < 8) (h : bitI x q ≠ 0 ∨ bitI z q ≠ 1) : part x (x ||| z) (q + 1) = part x (x ||| z) q := by
  apply part_no hq
  rw [half_bit]
  rcases h with h | h
  · right
    cases hx : x.toBitVec.getLsbD q
    · exact absurd (bitI_zero.2 hx) h
    · rfl
  · cases hz : z.toBitVec.getLsbD q
    · cases hx : x.toBitVec.getLsbD q <;> simp
    · exact absurd (bitI_one.2 hz) h

theorem torn_no_part {o n p : UInt8} {q : Nat} (hq : q < 8) (h : bitI o q ≠ 1 ∨ bitI n q ≠ 0 ∨ bitI p q ≠ 1) : part n (tornByte o n p) (q + 1) = part n (tornByte o n p) q := by
  apply part_no hq
  rw [torn_bit]
  cases hn : n.toBitVec.getLsbD q
  · left
    rcases h with h | h | h
    · cases ho : o.toBitVec.getLsbD q
      · simp
      · exact absurd (bitI_one.2 ho) h
    · exact absurd (bitI_zero.2 hn) h
    · cases hp : p.toBitVec.getLsbD q
      · simp
      · exact absurd (bitI_one.2 hp) h
  · right; rfl

end Go.Proofs.Ytlnpfndjdilfhaa
