/- The sum of a record, plainly: a register of 32 bits, eight halvings a byte. It is linear bit by bit, and a byte that is turned turns it. -/
import Derived.Test.YtddalnmoahpljaaGbase
namespace Go.Proofs.Ytddalnmoahpljaa
open Go.RowKit
set_option linter.unusedVariables false
set_option maxRecDepth 100000

/-- a halving: what is shifted out, where it is 1, brings the polynomial -/
def halve (x : Nat) : Nat := (x / 2) ^^^ (if x % 2 = 1 then 3988292384 else 0)

/-- so many halvings -/
def halves : Nat → Nat → Nat
  | 0, x => x
  | n + 1, x => halve (halves n x)

theorem halves_succ' (n x : Nat) : halves (n + 1) x = halves n (halve x) := by
  induction n with
  | zero => rfl
  | succ n ih => show halve (halves (n + 1) x) = halve (halves n (halve x)); rw [ih]

/-- what comes of a byte -/
def fallN (b : Nat) : Nat := halves 8 b

/-- the register behind a byte -/
def crcStep (x : Nat) (c : UInt8) : Nat := (x / 256) ^^^ fallN ((x % 256) ^^^ c.toNat)

/-- the register behind a row of bytes -/
def crcRun (x : Nat) (l : List UInt8) : Nat := l.foldl crcStep x

/-- the sum -/
def crc (l : List UInt8) : Nat := 4294967295 - crcRun 4294967295 l

theorem xor_div2 (a b : Nat) : (a ^^^ b) / 2 = (a / 2) ^^^ (b / 2) := by
  apply Nat.eq_of_testBit_eq
  intro i
  simp [Nat.testBit_div_two, Nat.testBit_xor]

theorem xor_mod2 (a b : Nat) : (a ^^^ b) % 2 = (a % 2 + b % 2) % 2 := by
  have h : (a ^^^ b) % 2 = (a % 2) ^^^ (b % 2) := by
    have := Nat.xor_mod_two_pow (a := a) (b := b) (n := 1)
    simpa using this
  rw [h]
  rcases Nat.mod_two_eq_zero_or_one a with ha | ha <;> rcases Nat.mod_two_eq_zero_or_one b with hb | hb <;> rw [ha, hb] <;> rfl

theorem xor_div256 (a b : Nat) : (a ^^^ b) / 256 = (a / 256) ^^^ (b / 256) := by
  have h : ∀ n : Nat, n / 256 = n >>> 8 := fun n => by rw [Nat.shiftRight_eq_div_pow]
  rw [h, h, h, Nat.shiftRight_xor_distrib]

theorem xor_mod256 (a b : Nat) : (a ^^^ b) % 256 = (a % 256) ^^^ (b % 256) := by
  have := Nat.xor_mod_two_pow (a := a) (b := b) (n := 8)
  simpa using this

/-- rows of bits that are held against each other may be sorted -/
theorem xor4 (a b c d : Nat) : (a ^^^ b) ^^^ (c ^^^ d) = (a ^^^ c) ^^^ (b ^^^ d) := by
  rw [Nat.xor_assoc, Nat.xor_assoc, ← Nat.xor_assoc b c d, Nat.xor_comm b c, Nat.xor_assoc c b d]

theorem xor_self_zero {a b : Nat} (h : a ^^^ b = 0) : a = b := by
  have h2 : (a ^^^ b) ^^^ b = 0 ^^^ b := by rw [h]
  rw [Nat.xor_assoc, Nat.xor_self, Nat.xor_zero, Nat.zero_xor] at h2
  exact h2

theorem halve_xor (a b : Nat) : halve (a ^^^ b) = halve a ^^^ halve b := by
  unfold halve
  rw [xor_div2, xor4]
  congr 1
  have h := xor_mod2 a b
  rcases Nat.mod_two_eq_zero_or_one a with ha | ha <;> rcases Nat.mod_two_eq_zero_or_one b with hb | hb <;> rw [ha, hb] at h <;> simp [ha, hb, h]

theorem halves_xor (n a b : Nat) : halves n (a ^^^ b) = halves n a ^^^ halves n b := by
  induction n with
  | zero => rfl
  | succ n ih => show halve (halves n (a ^^^ b)) = _; rw [ih, halve_xor]; rfl

theorem fallN_xor (a b : Nat) : fallN (a ^^^ b) = fallN a ^^^ fallN b := halves_xor 8 a b

theorem halve_lt {x : Nat} (h : x < 4294967296) : halve x < 4294967296 := by
  unfold halve
  have h2 : (if x % 2 = 1 then 3988292384 else 0) < 2 ^ 32 := by split <;> decide
  exact Nat.xor_lt_two_pow (n := 32) (by omega) h2

theorem halves_lt (n : Nat) {x : Nat} (h : x < 4294967296) : halves n x < 4294967296 := by
  induction n with
  | zero => exact h
  | succ n ih => exact halve_lt ih

theorem fallN_lt {x : Nat} (h : x < 256) : fallN x < 4294967296 := halves_lt 8 (by omega)

theorem fallN_zero : fallN 0 = 0 := by decide

/-- what comes of a byte other than 0 shows in the highest eight bits -/
theorem fallN_high : ∀ b, b < 256 → fallN b < 16777216 → b = 0 := by decide +kernel

theorem fallN_inj {a b : Nat} (ha : a < 256) (hb : b < 256) (h : fallN a = fallN b) : a = b := by
  apply xor_self_zero
  have hl : a ^^^ b < 256 := Nat.xor_lt_two_pow (n := 8) ha hb
  apply fallN_high _ hl
  rw [fallN_xor, h, Nat.xor_self]
  decide

theorem crcStep_lt {x : Nat} (c : UInt8) (h : x < 4294967296) : crcStep x c < 4294967296 := by
  have hc := c.toNat_lt
  have h1 : (x % 256) ^^^ c.toNat < 256 := Nat.xor_lt_two_pow (n := 8) (by omega) hc
  exact Nat.xor_lt_two_pow (n := 32) (by omega) (fallN_lt h1)

theorem crcRun_lt {x : Nat} (l : List UInt8) (h : x < 4294967296) : crcRun x l < 4294967296 := by
  induction l generalizing x with
  | nil => exact h
  | cons c t ih => exact ih (crcStep_lt c h)

theorem crc_lt (l : List UInt8) : crc l < 4294967296 := by unfold crc; omega

/-- a step, its two parts asunder -/
theorem crcStep_eq (x : Nat) (c : UInt8) : crcStep x c = ((x / 256) ^^^ fallN (x % 256)) ^^^ fallN c.toNat := by
  unfold crcStep
  rw [fallN_xor, Nat.xor_assoc]

theorem lin_zero {x : Nat} (h : x < 4294967296) (h2 : (x / 256) ^^^ fallN (x % 256) = 0) : x = 0 := by
  have e := xor_self_zero h2
  have hlt : x / 256 < 16777216 := by omega
  have h3 := fallN_high (x % 256) (Nat.mod_lt _ (by omega)) (by omega)
  rw [h3, fallN_zero] at e
  omega

/-- from two registers the same byte leads to two -/
theorem crcStep_inj {x y : Nat} (c : UInt8) (hx : x < 4294967296) (hy : y < 4294967296) (h : crcStep x c = crcStep y c) : x = y := by
  rw [crcStep_eq, crcStep_eq] at h
  have h' : (((x / 256) ^^^ fallN (x % 256)) ^^^ fallN c.toNat) ^^^ fallN c.toNat = (((y / 256) ^^^ fallN (y % 256)) ^^^ fallN c.toNat) ^^^ fallN c.toNat := by rw [h]
  rw [Nat.xor_assoc, Nat.xor_self, Nat.xor_zero, Nat.xor_assoc, Nat.xor_self, Nat.xor_zero] at h'
  apply xor_self_zero
  apply lin_zero (Nat.xor_lt_two_pow (n := 32) (by omega) (by omega))
  rw [xor_div256, xor_mod256, fallN_xor, xor4, h', Nat.xor_self]

theorem crcRun_inj {x y : Nat} (l : List UInt8) (hx : x < 4294967296) (hy : y < 4294967296) (h : crcRun x l = crcRun y l) : x = y := by
  induction l generalizing x y with
  | nil => exact h
  | cons c t ih => exact crcStep_inj c hx hy (ih (crcStep_lt c hx) (crcStep_lt c hy) h)

/-- two bytes lead from one register to two -/
theorem crcStep_byte {x : Nat} {c d : UInt8} (h : crcStep x c = crcStep x d) : c = d := by
  rw [crcStep_eq, crcStep_eq] at h
  generalize (x / 256) ^^^ fallN (x % 256) = g at h
  have h2 : g ^^^ (g ^^^ fallN c.toNat) = g ^^^ (g ^^^ fallN d.toNat) := by rw [h]
  rw [← Nat.xor_assoc, ← Nat.xor_assoc, Nat.xor_self, Nat.zero_xor, Nat.zero_xor] at h2
  exact UInt8.toNat_inj.mp (fallN_inj c.toNat_lt d.toNat_lt h2)

theorem crcRun_append (x : Nat) (a b : List UInt8) : crcRun x (a ++ b) = crcRun (crcRun x a) b := by
  unfold crcRun; rw [List.foldl_append]

/-- one byte turned: another sum -/
theorem crc_turn (l : List UInt8) (k : Nat) (d : UInt8) (hk : k < l.length) (h : crc (l.set k d) = crc l) : d = l.getD k 0 := by
  have e : l = l.take k ++ l.getD k 0 :: l.drop (k + 1) := by
    rw [List.getD_eq_getElem?_getD, List.getElem?_eq_getElem hk, Option.getD_some, List.getElem_cons_drop, List.take_append_drop]
  have e2 : l.set k d = l.take k ++ d :: l.drop (k + 1) := by rw [List.set_eq_take_append_cons_drop, if_pos hk]
  have hs : (4294967295 : Nat) < 4294967296 := by decide
  have h1 := crcRun_lt (l.set k d) hs
  have h2 := crcRun_lt l hs
  unfold crc at h
  have h3 : crcRun 4294967295 (l.set k d) = crcRun 4294967295 l := by omega
  rw [e2] at h3
  conv at h3 => rhs; rw [e]
  rw [crcRun_append, crcRun_append] at h3
  have hr := crcRun_lt (l.take k) hs
  exact crcStep_byte (crcRun_inj (l.drop (k + 1)) (crcStep_lt d hr) (crcStep_lt _ hr) h3)

/-- three bytes bit by bit -/
def xor3 (a b c : List UInt8) (k : Nat) : UInt8 := a.getD k 0 ^^^ b.getD k 0 ^^^ c.getD k 0

theorem crcStep_mix (x y z : Nat) (a b c : UInt8) : crcStep (x ^^^ y ^^^ z) (a ^^^ b ^^^ c) = crcStep x a ^^^ crcStep y b ^^^ crcStep z c := by
  simp only [crcStep_eq, UInt8.toNat_xor, xor_div256, xor_mod256, fallN_xor]
  ac_rfl

theorem crcRun_mix (n : Nat) : ∀ (a b c : List UInt8) (x y z : Nat), a.length = n → b.length = n → c.length = n →
    crcRun (x ^^^ y ^^^ z) ((List.range n).map (xor3 a b c)) = crcRun x a ^^^ crcRun y b ^^^ crcRun z c := by
  induction n with
  | zero =>
    intro a b c x y z ha hb hc
    rw [List.length_eq_zero_iff] at ha hb hc
    subst ha hb hc
    rfl
  | succ n ih =>
    intro a b c x y z ha hb hc
    cases a with | nil => simp at ha | cons a0 a =>
    cases b with | nil => simp at hb | cons b0 b =>
    cases c with | nil => simp at hc | cons c0 c =>
    simp only [List.length_cons, Nat.add_right_cancel_iff] at ha hb hc
    have e : (List.range (n + 1)).map (xor3 (a0 :: a) (b0 :: b) (c0 :: c)) = (a0 ^^^ b0 ^^^ c0) :: (List.range n).map (xor3 a b c) := by
      rw [List.range_succ_eq_map]
      simp [xor3, Function.comp_def]
    rw [e]
    show crcRun (crcStep (x ^^^ y ^^^ z) (a0 ^^^ b0 ^^^ c0)) _ = _
    rw [crcStep_mix, ih a b c _ _ _ ha hb hc]
    rfl

theorem comp_xor {x : Nat} (h : x < 4294967296) : 4294967295 - x = 4294967295 ^^^ x := by
  have e := @Nat.testBit_two_pow_sub_succ x 32 (by omega)
  apply Nat.eq_of_testBit_eq
  intro i
  have h1 : 4294967295 - x = 2 ^ 32 - (x + 1) := by omega
  rw [h1, e, Nat.testBit_xor, show (4294967295 : Nat) = 2 ^ 32 - 1 from rfl, Nat.testBit_two_pow_sub_one]
  by_cases hi : i < 32
  · simp [hi]
  · have : x.testBit i = false := Nat.testBit_lt_two_pow (Nat.lt_of_lt_of_le (show x < 2 ^ 32 from h) (Nat.pow_le_pow_right (by omega) (by omega)))
    simp [hi, this]

/-- the sums of three rows come, bit by bit, to that of the rows bit by bit -/
theorem crc_mix (n : Nat) (a b c : List UInt8) (ha : a.length = n) (hb : b.length = n) (hc : c.length = n) :
    crc ((List.range n).map (xor3 a b c)) = crc a ^^^ crc b ^^^ crc c := by
  have hs : (4294967295 : Nat) < 4294967296 := by decide
  have h := crcRun_mix n a b c 4294967295 4294967295 4294967295 ha hb hc
  rw [Nat.xor_self, Nat.zero_xor] at h
  unfold crc
  rw [h, comp_xor (crcRun_lt a hs), comp_xor (crcRun_lt b hs), comp_xor (crcRun_lt c hs), comp_xor]
  · generalize crcRun 4294967295 a = p
    generalize crcRun 4294967295 b = q
    generalize crcRun 4294967295 c = r
    have : 4294967295 ^^^ p ^^^ (4294967295 ^^^ q) ^^^ (4294967295 ^^^ r) = (4294967295 ^^^ 4294967295) ^^^ (4294967295 ^^^ (p ^^^ q ^^^ r)) := by ac_rfl
    rw [this, Nat.xor_self, Nat.zero_xor]
  · exact Nat.xor_lt_two_pow (n := 32) (Nat.xor_lt_two_pow (n := 32) (crcRun_lt a hs) (crcRun_lt b hs)) (crcRun_lt c hs)

end Go.Proofs.Ytddalnmoahpljaa

