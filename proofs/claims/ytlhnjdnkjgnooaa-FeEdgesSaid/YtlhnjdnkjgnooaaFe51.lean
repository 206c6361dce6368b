/- Numbers modulo 2^255 - 19 by five limbs of 51 bits: carrying, the product, what is left when it is reduced. No program is named here. -/
import Derived.Test.YtlhnjdnkjgnooaaFeN
namespace Go.Proofs.Ytlhnjdnkjgnooaa
set_option linter.unusedVariables false
set_option maxRecDepth 100000

abbrev M51 : Nat := 2251799813685248
abbrev M102 : Nat := 5070602400912917605986812821504
abbrev M153 : Nat := 11417981541647679048466287755595961091061972992
abbrev M204 : Nat := 25711008708143844408671393477458601640355247900524685364822016
/-- five limbs, the lowest first -/
def val5 (a b c d e : Nat) : Nat := a + b * M51 + c * M102 + d * M153 + e * M204
theorem val5_carry (a b c d e : Nat) : val5 (a % M51 + 19 * (e / M51)) (b % M51 + a / M51) (c % M51 + b / M51) (d % M51 + c / M51) (e % M51 + d / M51) + (e / M51) * PP = val5 a b c d e := by
  unfold val5
  unfold M51 M102 M153 M204 PP
  omega
theorem val5_mod {a b c d e : Nat} : val5 (a % M51 + 19 * (e / M51)) (b % M51 + a / M51) (c % M51 + b / M51) (d % M51 + c / M51) (e % M51 + d / M51) % PP = val5 a b c d e % PP := by
  rw [← val5_carry a b c d e, Nat.add_mul_mod_self_right]
theorem val5_add (a b c d e a' b' c' d' e' : Nat) : val5 (a + a') (b + b') (c + c') (d + d') (e + e') = val5 a b c d e + val5 a' b' c' d' e' := by
  unfold val5; unfold M51 M102 M153 M204; omega
/-- a number's bound -/
abbrev L51 : Nat := 2251799813947392
theorem val5_lt {a b c d e : Nat} (ha : a < L51) (hb : b < L51) (hc : c < L51) (hd : d < L51) (he : e < L51) : val5 a b c d e + 38 < 2 * TT := by
  unfold val5 M51 M102 M153 M204 TT
  unfold L51 at *
  omega
theorem val5_sub {a b c d e a' b' c' d' e' : Nat} (ha : a' < L51) (hb : b' < L51) (hc : c' < L51) (hd : d' < L51) (he : e' < L51) :
    val5 (a + 4503599627370458 - a') (b + 4503599627370494 - b') (c + 4503599627370494 - c') (d + 4503599627370494 - d') (e + 4503599627370494 - e') + val5 a' b' c' d' e' = val5 a b c d e + 2 * PP := by
  unfold val5 M51 M102 M153 M204 PP
  unfold L51 at *
  omega
theorem sub_mod {x y s : Nat} (h : s + y = x + 2 * PP) : s % PP = (x % PP + (PP - y % PP)) % PP := by
  unfold PP at *; omega
theorem add_mod5 (x y : Nat) : (x + y) % PP = (x % PP + y % PP) % PP := Nat.add_mod x y PP
theorem mul_id (x0 x1 x2 x3 x4 y0 y1 y2 y3 y4 m t : Nat) (h : m * m * m * m * m = t + 19) :
    (x0 + x1 * m + x2 * (m * m) + x3 * (m * m * m) + x4 * (m * m * m * m)) * (y0 + y1 * m + y2 * (m * m) + y3 * (m * m * m) + y4 * (m * m * m * m)) =
    (x0 * y0 + x1 * (19 * y4) + x2 * (19 * y3) + x3 * (19 * y2) + x4 * (19 * y1)) + (x0 * y1 + x1 * y0 + x2 * (19 * y4) + x3 * (19 * y3) + x4 * (19 * y2)) * m +
    (x0 * y2 + x1 * y1 + x2 * y0 + x3 * (19 * y4) + x4 * (19 * y3)) * (m * m) + (x0 * y3 + x1 * y2 + x2 * y1 + x3 * y0 + x4 * (19 * y4)) * (m * m * m) +
    (x0 * y4 + x1 * y3 + x2 * y2 + x3 * y1 + x4 * y0) * (m * m * m * m) +
    (x1 * y4 + x2 * y3 + x3 * y2 + x4 * y1 + (x2 * y4 + x3 * y3 + x4 * y2) * m + (x3 * y4 + x4 * y3) * (m * m) + x4 * y4 * (m * m * m)) * t := by
  have ht : ∀ k : Nat, k * t + k * 19 = k * (m * m * m * m * m) := fun k => by rw [h, Nat.mul_add]
  grind
theorem val5_mul (x0 x1 x2 x3 x4 y0 y1 y2 y3 y4 : Nat) :
    val5 (x0 * y0 + x1 * (19 * y4) + x2 * (19 * y3) + x3 * (19 * y2) + x4 * (19 * y1)) (x0 * y1 + x1 * y0 + x2 * (19 * y4) + x3 * (19 * y3) + x4 * (19 * y2))
      (x0 * y2 + x1 * y1 + x2 * y0 + x3 * (19 * y4) + x4 * (19 * y3)) (x0 * y3 + x1 * y2 + x2 * y1 + x3 * y0 + x4 * (19 * y4)) (x0 * y4 + x1 * y3 + x2 * y2 + x3 * y1 + x4 * y0) % PP =
    (val5 x0 x1 x2 x3 x4 % PP * (val5 y0 y1 y2 y3 y4 % PP)) % PP := by
  have h := mul_id x0 x1 x2 x3 x4 y0 y1 y2 y3 y4 M51 PP (by decide)
  have e2 : M51 * M51 = M102 := by decide
  have e3 : M51 * M51 * M51 = M153 := by decide
  have e4 : M51 * M51 * M51 * M51 = M204 := by decide
  rw [e4, e3, e2] at h
  rw [← Nat.mul_mod]
  unfold val5
  rw [h, Nat.add_mul_mod_self_right]
/-- what is reduced: over is 1 exactly from the prime on -/
theorem reduced_val {a b c d e : Nat} (ha : a < L51) (hb : b < L51) (hc : c < L51) (hd : d < L51) (he : e < L51) {o1 o2 o3 o4 o5 l0 l1 l2 l3 l4 : Nat}
    (h1 : o1 = (a + 19) / M51) (h2 : o2 = (b + o1) / M51) (h3 : o3 = (c + o2) / M51) (h4 : o4 = (d + o3) / M51) (h5 : o5 = (e + o4) / M51)
    (k0 : l0 = a + 19 * o5) (k1 : l1 = b + l0 / M51) (k2 : l2 = c + l1 / M51) (k3 : l3 = d + l2 / M51) (k4 : l4 = e + l3 / M51) :
    val5 (l0 % M51) (l1 % M51) (l2 % M51) (l3 % M51) (l4 % M51) = val5 a b c d e % PP := by
  have hv := val5_lt ha hb hc hd he
  have e1 : val5 a b c d e + 19 = (val5 ((a + 19) % M51) ((b + o1) % M51) ((c + o2) % M51) ((d + o3) % M51) ((e + o4) % M51)) + o5 * TT := by
    unfold val5 M102 M153 M204 TT
    unfold M51 at *
    omega
  have b1 : val5 ((a + 19) % M51) ((b + o1) % M51) ((c + o2) % M51) ((d + o3) % M51) ((e + o4) % M51) < TT := by
    have := Nat.mod_lt (a + 19) (show M51 > 0 by decide)
    have := Nat.mod_lt (b + o1) (show M51 > 0 by decide)
    have := Nat.mod_lt (c + o2) (show M51 > 0 by decide)
    have := Nat.mod_lt (d + o3) (show M51 > 0 by decide)
    have := Nat.mod_lt (e + o4) (show M51 > 0 by decide)
    generalize (a + 19) % M51 = r0 at *
    generalize (b + o1) % M51 = r1 at *
    generalize (c + o2) % M51 = r2 at *
    generalize (d + o3) % M51 = r3 at *
    generalize (e + o4) % M51 = r4 at *
    clear h1 h2 h3 h4 h5 k0 k1 k2 k3 k4 e1
    unfold val5 M102 M153 M204 TT
    unfold M51 at *
    omega
  have e2 : val5 (l0 % M51) (l1 % M51) (l2 % M51) (l3 % M51) (l4 % M51) + (l4 / M51) * TT = val5 a b c d e + 19 * o5 := by
    clear h1 h2 h3 h4 h5 e1 b1 hv
    unfold val5 M102 M153 M204 TT
    unfold M51 at *
    omega
  have b2 : val5 (l0 % M51) (l1 % M51) (l2 % M51) (l3 % M51) (l4 % M51) < TT := by
    have := Nat.mod_lt l0 (show M51 > 0 by decide)
    have := Nat.mod_lt l1 (show M51 > 0 by decide)
    have := Nat.mod_lt l2 (show M51 > 0 by decide)
    have := Nat.mod_lt l3 (show M51 > 0 by decide)
    have := Nat.mod_lt l4 (show M51 > 0 by decide)
    generalize l0 % M51 = r0 at *
    generalize l1 % M51 = r1 at *
    generalize l2 % M51 = r2 at *
    generalize l3 % M51 = r3 at *
    generalize l4 % M51 = r4 at *
    clear h1 h2 h3 h4 h5 k0 k1 k2 k3 k4 e1 e2 b1
    unfold val5 M102 M153 M204 TT
    unfold M51 at *
    omega
  generalize val5 (l0 % M51) (l1 % M51) (l2 % M51) (l3 % M51) (l4 % M51) = R at *
  generalize val5 ((a + 19) % M51) ((b + o1) % M51) ((c + o2) % M51) ((d + o3) % M51) ((e + o4) % M51) = S at *
  generalize val5 a b c d e = V at *
  generalize l4 / M51 = q at *
  clear h1 h2 h3 h4 h5 k0 k1 k2 k3 k4 ha hb hc hd he
  unfold TT at *
  unfold PP
  have : o5 = 0 ∨ o5 = 1 := by omega
  rcases this with rfl | rfl
  · have : q = 0 := by omega
    subst this
    omega
  · have : q = 1 := by omega
    subst this
    omega
theorem val5_lim {a b c d e : Nat} (ha : a < M51) (hb : b < M51) (hc : c < M51) (hd : d < M51) (he : e < M51) : val5 a b c d e < TT := by
  unfold val5 M102 M153 M204 TT; unfold M51 at *; omega
/-- five limbs of a number below 2^255 are told by it -/
theorem val5_inj {a b c d e a' b' c' d' e' : Nat} (ha : a < M51) (hb : b < M51) (hc : c < M51) (hd : d < M51) (ha' : a' < M51) (hb' : b' < M51) (hc' : c' < M51) (hd' : d' < M51)
    (h : val5 a b c d e = val5 a' b' c' d' e') : a = a' ∧ b = b' ∧ c = c' ∧ d = d' ∧ e = e' := by
  unfold val5 M102 M153 M204 at h; unfold M51 at *; omega
theorem val5_odd (a b c d e : Nat) : val5 a b c d e % 2 = a % 2 := by
  unfold val5 M51 M102 M153 M204; omega
/-- the limbs of 255 bits -/
theorem val5_bits (v : Nat) : val5 (v % M51) (v / M51 % M51) (v / M102 % M51) (v / M153 % M51) (v / M204 % M51) = v % TT := by
  unfold val5 M51 M102 M153 M204 TT; omega
end Go.Proofs.Ytlhnjdnkjgnooaa

