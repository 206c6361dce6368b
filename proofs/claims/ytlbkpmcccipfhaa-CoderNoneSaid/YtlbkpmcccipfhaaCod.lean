/- Bits coded by their chances, and decoded: by plain numbers. No program is named here. -/
import Derived.Test.YtlbkpmcccipfhaaGfb
import Derived.Test.YtlbkpmcccipfhaaMdl
namespace Go.Proofs.Ytlbkpmcccipfhaa
open Go.RowKit
set_option linter.unusedVariables false
set_option maxRecDepth 100000

/-! Numbers by bytes, the highest first. -/
def bgN (l : List UInt8) : Nat := leN l.reverse
def bgB (n x : Nat) : List UInt8 := (leB n x).reverse
theorem bgB_len (n x : Nat) : (bgB n x).length = n := by rw [bgB, List.length_reverse, leB_len]
theorem bgN_lt (l : List UInt8) : bgN l < 256 ^ l.length := by have := leN_lt l.reverse; rwa [List.length_reverse] at this
theorem bgN_bgB {n x : Nat} (h : x < 256 ^ n) : bgN (bgB n x) = x := by rw [bgN, bgB, List.reverse_reverse, leN_leB n x h]
theorem bgB_bgN (l : List UInt8) : bgB l.length (bgN l) = l := by
  have := leB_leN l.reverse
  rw [List.length_reverse] at this
  rw [bgB, bgN, this, List.reverse_reverse]
theorem bgN_inj {l m : List UInt8} (h : l.length = m.length) (e : bgN l = bgN m) : l = m := by rw [← bgB_bgN l, ← bgB_bgN m, h, e]
theorem bgN_snoc (l : List UInt8) (a : UInt8) : bgN (l ++ [a]) = bgN l * 256 + a.toNat := by
  rw [bgN, List.reverse_append, List.reverse_singleton, List.singleton_append, leN, bgN]; omega
theorem bgB_snoc (n x : Nat) : bgB (n + 1) (x * 256) = bgB n x ++ [0] := by
  rw [bgB, leB, List.reverse_cons, Nat.mul_div_cancel _ (by decide), ← bgB]
  congr 2
  apply UInt8.toNat_inj.1
  simp
theorem bgN_append : ∀ (m l : List UInt8), bgN (l ++ m) = bgN l * 256 ^ m.length + bgN m
  | [], l => by simp [bgN, leN]
  | a :: m, l => by
    have e1 := bgN_append m (l ++ [a])
    have e2 := bgN_append m [a]
    have e3 : bgN [a] = a.toNat := by simp [bgN, leN]
    rw [List.append_assoc, List.singleton_append] at e1
    rw [List.singleton_append, e3] at e2
    rw [e1, e2, bgN_snoc, List.length_cons, Nat.pow_succ, Nat.add_mul, Nat.mul_assoc (bgN l), Nat.mul_comm 256]
    omega
theorem bgN_take (l : List UInt8) (n : Nat) : bgN (l.take n) = bgN l / 256 ^ (l.length - n) := by
  have e := bgN_append (l.drop n) (l.take n)
  rw [List.take_append_drop, List.length_drop] at e
  have hb := bgN_lt (l.drop n)
  rw [List.length_drop] at hb
  rw [e, Nat.mul_comm, Nat.mul_add_div (Nat.pow_pos (by decide)), Nat.div_eq_of_lt hb, Nat.add_zero]
/-! A coder. -/
/-- what is written, how wide, how often moved -/
structure Cd where
  low : Nat
  w : Nat
  k : Nat
def Cd.new : Cd := ⟨0, 4294967295, 0⟩
structure Cd.ok (c : Cd) : Prop where
  lo : 16777216 ≤ c.w
  hi : c.w < 4294967296
  fit : c.low + c.w ≤ 4294967296 * 256 ^ c.k
def Cd.str (c : Cd) : Cd := if c.w < 16777216 then ⟨c.low * 256, c.w * 256, c.k + 1⟩ else c
def bnd (w : Nat) (p : Int) : Nat := w / 2048 * holdI p
/-- one bit: the part of a 0 is b wide, that of a 1 w1 -/
def Cd.step (c : Cd) (b w1 : Nat) (z : Bool) : Cd := Cd.str (if z then ⟨c.low, b, c.k⟩ else ⟨c.low + b, w1, c.k⟩)
def Cd.bit (c : Cd) (p : Int) (z : Bool) : Cd := c.step (bnd c.w p) (c.w - bnd c.w p) z
def Cd.half (c : Cd) (z : Bool) : Cd := c.step (c.w / 2) (c.w / 2) z
def Cd.out (c : Cd) : List UInt8 := bgB (4 + c.k) c.low
theorem Cd.new_ok : Cd.new.ok := ⟨by decide, by decide, by decide⟩
theorem Cd.str_ok {c : Cd} (h1 : 65536 ≤ c.w) (h2 : c.w < 4294967296) (h3 : c.low + c.w ≤ 4294967296 * 256 ^ c.k) : c.str.ok := by
  unfold Cd.str
  split
  · refine ⟨by show 16777216 ≤ c.w * 256; omega, by show c.w * 256 < 4294967296; omega, ?_⟩
    show c.low * 256 + c.w * 256 ≤ 4294967296 * 256 ^ (c.k + 1)
    rw [Nat.pow_succ, ← Nat.mul_assoc]
    generalize 4294967296 * 256 ^ c.k = q at *
    omega
  · exact ⟨by omega, h2, h3⟩
theorem bnd_lo {w : Nat} (h1 : 16777216 ≤ w) (p : Int) : 65536 ≤ bnd w p := by
  have h3 := holdI_lo p
  have a : 8192 * 31 ≤ w / 2048 * holdI p := Nat.mul_le_mul (by omega) h3
  unfold bnd
  omega
theorem bnd_hi (w : Nat) (p : Int) : bnd w p + w / 2048 * 31 ≤ w := by
  have h3 := holdI_hi p
  have a : w / 2048 * holdI p ≤ w / 2048 * 2017 := Nat.mul_le_mul_left _ h3
  unfold bnd
  omega
theorem bnd_rest {w : Nat} (h1 : 16777216 ≤ w) (p : Int) : 65536 ≤ w - bnd w p := by
  have := bnd_hi w p
  omega
theorem Cd.step_ok {c : Cd} (h : c.ok) {b w1 : Nat} (z : Bool) (hb : 65536 ≤ b) (hw : 65536 ≤ w1) (hs : b + w1 ≤ c.w) : (c.step b w1 z).ok := by
  have h2 := h.hi
  have h3 := h.fit
  unfold Cd.step
  cases z
  · exact Cd.str_ok hw (by show w1 < _; omega) (by show c.low + b + w1 ≤ 4294967296 * 256 ^ c.k; omega)
  · exact Cd.str_ok hb (by show b < _; omega) (by show c.low + b ≤ 4294967296 * 256 ^ c.k; omega)
theorem Cd.bit_ok {c : Cd} (h : c.ok) (p : Int) (z : Bool) : (c.bit p z).ok := by
  have := bnd_hi c.w p
  exact Cd.step_ok h z (bnd_lo h.lo p) (bnd_rest h.lo p) (by omega)
theorem Cd.half_ok {c : Cd} (h : c.ok) (z : Bool) : (c.half z).ok := by
  have := h.lo
  exact Cd.step_ok h z (by omega) (by omega) (by omega)
theorem pow4 (k : Nat) : 256 ^ (4 + k) = 4294967296 * 256 ^ k := by rw [Nat.pow_add]
theorem Cd.low_lt {c : Cd} (h : c.ok) : c.low < 256 ^ (4 + c.k) := by
  have := h.lo
  have := h.fit
  rw [pow4]; omega
theorem Cd.out_len (c : Cd) : c.out.length = 4 + c.k := bgB_len _ _
theorem Cd.out_num {c : Cd} (h : c.ok) : bgN c.out = c.low := bgN_bgB (Cd.low_lt h)
theorem Cd.out_str (low w k : Nat) (h : w < 16777216) : (Cd.str ⟨low, w, k⟩).out = (Cd.mk low w k).out ++ [0] := by
  unfold Cd.str
  rw [if_pos h]
  show bgB (4 + (k + 1)) (low * 256) = bgB (4 + k) low ++ [0]
  rw [← Nat.add_assoc, bgB_snoc]
/-- a row of bits with chances: 0: none -/
def Cd.put (c : Cd) (p : Int) (z : Bool) : Cd := if p = 0 then c.half z else c.bit p z
def cutB (c : Cd) (p : Int) : Nat := if p = 0 then c.w / 2 else bnd c.w p
def cutW (c : Cd) (p : Int) : Nat := if p = 0 then c.w / 2 else c.w - bnd c.w p
theorem Cd.put_step (c : Cd) (p : Int) (z : Bool) : c.put p z = c.step (cutB c p) (cutW c p) z := by
  unfold Cd.put cutB cutW
  split <;> rfl
theorem cut_ok {c : Cd} (h : c.ok) (p : Int) : 65536 ≤ cutB c p ∧ 65536 ≤ cutW c p ∧ cutB c p + cutW c p ≤ c.w := by
  have h1 := h.lo
  have h2 := bnd_hi c.w p
  have h3 := bnd_lo h1 p
  unfold cutB cutW
  split <;> omega
theorem Cd.put_ok {c : Cd} (h : c.ok) (p : Int) (z : Bool) : (c.put p z).ok := by
  obtain ⟨a, b, d⟩ := cut_ok h p
  rw [Cd.put_step]
  exact Cd.step_ok h z a b d
def Cd.puts : Cd → List (Int × Bool) → Cd
  | c, [] => c
  | c, x :: l => (c.put x.1 x.2).puts l
theorem Cd.puts_ok : ∀ (l : List (Int × Bool)) {c : Cd}, c.ok → (c.puts l).ok
  | [], _, h => h
  | x :: l, _, h => Cd.puts_ok l (Cd.put_ok h x.1 x.2)
theorem Cd.puts_append : ∀ (l m : List (Int × Bool)) (c : Cd), c.puts (l ++ m) = (c.puts l).puts m
  | [], _, _ => rfl
  | x :: l, m, c => by rw [List.cons_append, Cd.puts, Cd.puts, Cd.puts_append l m]
/-! Within one another. -/
/-- d lies within c -/
structure Cd.In (c d : Cd) : Prop where
  k : c.k ≤ d.k
  lo : c.low * 256 ^ (d.k - c.k) ≤ d.low
  hi : d.low + d.w ≤ (c.low + c.w) * 256 ^ (d.k - c.k)
theorem Cd.In.refl (c : Cd) : c.In c := ⟨Nat.le_refl _, by simp, by simp⟩
theorem Cd.In.trans {c d e : Cd} (h : c.In d) (i : d.In e) : c.In e := by
  have hk : e.k - c.k = (d.k - c.k) + (e.k - d.k) := by have := h.k; have := i.k; omega
  refine ⟨Nat.le_trans h.k i.k, ?_, ?_⟩
  · rw [hk, Nat.pow_add, ← Nat.mul_assoc]
    exact Nat.le_trans (Nat.mul_le_mul_right _ h.lo) i.lo
  · rw [hk, Nat.pow_add, ← Nat.mul_assoc]
    exact Nat.le_trans i.hi (Nat.mul_le_mul_right _ h.hi)
theorem Cd.In.str (c : Cd) : c.In c.str := by
  unfold Cd.str
  split
  · refine ⟨by show c.k ≤ c.k + 1; omega, ?_, ?_⟩
    · show c.low * 256 ^ (c.k + 1 - c.k) ≤ c.low * 256
      rw [show c.k + 1 - c.k = 1 by omega]; simp
    · show c.low * 256 + c.w * 256 ≤ (c.low + c.w) * 256 ^ (c.k + 1 - c.k)
      rw [show c.k + 1 - c.k = 1 by omega]; omega
  · exact Cd.In.refl c
/-- the part of a bit, ahead of moving -/
def Cd.part (c : Cd) (b w1 : Nat) (z : Bool) : Cd := if z then ⟨c.low, b, c.k⟩ else ⟨c.low + b, w1, c.k⟩
theorem Cd.In.part {c : Cd} {b w1 : Nat} (z : Bool) (hs : b + w1 ≤ c.w) : c.In (c.part b w1 z) := by
  cases z
  · exact ⟨Nat.le_refl _, by simp [Cd.part], by simp [Cd.part]; omega⟩
  · exact ⟨Nat.le_refl _, by simp [Cd.part], by simp [Cd.part]; omega⟩
theorem Cd.In.put {c : Cd} (h : c.ok) (p : Int) (z : Bool) : (c.part (cutB c p) (cutW c p) z).In (c.put p z) := by
  rw [Cd.put_step]
  exact Cd.In.str _
theorem Cd.In.put' {c : Cd} (h : c.ok) (p : Int) (z : Bool) : c.In (c.put p z) := (Cd.In.part z (cut_ok h p).2.2).trans (Cd.In.put h p z)
theorem Cd.In.puts : ∀ (l : List (Int × Bool)) {c : Cd}, c.ok → c.In (c.puts l)
  | [], c, _ => Cd.In.refl c
  | x :: l, _, h => (Cd.In.put' h x.1 x.2).trans (Cd.In.puts l (Cd.put_ok h x.1 x.2))
/-- alike up to one bit: what has a 0 there comes to less -/
theorem cod_less {c x y : Cd} {b w1 : Nat} (hx : (c.part b w1 true).In x) (hy : (c.part b w1 false).In y) (hxw : 0 < x.w) : x.low * 256 ^ y.k < y.low * 256 ^ x.k := by
  have x1 := hx.k
  have x2 := hx.hi
  have y1 := hy.k
  have y2 := hy.lo
  simp only [Cd.part, if_true] at x1 x2
  simp only [Cd.part, Bool.false_eq_true, if_false] at y1 y2
  have ex : 256 ^ x.k = 256 ^ c.k * 256 ^ (x.k - c.k) := by rw [← Nat.pow_add]; congr 1; omega
  have ey : 256 ^ y.k = 256 ^ c.k * 256 ^ (y.k - c.k) := by rw [← Nat.pow_add]; congr 1; omega
  have hX : 0 < 256 ^ (x.k - c.k) := Nat.pow_pos (by decide)
  have hY : 0 < 256 ^ (y.k - c.k) := Nat.pow_pos (by decide)
  have hC : 0 < 256 ^ c.k := Nat.pow_pos (by decide)
  rw [ex, ey]
  generalize 256 ^ (x.k - c.k) = X at *
  generalize 256 ^ (y.k - c.k) = Y at *
  generalize 256 ^ c.k = K at *
  have h1 : x.low * Y < (c.low + b) * X * Y := Nat.mul_lt_mul_of_pos_right (by omega) hY
  have h2 : (c.low + b) * Y * X ≤ y.low * X := Nat.mul_le_mul_right X y2
  have e3 : (c.low + b) * X * Y = (c.low + b) * Y * X := by rw [Nat.mul_assoc, Nat.mul_comm X, ← Nat.mul_assoc]
  have h4 : x.low * Y < y.low * X := by omega
  have := Nat.mul_lt_mul_of_pos_right h4 hC
  rw [Nat.mul_comm K Y, Nat.mul_comm K X, ← Nat.mul_assoc, ← Nat.mul_assoc]
  exact this
/-! Bytes compared from the front. -/
theorem bg_first {l m : List UInt8} (hl : l.length = m.length) {i : Nat} (hi : i < l.length) (he : l.take i = m.take i) (h : bgN l < bgN m) (hne : l.getD i 0 ≠ m.getD i 0) : (l.getD i 0).toNat < (m.getD i 0).toNat := by
  have e1 := bgN_append (l.drop (i + 1)) (l.take (i + 1))
  have e2 := bgN_append (m.drop (i + 1)) (m.take (i + 1))
  have t1 : l.take (i + 1) = l.take i ++ [l.getD i 0] := by rw [List.take_succ_eq_append_getElem hi]; simp [List.getD, hi]
  have t2 : m.take (i + 1) = m.take i ++ [m.getD i 0] := by rw [List.take_succ_eq_append_getElem (by omega)]; simp [List.getD, show i < m.length by omega]
  rw [List.take_append_drop, t1, bgN_snoc, List.length_drop] at e1
  rw [List.take_append_drop, t2, bgN_snoc, ← he, List.length_drop, ← hl] at e2
  have b2 := bgN_lt (m.drop (i + 1))
  rw [List.length_drop, ← hl] at b2
  have hne2 : (l.getD i 0).toNat ≠ (m.getD i 0).toNat := fun h => hne (UInt8.toNat_inj.1 h)
  generalize (l.getD i 0).toNat = a at *
  generalize (m.getD i 0).toNat = b at *
  generalize 256 ^ (l.length - (i + 1)) = P at *
  refine Nat.lt_of_le_of_ne (Nat.not_lt.1 fun hab => ?_) hne2
  have h3 : (bgN (l.take i) * 256 + (b + 1)) * P ≤ (bgN (l.take i) * 256 + a) * P := Nat.mul_le_mul_right P (by omega)
  rw [← Nat.add_assoc, Nat.add_mul _ 1, Nat.one_mul] at h3
  omega
/-! A decoder. -/
structure Dd where
  code : Nat
  w : Nat
  need : Nat
def Dd.new : Dd := ⟨0, 4294967295, 4⟩
def Dd.byte (d : Dd) (b : UInt8) : Dd := if d.need = 0 then d else ⟨d.code * 256 + b.toNat, d.w, d.need - 1⟩
def Dd.lost (d : Dd) : Bool := decide (d.need = 0) && decide (d.w ≤ d.code)
def Dd.clean (d : Dd) : Bool := decide (d.need = 0) && decide (d.code = 0)
/-- it decodes nothing -/
def Dd.idle (d : Dd) : Bool := decide (0 < d.need) || d.lost
def Dd.str (d : Dd) : Dd := if d.w < 16777216 then ⟨d.code, d.w * 256, 1⟩ else d
/-- the bit: is it a 0? -/
def Dd.zb (d : Dd) (b : Nat) : Bool := decide (d.code < b)
def Dd.step (d : Dd) (b w1 : Nat) : Dd := Dd.str (if d.zb b then ⟨d.code, b, 0⟩ else ⟨d.code - b, w1, 0⟩)
def Dd.bit (d : Dd) (p : Int) : Dd := if d.idle then d else d.step (bnd d.w p) (d.w - bnd d.w p)
def Dd.half (d : Dd) : Dd := if d.idle then d else d.step (d.w / 2) (d.w / 2)
/-- a bit's number -/
def Dd.bitV (d : Dd) (p : Int) : Nat := if d.idle then 0 else if d.zb (bnd d.w p) then 0 else 1
def Dd.bitP (d : Dd) (p : Int) : Nat := if d.idle then holdI p else adN (holdI p) (d.zb (bnd d.w p))
def Dd.halfV (d : Dd) : Nat := if d.idle then 0 else if d.zb (d.w / 2) then 0 else 1
structure Dd.ok (d : Dd) : Prop where
  lo : 16777216 ≤ d.w
  hi : d.w < 4294967296
  n4 : d.need ≤ 4
  fit : d.code * 256 ^ d.need ≤ 4294967296 + 255
theorem Dd.new_ok : Dd.new.ok := ⟨by decide, by decide, by decide, by decide⟩
theorem Dd.code_le {d : Dd} (h : d.ok) : d.code ≤ 4294967551 := by
  have := h.fit
  have hp : 0 < 256 ^ d.need := Nat.pow_pos (by decide)
  exact Nat.le_trans (Nat.le_mul_of_pos_right _ hp) this
/-- a decoder whose code fits beside a byte more -/
structure Dd.fine (d : Dd) : Prop where
  ok : d.ok
  room : d.code * 256 ^ d.need + 256 ^ d.need ≤ 4294967296 + 256
theorem Dd.new_fine : Dd.new.fine := ⟨Dd.new_ok, by decide⟩
theorem Dd.byte_fine {d : Dd} (h : d.fine) (b : UInt8) : (d.byte b).fine := by
  unfold Dd.byte
  split
  · exact h
  · rename_i hn
    obtain ⟨m, hm⟩ : ∃ m, d.need = m + 1 := ⟨d.need - 1, by omega⟩
    have hr := h.room
    have hb := b.toNat_lt
    have hf : (d.code * 256 + b.toNat) * 256 ^ m + 256 ^ m ≤ d.code * 256 ^ d.need + 256 ^ d.need := by
      rw [hm, Nat.pow_succ, Nat.add_mul]
      have h1 : b.toNat * 256 ^ m ≤ 255 * 256 ^ m := Nat.mul_le_mul_right _ (by omega)
      have h2 : d.code * (256 ^ m * 256) = d.code * 256 * 256 ^ m := by rw [Nat.mul_comm (256 ^ m), ← Nat.mul_assoc]
      rw [h2]
      omega
    have hp : 0 < 256 ^ m := Nat.pow_pos (by decide)
    refine ⟨⟨h.ok.lo, h.ok.hi, by show d.need - 1 ≤ 4; have := h.ok.n4; omega, ?_⟩, ?_⟩
    · show (d.code * 256 + b.toNat) * 256 ^ (d.need - 1) ≤ _
      rw [hm, Nat.add_sub_cancel]; omega
    · show (d.code * 256 + b.toNat) * 256 ^ (d.need - 1) + 256 ^ (d.need - 1) ≤ _
      rw [hm, Nat.add_sub_cancel]; omega
theorem Dd.idle_no {d : Dd} (h : d.idle = false) : d.need = 0 ∧ d.code < d.w := by
  unfold Dd.idle Dd.lost at h
  simp at h
  obtain ⟨h1, h2⟩ := h
  exact ⟨h1, h2 h1⟩
theorem Dd.step_fine {d : Dd} (h : d.fine) (hi : d.idle = false) {b w1 : Nat} (hb : 65536 ≤ b) (hw : 65536 ≤ w1) (hs : b + w1 ≤ d.w) (h1 : d.w ≤ b + w1 + 1) : (d.step b w1).fine := by
  obtain ⟨hn, hc⟩ := Dd.idle_no hi
  have hh := h.ok.hi
  have key : ∀ c w : Nat, 65536 ≤ w → w < 4294967296 → c ≤ w → (Dd.str ⟨c, w, 0⟩).fine := by
    intro c w a1 a2 a3
    unfold Dd.str
    by_cases hl : w < 16777216
    · rw [if_pos (show (Dd.mk c w 0).w < 16777216 from hl)]
      exact ⟨⟨by show 16777216 ≤ w * 256; omega, by show w * 256 < 4294967296; omega, by show 1 ≤ 4; omega, by show c * 256 ^ 1 ≤ 4294967296 + 255; omega⟩, by show c * 256 ^ 1 + 256 ^ 1 ≤ 4294967296 + 256; omega⟩
    · rw [if_neg (show ¬ (Dd.mk c w 0).w < 16777216 from hl)]
      exact ⟨⟨by show 16777216 ≤ w; omega, a2, by show 0 ≤ 4; omega, by show c * 256 ^ 0 ≤ 4294967296 + 255; omega⟩, by show c * 256 ^ 0 + 256 ^ 0 ≤ 4294967296 + 256; omega⟩
  unfold Dd.step Dd.zb
  by_cases hz : d.code < b
  · rw [decide_eq_true hz]
    exact key _ _ hb (by omega) (by omega)
  · rw [decide_eq_false hz]
    exact key _ _ hw (by omega) (by omega)
theorem Dd.bit_fine {d : Dd} (h : d.fine) (p : Int) : (d.bit p).fine := by
  unfold Dd.bit
  cases hi : d.idle
  · rw [if_neg (by decide)]
    have := bnd_hi d.w p
    exact Dd.step_fine h hi (bnd_lo h.ok.lo p) (bnd_rest h.ok.lo p) (by omega) (by omega)
  · rw [if_pos rfl]; exact h
theorem Dd.half_fine {d : Dd} (h : d.fine) : d.half.fine := by
  unfold Dd.half
  cases hi : d.idle
  · rw [if_neg (by decide)]
    have := h.ok.lo
    exact Dd.step_fine h hi (by omega) (by omega) (by omega) (by omega)
  · rw [if_pos rfl]; exact h
end Go.Proofs.Ytlbkpmcccipfhaa

