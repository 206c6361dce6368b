/- SHA-512 of a row of bytes, plainly: the state behind whole blocks, the sum, the way a sum's state is written down and read again. The sums of three texts, computed. Slice expressions of byte slices: heads, tails, parts. The contracts of the reference's High, count, words, over, bytes, flat. The contracts of the reference's over and flat. Rows of bytes that are alike are equal; an operation of a walked list whose whole run is known, its guard saying yes. -/
import Derived.Test.YtbkcglfdliicpaaGpre
import Derived.Test.YtbkcglfdliicpaaGbase
import Derived.Test.YtbkcglfdliicpaaGsim
import Derived.Laws.StructEq
import Derived.BigFrame
namespace Go.Proofs.Ytbkcglfdliicpaa
open Go.RowKit
set_option linter.unusedVariables false
set_option maxRecDepth 100000

/-! Numbers of eight bytes, the highest first. -/
def hiB (n : Nat) : List UInt8 := (List.range 8).map fun i => UInt8.ofNat (n / 2 ^ (56 - 8 * i))
theorem hiB_len (n : Nat) : (hiB n).length = 8 := by simp [hiB]
def beW (l : List UInt8) : W64 := l.foldl pushB 0
def nBe (l : List UInt8) : Nat := l.foldl (fun n b => n * 256 + b.toNat) 0
theorem pushB_nat (x : W64) (b : UInt8) : (pushB x b).toNat = (x.toNat * 256 + b.toNat) % 2 ^ 64 := by
  unfold pushB
  have hb := b.toNat_lt
  rw [BitVec.toNat_or, BitVec.toNat_shiftLeft, Nat.shiftLeft_eq, BitVec.toNat_ofNat, Nat.mod_eq_of_lt (a := b.toNat) (by omega)]
  have e : x.toNat * 2 ^ 8 % 2 ^ 64 = 2 ^ 8 * (x.toNat % 2 ^ 56) := by omega
  rw [e, ← Nat.two_pow_add_eq_or_of_lt (by omega)]
  omega
theorem beW_nat (l : List UInt8) : (beW l).toNat = nBe l % 2 ^ 64 := by
  have h : ∀ (l : List UInt8) (x : W64) (n : Nat), x.toNat = n % 2 ^ 64 → (l.foldl pushB x).toNat = l.foldl (fun n b => n * 256 + b.toNat) n % 2 ^ 64 := by
    intro l
    induction l with
    | nil => exact fun x n h => h
    | cons b l ih =>
      intro x n h
      rw [List.foldl_cons, List.foldl_cons]
      apply ih
      rw [pushB_nat, h]
      omega
  exact h l 0 0 (by simp)
theorem hiB_eq (n : Nat) : hiB n = [UInt8.ofNat (n / 72057594037927936), UInt8.ofNat (n / 281474976710656), UInt8.ofNat (n / 1099511627776), UInt8.ofNat (n / 4294967296), UInt8.ofNat (n / 16777216), UInt8.ofNat (n / 65536), UInt8.ofNat (n / 256), UInt8.ofNat (n / 1)] := rfl
theorem ofNat_nat (n : Nat) : (UInt8.ofNat n).toNat = n % 256 := by simp
theorem nBe_hiB {n : Nat} (h : n < 2 ^ 64) : nBe (hiB n) = n := by
  rw [hiB_eq]
  simp only [nBe, List.foldl_cons, List.foldl_nil, ofNat_nat]
  omega
theorem beW_hiB {n : Nat} (h : n < 2 ^ 64) : (beW (hiB n)).toNat = n := by
  rw [beW_nat, nBe_hiB h, Nat.mod_eq_of_lt h]
theorem beW_word (x : W64) : beW (hiB x.toNat) = x := by
  apply BitVec.eq_of_toNat_eq
  exact beW_hiB x.isLt
theorem u8_same {a b : UInt8} (h : a.toNat = b.toNat) : a = b := UInt8.toNat_inj.1 h
theorem hiB_nBe {l : List UInt8} (h : l.length = 8) : hiB (nBe l) = l ∧ nBe l < 2 ^ 64 := by
  match l, h with
  | [a, b, c, d, e, f, g, k], _ =>
    have ha := a.toNat_lt
    have hb := b.toNat_lt
    have hc := c.toNat_lt
    have hd := d.toNat_lt
    have he := e.toNat_lt
    have hf := f.toNat_lt
    have hg := g.toNat_lt
    have hk := k.toNat_lt
    simp only [nBe, List.foldl_cons, List.foldl_nil]
    constructor
    · rw [hiB_eq]
      simp only [List.cons.injEq, and_true]
      refine ⟨u8_same ?_, u8_same ?_, u8_same ?_, u8_same ?_, u8_same ?_, u8_same ?_, u8_same ?_, u8_same ?_⟩ <;> rw [ofNat_nat] <;> omega
    · omega
theorem hiB_beW {l : List UInt8} (h : l.length = 8) : hiB (beW l).toNat = l := by
  obtain ⟨h1, h2⟩ := hiB_nBe h
  rw [beW_nat, Nat.mod_eq_of_lt h2, h1]
theorem hiB_zero : hiB 0 = List.replicate 8 0 := by decide

/-! Words read from bytes. -/
/-- c words behind k bytes -/
def wordsK (c : Nat) (l : List UInt8) : Nat → List W64
  | 0 => List.replicate c 0
  | k + 1 => (wordsK c l k).set (k / 8) (pushB (wG (wordsK c l k) (k / 8)) (l.getD k 0))
theorem wordsK_len (c : Nat) (l : List UInt8) : ∀ k, (wordsK c l k).length = c
  | 0 => by simp [wordsK]
  | k + 1 => by rw [wordsK, List.length_set, wordsK_len c l k]
theorem wordsK_to (l : List UInt8) : ∀ k, wordsTo l k = wordsK 16 l k
  | 0 => rfl
  | k + 1 => by rw [wordsTo, wordsK, wordsK_to l k]
theorem wG_set (l : List W64) (i j : Nat) (x : W64) (hi : i < l.length) : wG (l.set i x) j = if i = j then x else wG l j := by
  unfold wG
  simp only [List.getD, List.getElem?_set]
  by_cases h : i = j
  · subst h; simp [hi]
  · simp [h]
theorem beW_snoc (l : List UInt8) (b : UInt8) : beW (l ++ [b]) = pushB (beW l) b := by simp [beW]
def segB (l : List UInt8) (i k : Nat) : List UInt8 := ((l.take k).drop (8 * i)).take 8
theorem segB_in (l : List UInt8) {i k : Nat} (h1 : 8 * i ≤ k) (h2 : k < 8 * i + 8) (hl : k < l.length) : segB l i (k + 1) = segB l i k ++ [l.getD k 0] := by
  unfold segB
  apply List.ext_getElem?
  intro j
  simp only [List.getElem?_append, List.getElem?_take, List.getElem?_drop, List.length_take, List.length_drop, List.getD]
  by_cases hj : j < k - 8 * i
  · rw [if_pos (by omega), if_pos (by omega), if_pos (by omega), if_pos (by omega), if_pos (by omega)]
  · by_cases hj2 : j = k - 8 * i
    · have e : 8 * i + j = k := by omega
      rw [if_pos (by omega), e, if_pos (by omega), if_neg (by omega), show j - min 8 (min k l.length - 8 * i) = 0 by omega]
      simp [List.getElem?_eq_getElem hl]
    · by_cases h8 : j < 8
      · rw [if_pos h8, if_neg (by omega), if_neg (by omega)]
        obtain ⟨x, hx⟩ : ∃ x, j - min 8 (min k l.length - 8 * i) = x + 1 := ⟨j - min 8 (min k l.length - 8 * i) - 1, by omega⟩
        rw [hx]; simp
      · rw [if_neg h8, if_neg (by omega)]
        obtain ⟨x, hx⟩ : ∃ x, j - min 8 (min k l.length - 8 * i) = x + 1 := ⟨j - min 8 (min k l.length - 8 * i) - 1, by omega⟩
        rw [hx]; simp
theorem segB_out (l : List UInt8) {i k : Nat} (h : k < 8 * i ∨ 8 * i + 8 ≤ k) : segB l i (k + 1) = segB l i k := by
  unfold segB
  apply List.ext_getElem?
  intro j
  simp only [List.getElem?_take, List.getElem?_drop]
  split
  · split
    · rw [if_pos (by omega)]
    · rw [if_neg (by omega)]
  · rfl
theorem wordsK_get (c : Nat) (l : List UInt8) (i : Nat) (hi : i < c) : ∀ k, k ≤ 8 * c → k ≤ l.length → wG (wordsK c l k) i = beW (segB l i k)
  | 0, _, _ => by
    simp [wordsK, wG, beW, segB, List.getD, hi]
  | k + 1, hk, hl => by
    have ih := wordsK_get c l i hi k (by omega) (by omega)
    rw [wordsK, wG_set _ _ _ _ (by rw [wordsK_len]; omega)]
    by_cases e : k / 8 = i
    · rw [if_pos e, e, ih, segB_in l (by omega) (by omega) (by omega), beW_snoc]
    · rw [if_neg e, ih, segB_out l (by omega)]
/-- the i-th number of bytes -/
def wordAt (l : List UInt8) (i : Nat) : W64 := beW ((l.drop (8 * i)).take 8)
theorem segB_all (l : List UInt8) {i k : Nat} (h : 8 * i + 8 ≤ k) : segB l i k = (l.drop (8 * i)).take 8 := by
  unfold segB
  apply List.ext_getElem?
  intro j
  simp only [List.getElem?_take, List.getElem?_drop]
  split
  · rw [if_pos (by omega)]
  · rfl
theorem wordsK_all (c : Nat) (l : List UInt8) (h : 8 * c ≤ l.length) : wordsK c l (8 * c) = (List.range c).map (wordAt l) := by
  apply List.ext_getElem (by simp [wordsK_len])
  intro i h1 h2
  have hi : i < c := by rw [wordsK_len] at h1; exact h1
  have e := wordsK_get c l i hi (8 * c) (Nat.le_refl _) h
  rw [segB_all l (by omega)] at e
  have e2 : wG (wordsK c l (8 * c)) i = (wordsK c l (8 * c))[i] := by simp [wG, List.getD, List.getElem?_eq_getElem h1]
  rw [e2] at e
  simp [e, wordAt]
theorem wordsL_is (l : List UInt8) (h : 128 ≤ l.length) : wordsL l = (List.range 16).map (wordAt l) := by
  unfold wordsL
  rw [wordsK_to]
  exact wordsK_all 16 l (by omega)

/-! The state behind whole blocks. -/
def ofL (l : List W64) : St := ⟨wG l 0, wG l 1, wG l 2, wG l 3, wG l 4, wG l 5, wG l 6, wG l 7⟩
theorem ofL_l (v : St) : ofL v.l = v := rfl
theorem l_ofL {l : List W64} (h : l.length = 8) : (ofL l).l = l := by
  match l, h with
  | [a, b, c, d, e, f, g, k], _ => rfl
def blockAt (l : List UInt8) (k : Nat) : List UInt8 := (l.drop (128 * k)).take 128
def overN (s : St) (l : List UInt8) : Nat → St
  | 0 => s
  | k + 1 => stepW ksL (overN s l k) (wordsL (blockAt l k))
def over (s : St) (l : List UInt8) : St := overN s l (l.length / 128)
def restL (l : List UInt8) : List UInt8 := l.drop (128 * (l.length / 128))
theorem restL_len (l : List UInt8) : (restL l).length = l.length % 128 := by
  unfold restL; rw [List.length_drop]; omega
theorem blockAt_append (a b : List UInt8) {k : Nat} (h : 128 * (k + 1) ≤ a.length) : blockAt (a ++ b) k = blockAt a k := by
  unfold blockAt
  rw [List.drop_append_of_le_length (by omega), List.take_append_of_le_length (by rw [List.length_drop]; omega)]
theorem blockAt_drop (l : List UInt8) (j k : Nat) : blockAt (l.drop (128 * j)) k = blockAt l (j + k) := by
  unfold blockAt
  rw [List.drop_drop, Nat.mul_add]
theorem overN_append (s : St) (a b : List UInt8) : ∀ k, 128 * k ≤ a.length → overN s (a ++ b) k = overN s a k
  | 0, _ => rfl
  | k + 1, h => by rw [overN, overN, overN_append s a b k (by omega), blockAt_append a b h]
theorem overN_add (s : St) (l : List UInt8) (j : Nat) : ∀ k, overN s l (j + k) = overN (overN s l j) (l.drop (128 * j)) k
  | 0 => rfl
  | k + 1 => by rw [← Nat.add_assoc, overN, overN, overN_add s l j k, blockAt_drop]
theorem over_append (s : St) (a b : List UInt8) (h : a.length % 128 = 0) : over s (a ++ b) = over (over s a) b := by
  unfold over
  have e : (a ++ b).length / 128 = a.length / 128 + b.length / 128 := by rw [List.length_append]; omega
  rw [e, overN_add, overN_append s a b _ (by omega), List.drop_append, List.drop_eq_nil_of_le (by omega), show 128 * (a.length / 128) - a.length = 0 by omega]
  simp
theorem split_rest (l : List UInt8) : l = l.take (128 * (l.length / 128)) ++ restL l := (List.take_append_drop _ _).symm
theorem over_take (s : St) (l : List UInt8) : over s (l.take (128 * (l.length / 128))) = over s l := by
  have h := overN_append s (l.take (128 * (l.length / 128))) (restL l) (l.length / 128) (by rw [List.length_take]; omega)
  rw [← split_rest] at h
  unfold over
  rw [h, List.length_take]
  congr 1
  omega
theorem over_rest (s : St) (l m : List UInt8) : over s (l ++ m) = over (over s l) (restL l ++ m) := by
  have e : l ++ m = l.take (128 * (l.length / 128)) ++ (restL l ++ m) := by rw [← List.append_assoc, ← split_rest]
  rw [e, over_append _ _ _ (by rw [List.length_take]; omega), over_take]
theorem over_short (s : St) (l : List UInt8) (h : l.length < 128) : over s l = s := by
  unfold over
  rw [Nat.div_eq_of_lt h]; rfl
theorem restL_append (l m : List UInt8) : restL (l ++ m) = restL (restL l ++ m) := by
  have e : l ++ m = l.take (128 * (l.length / 128)) ++ (restL l ++ m) := by rw [← List.append_assoc, ← split_rest]
  have hl : (l.take (128 * (l.length / 128))).length = 128 * (l.length / 128) := by rw [List.length_take]; omega
  generalize l.take (128 * (l.length / 128)) = p at *
  generalize restL l ++ m = q at *
  rw [e]
  unfold restL
  rw [List.length_append, hl, List.drop_append, List.drop_eq_nil_of_le (by omega), hl, List.nil_append]
  congr 1
  omega
theorem restL_short (l : List UInt8) (h : l.length < 128) : restL l = l := by
  unfold restL
  rw [Nat.div_eq_of_lt h]; rfl

/-! The first state, and a sum's state: eight numbers, how many bytes came, those that fill no block yet. -/
def begS : St := ofL ((List.range 8).map fun i => BitVec.ofNat 64 (fB i))
theorem tabW_beg : tabU fB 8 8 = tabW begS.l := by
  unfold begS
  rw [l_ofL (by simp)]
  have e : (List.range 8).map (fun i => Value.int .u64 (((if i < 8 then fB i else 0 : Nat)) : Int)) = ((List.range 8).map fun i => BitVec.ofNat 64 (fB i)).map wv := by
    apply List.ext_getElem (by simp)
    intro i h1 h2
    have hi : i < 8 := by simpa using h1
    have hf : fB i < 18446744073709551616 := sqv_lt _ _
    simp [hi, wv, Nat.mod_eq_of_lt hf]
  unfold tabU tabW
  rw [e]
structure Sh where
  s : St
  n : Nat
  t : List UInt8
def Sh.ok (h : Sh) : Prop := h.t.length = h.n % 128
def Sh.nil : Sh := ⟨begS, 0, []⟩
theorem Sh.nil_ok : Sh.nil.ok := rfl
def Sh.add (h : Sh) (l : List UInt8) : Sh := ⟨over h.s (h.t ++ l), h.n + l.length, restL (h.t ++ l)⟩
theorem Sh.add_ok {h : Sh} (ho : h.ok) (l : List UInt8) : (h.add l).ok := by
  unfold Sh.ok Sh.add at *
  simp only [restL_len, List.length_append, ho]
  omega
theorem Sh.add_add (h : Sh) (a b : List UInt8) : (h.add a).add b = h.add (a ++ b) := by
  unfold Sh.add
  simp only [List.length_append, Nat.add_assoc, Sh.mk.injEq, true_and]
  rw [← over_rest, ← restL_append, List.append_assoc]
  exact ⟨rfl, rfl⟩
theorem Sh.add_nil {h : Sh} (ho : h.ok) : h.add [] = h := by
  unfold Sh.ok at ho
  have hl : h.t.length < 128 := by omega
  unfold Sh.add
  rw [List.append_nil, over_short _ _ hl, restL_short _ hl]
  rfl
def bytesS (s : St) : List UInt8 := s.l.flatMap fun x => hiB x.toNat
theorem bytesS_len (s : St) : (bytesS s).length = 64 := by
  simp [bytesS, St.l, hiB_len]
def padB (n : Nat) : List UInt8 := 128 :: (List.replicate ((239 - n % 128) % 128) 0 ++ (hiB (n / 2 ^ 61) ++ hiB (n * 8 % 2 ^ 64)))
theorem padB_len (n : Nat) : (n + (padB n).length) % 128 = 0 := by
  simp [padB, hiB_len]; omega
def Sh.sum (h : Sh) : List UInt8 := bytesS (over h.s (h.t ++ padB h.n))
def Sh.mid (h : Sh) : List UInt8 := bytesS h.s ++ (hiB h.n ++ (h.t ++ List.replicate (128 - h.t.length) 0))
def digest (l : List UInt8) : List UInt8 := bytesS (over begS (l ++ padB l.length))
theorem sum_digest (l : List UInt8) : (Sh.nil.add l).sum = digest l := by
  unfold Sh.sum digest Sh.add Sh.nil
  simp only [List.nil_append, Nat.zero_add]
  rw [← over_rest]
theorem Sh.mid_len {h : Sh} (ho : h.ok) : h.mid.length = 200 := by
  unfold Sh.ok at ho
  simp [Sh.mid, bytesS_len, hiB_len]; omega

/-! Read again. -/
def cntB (b : List UInt8) : Nat := (beW ((b.drop 64).take 8)).toNat
def loadB (b : List UInt8) : Sh := ⟨ofL ((List.range 8).map (wordAt b)), cntB b, (b.drop 72).take (cntB b % 128)⟩
def mayB (b : List UInt8) : Bool := decide (b.length = 200) && (decide (cntB b ≤ 1152921504606846976) && (b.drop (72 + cntB b % 128)).all (· == 0))
theorem bytesS_eq (s : St) : bytesS s = hiB s.a.toNat ++ (hiB s.b.toNat ++ (hiB s.c.toNat ++ (hiB s.d.toNat ++ (hiB s.e.toNat ++ (hiB s.f.toNat ++ (hiB s.g.toNat ++ hiB s.h.toNat)))))) := by
  simp [bytesS, St.l]
theorem drop8 {a b : List UInt8} {k : Nat} (h : a.length = 8) : (a ++ b).drop (8 + k) = b.drop k := by
  rw [List.drop_append, List.drop_eq_nil_of_le (by omega), h, Nat.add_sub_cancel_left]; rfl
theorem take8 {a b : List UInt8} (h : a.length = 8) : (a ++ b).take 8 = a := by
  rw [← h, List.take_left']
  rfl
theorem words_bytes (s : St) (r : List UInt8) : (List.range 8).map (wordAt (bytesS s ++ r)) = s.l := by
  have L := hiB_len
  have e : ∀ (i : Nat), wordAt (bytesS s ++ r) i = beW (((bytesS s ++ r).drop (8 * i)).take 8) := fun i => rfl
  simp only [show List.range 8 = [0, 1, 2, 3, 4, 5, 6, 7] from rfl, List.map_cons, List.map_nil, wordAt, bytesS_eq, List.append_assoc]
  rw [show 8 * 0 = 0 from rfl, show 8 * 1 = 8 + 0 from rfl, show 8 * 2 = 8 + (8 + 0) from rfl, show 8 * 3 = 8 + (8 + (8 + 0)) from rfl, show 8 * 4 = 8 + (8 + (8 + (8 + 0))) from rfl,
    show 8 * 5 = 8 + (8 + (8 + (8 + (8 + 0)))) from rfl, show 8 * 6 = 8 + (8 + (8 + (8 + (8 + (8 + 0))))) from rfl, show 8 * 7 = 8 + (8 + (8 + (8 + (8 + (8 + (8 + 0)))))) from rfl]
  simp only [drop8 (L _), List.drop_zero, take8 (L _), beW_word]
  rfl
theorem cnt_bytes (s : St) (x : Nat) (hx : x < 2 ^ 64) (r : List UInt8) : cntB (bytesS s ++ (hiB x ++ r)) = x := by
  unfold cntB
  rw [List.drop_append, List.drop_eq_nil_of_le (by rw [bytesS_len]; omega), bytesS_len, List.nil_append, Nat.sub_self, List.drop_zero, take8 (hiB_len _), beW_hiB hx]
theorem load_mid {h : Sh} (ho : h.ok) (hn : h.n < 2 ^ 64) : loadB h.mid = h := by
  have hc : cntB h.mid = h.n := cnt_bytes _ _ hn _
  unfold loadB
  rw [hc]
  unfold Sh.mid
  rw [words_bytes, ofL_l]
  have e : ((bytesS h.s ++ (hiB h.n ++ (h.t ++ List.replicate (128 - h.t.length) 0))).drop 72).take (h.n % 128) = h.t := by
    rw [List.drop_append, List.drop_eq_nil_of_le (by rw [bytesS_len]; omega), bytesS_len, List.nil_append, show 72 - 64 = 8 + 0 from rfl, drop8 (hiB_len _), List.drop_zero, ← ho, List.take_left']
    rfl
  rw [e]
theorem may_mid {h : Sh} (ho : h.ok) (hn : h.n ≤ 1152921504606846976) : mayB h.mid = true := by
  have hc : cntB h.mid = h.n := cnt_bytes _ _ (by omega) _
  unfold mayB
  rw [hc, Sh.mid_len ho]
  have d : h.mid.drop 72 = h.t ++ List.replicate (128 - h.t.length) 0 := by
    unfold Sh.mid
    rw [List.drop_append, List.drop_eq_nil_of_le (by rw [bytesS_len]; omega), bytesS_len, List.nil_append, show 72 - 64 = 8 + 0 from rfl, drop8 (hiB_len _), List.drop_zero]
  have e : h.mid.drop (72 + h.n % 128) = List.replicate (128 - h.t.length) 0 := by
    rw [← List.drop_drop, d, ← ho, List.drop_left']
    rfl
  rw [e]
  simp [hn]
theorem split8 (b : List UInt8) : b = b.take 8 ++ b.drop 8 := (List.take_append_drop 8 b).symm
theorem bytes_words (b : List UInt8) (h : 64 ≤ b.length) : bytesS (ofL ((List.range 8).map (wordAt b))) = b.take 64 := by
  have e : ∀ i, i < 8 → hiB (wordAt b i).toNat = (b.drop (8 * i)).take 8 := fun i hi => by
    unfold wordAt
    exact hiB_beW (by rw [List.length_take, List.length_drop]; omega)
  rw [bytesS_eq]
  show hiB (wordAt b 0).toNat ++ (hiB (wordAt b 1).toNat ++ (hiB (wordAt b 2).toNat ++ (hiB (wordAt b 3).toNat ++ (hiB (wordAt b 4).toNat ++ (hiB (wordAt b 5).toNat ++ (hiB (wordAt b 6).toNat ++ hiB (wordAt b 7).toNat)))))) = _
  rw [e 0 (by omega), e 1 (by omega), e 2 (by omega), e 3 (by omega), e 4 (by omega), e 5 (by omega), e 6 (by omega), e 7 (by omega)]
  have t : ∀ k, (b.drop k).take 8 ++ (b.drop (k + 8)).take (64 - (k + 8)) = (b.drop k).take (8 + (64 - (k + 8))) := fun k => by
    rw [List.take_add, List.drop_drop]
  have t0 := t 48
  have t1 := t 40
  have t2 := t 32
  have t3 := t 24
  have t4 := t 16
  have t5 := t 8
  have t6 := t 0
  simp only [Nat.reduceAdd, Nat.reduceSub, Nat.reduceMul] at t0 t1 t2 t3 t4 t5 t6 ⊢
  rw [t0, t1, t2, t3, t4, t5, t6, List.drop_zero]
theorem zeros_of {l : List UInt8} (h : l.all (· == 0) = true) : l = List.replicate l.length 0 := by
  apply List.eq_replicate_of_mem
  intro x hx
  have := List.all_eq_true.1 h x hx
  simpa using this
theorem mid_load {b : List UInt8} (h : mayB b = true) : (loadB b).mid = b ∧ (loadB b).ok ∧ (loadB b).n ≤ 1152921504606846976 := by
  simp only [mayB, Bool.and_eq_true, decide_eq_true_eq] at h
  obtain ⟨hl, hc, hz⟩ := h
  have ht : ((b.drop 72).take (cntB b % 128)).length = cntB b % 128 := by rw [List.length_take, List.length_drop]; omega
  refine ⟨?_, ht, hc⟩
  have z := zeros_of hz
  rw [List.length_drop, hl] at z
  have h8 : hiB (cntB b) = (b.drop 64).take 8 := hiB_beW (by rw [List.length_take, List.length_drop]; omega)
  unfold Sh.mid loadB
  simp only
  rw [ht, bytes_words b (by omega), h8, show 128 - cntB b % 128 = 200 - (72 + cntB b % 128) by omega, ← z, ← List.drop_drop, List.take_append_drop, show (72 : Nat) = 64 + 8 from rfl, ← List.drop_drop, List.take_append_drop, List.take_append_drop]
end Go.Proofs.Ytbkcglfdliicpaa

namespace Go.Proofs.Ytbkcglfdliicpaa
open Go.RowKit
set_option linter.unusedVariables false
set_option maxRecDepth 100000

/-- n is a numeral when k is run -/
def fz {α : Type} (n : Nat) (k : Nat → α) : α := match n with
  | 0 => k 0
  | m + 1 => k (m + 1)
theorem fz_is {α : Type} (n : Nat) (k : Nat → α) : fz n k = k n := by cases n <;> rfl

def nRot (x r : Nat) : Nat := Nat.lor (Nat.shiftRight x r) (Nat.shiftLeft x (64 - r) % 18446744073709551616)
def nCh (x y z : Nat) : Nat := Nat.lor (Nat.land x y) (Nat.land (18446744073709551615 - x) z)
def nMaj (x y z : Nat) : Nat := Nat.lor (Nat.lor (Nat.land x y) (Nat.land x z)) (Nat.land y z)
def nE (x : Nat) : Nat := Nat.xor (Nat.xor (nRot x 14) (nRot x 18)) (nRot x 41)
def nA (x : Nat) : Nat := Nat.xor (Nat.xor (nRot x 28) (nRot x 34)) (nRot x 39)
def n0 (x : Nat) : Nat := Nat.xor (Nat.xor (nRot x 1) (nRot x 8)) (Nat.shiftRight x 7)
def n1 (x : Nat) : Nat := Nat.xor (Nat.xor (nRot x 19) (nRot x 61)) (Nat.shiftRight x 6)

theorem nRot_is (x : W64) {r : Nat} (h0 : 0 < r) (h : r < 64) : nRot x.toNat r = (rot x (r : Int)).toNat := by
  rw [rot_shifts x (r : Int) (r := r) (by omega)]
  show (x.toNat >>> r ||| (x.toNat <<< (64 - r)) % 18446744073709551616) = _
  rw [BitVec.toNat_or, BitVec.toNat_ushiftRight, BitVec.toNat_shiftLeft]
theorem nCh_is (x y z : W64) : nCh x.toNat y.toNat z.toNat = (chW x y z).toNat := by
  show ((x.toNat &&& y.toNat) ||| ((18446744073709551615 - x.toNat) &&& z.toNat)) = _
  unfold chW
  rw [BitVec.toNat_or, BitVec.toNat_and, BitVec.toNat_and, BitVec.toNat_not]
theorem nMaj_is (x y z : W64) : nMaj x.toNat y.toNat z.toNat = (majW x y z).toNat := by
  show ((x.toNat &&& y.toNat) ||| (x.toNat &&& z.toNat) ||| (y.toNat &&& z.toNat)) = _
  unfold majW
  rw [BitVec.toNat_or, BitVec.toNat_or, BitVec.toNat_and, BitVec.toNat_and, BitVec.toNat_and]
theorem nE_is (x : W64) : nE x.toNat = (rot x 14 ^^^ rot x 18 ^^^ rot x 41).toNat := by
  show (nRot x.toNat 14 ^^^ nRot x.toNat 18 ^^^ nRot x.toNat 41) = _
  rw [nRot_is x (by omega) (by omega), nRot_is x (by omega) (by omega), nRot_is x (by omega) (by omega), BitVec.toNat_xor, BitVec.toNat_xor]
  rfl
theorem nA_is (x : W64) : nA x.toNat = (rot x 28 ^^^ rot x 34 ^^^ rot x 39).toNat := by
  show (nRot x.toNat 28 ^^^ nRot x.toNat 34 ^^^ nRot x.toNat 39) = _
  rw [nRot_is x (by omega) (by omega), nRot_is x (by omega) (by omega), nRot_is x (by omega) (by omega), BitVec.toNat_xor, BitVec.toNat_xor]
  rfl
theorem n0_is (x : W64) : n0 x.toNat = (sig0 x).toNat := by
  show (nRot x.toNat 1 ^^^ nRot x.toNat 8 ^^^ x.toNat >>> 7) = _
  unfold sig0
  rw [nRot_is x (by omega) (by omega), nRot_is x (by omega) (by omega), BitVec.toNat_xor, BitVec.toNat_xor, BitVec.toNat_ushiftRight]
  rfl
theorem n1_is (x : W64) : n1 x.toNat = (sig1 x).toNat := by
  show (nRot x.toNat 19 ^^^ nRot x.toNat 61 ^^^ x.toNat >>> 6) = _
  unfold sig1
  rw [nRot_is x (by omega) (by omega), nRot_is x (by omega) (by omega), BitVec.toNat_xor, BitVec.toNat_xor, BitVec.toNat_ushiftRight]
  rfl

/-- the rounds, one behind the other; sixteen words of the schedule at hand -/
def nGo : List Nat → (a b c d e f g h : Nat) → (w0 w1 w2 w3 w4 w5 w6 w7 w8 w9 wa wb wc wd we wf : Nat) → List Nat
  | [], a, b, c, d, e, f, g, h, _, _, _, _, _, _, _, _, _, _, _, _, _, _, _, _ => [a, b, c, d, e, f, g, h]
  | k :: ks, a, b, c, d, e, f, g, h, w0, w1, w2, w3, w4, w5, w6, w7, w8, w9, wa, wb, wc, wd, we, wf =>
    fz ((h + nE e + nCh e f g + k + w0) % 18446744073709551616) fun one =>
    fz ((nA a + nMaj a b c) % 18446744073709551616) fun two =>
    fz ((one + two) % 18446744073709551616) fun x =>
    fz ((d + one) % 18446744073709551616) fun y =>
    fz ((n1 we + w9 + n0 w1 + w0) % 18446744073709551616) fun wn =>
    nGo ks x a b c y e f g w1 w2 w3 w4 w5 w6 w7 w8 w9 wa wb wc wd we wf wn

/-- n rounds from the t-th on -/
def goSt (K W : Nat → W64) (v : St) (t : Nat) : Nat → St
  | 0 => v
  | n + 1 => goSt K W (stNext v (K t) (W t)) (t + 1) n
theorem goSt_rounds (ks ws : List W64) (s : St) : ∀ n t, goSt (wG ks) (wG ws) (rounds ks ws s t) t n = rounds ks ws s (t + n)
  | 0, t => rfl
  | n + 1, t => by
    rw [goSt, show stNext (rounds ks ws s t) (wG ks t) (wG ws t) = rounds ks ws s (t + 1) from rfl, goSt_rounds ks ws s n (t + 1)]
    congr 1
    omega

theorem nGo_is (K W : Nat → W64) (N : Nat) (hW : ∀ i, 16 ≤ i → i < N → W i = sig1 (W (i - 2)) + W (i - 7) + sig0 (W (i - 15)) + W (i - 16)) :
    ∀ (ks : List Nat) (t : Nat) (v : St), t + ks.length + 16 ≤ N → (∀ i, i < ks.length → ks.getD i 0 = (K (t + i)).toNat) →
      nGo ks v.a.toNat v.b.toNat v.c.toNat v.d.toNat v.e.toNat v.f.toNat v.g.toNat v.h.toNat (W t).toNat (W (t + 1)).toNat (W (t + 2)).toNat (W (t + 3)).toNat (W (t + 4)).toNat (W (t + 5)).toNat (W (t + 6)).toNat (W (t + 7)).toNat
        (W (t + 8)).toNat (W (t + 9)).toNat (W (t + 10)).toNat (W (t + 11)).toNat (W (t + 12)).toNat (W (t + 13)).toNat (W (t + 14)).toNat (W (t + 15)).toNat = (goSt K W v t ks.length).l.map (·.toNat)
  | [], t, v, _, _ => rfl
  | k :: ks, t, v, ht, hk => by
    have h0 : k = (K t).toNat := by have := hk 0 (by simp); simpa using this
    have ih := nGo_is K W N hW ks (t + 1) (stNext v (K t) (W t)) (by simp only [List.length_cons] at ht; omega) (fun i hi => by
      have := hk (i + 1) (by simp only [List.length_cons]; omega)
      rw [List.getD_cons_succ] at this
      rw [this, show t + (i + 1) = t + 1 + i by omega])
    have hn := hW (t + 16) (by omega) (by simp only [List.length_cons] at ht; omega)
    rw [show t + 16 - 2 = t + 14 by omega, show t + 16 - 7 = t + 9 by omega, show t + 16 - 15 = t + 1 by omega, show t + 16 - 16 = t by omega] at hn
    have e1 : (v.h.toNat + nE v.e.toNat + nCh v.e.toNat v.f.toNat v.g.toNat + k + (W t).toNat) % 18446744073709551616 = (stOne v (K t) (W t)).toNat := by
      rw [nE_is, nCh_is, h0]
      unfold stOne
      simp only [BitVec.toNat_add]
      omega
    have e2 : (nA v.a.toNat + nMaj v.a.toNat v.b.toNat v.c.toNat) % 18446744073709551616 = (stTwo v).toNat := by
      rw [nA_is, nMaj_is]
      unfold stTwo
      simp only [BitVec.toNat_add]
    have e3 : ((stOne v (K t) (W t)).toNat + (stTwo v).toNat) % 18446744073709551616 = (stNext v (K t) (W t)).a.toNat := by
      show _ = (stOne v (K t) (W t) + stTwo v).toNat
      rw [BitVec.toNat_add]
    have e4 : (v.d.toNat + (stOne v (K t) (W t)).toNat) % 18446744073709551616 = (stNext v (K t) (W t)).e.toNat := by
      show _ = (v.d + stOne v (K t) (W t)).toNat
      rw [BitVec.toNat_add]
    have e5 : (n1 (W (t + 14)).toNat + (W (t + 9)).toNat + n0 (W (t + 1)).toNat + (W t).toNat) % 18446744073709551616 = (W (t + 16)).toNat := by
      rw [n1_is, n0_is, hn]
      simp only [BitVec.toNat_add]
      omega
    rw [nGo]
    simp only [fz_is]
    rw [e1, e2, e3, e4, e5]
    exact ih

def nAdd (x y : List Nat) : List Nat := List.zipWith (fun a b => (a + b) % 18446744073709551616) x y
/-- a block compressed -/
def nStep (ks : List Nat) (s m : List Nat) : List Nat :=
  match s, m with
  | [a, b, c, d, e, f, g, h], [w0, w1, w2, w3, w4, w5, w6, w7, w8, w9, wa, wb, wc, wd, we, wf] =>
    fz a fun a => fz b fun b => fz c fun c => fz d fun d => fz e fun e => fz f fun f => fz g fun g => fz h fun h =>
    fz w0 fun w0 => fz w1 fun w1 => fz w2 fun w2 => fz w3 fun w3 => fz w4 fun w4 => fz w5 fun w5 => fz w6 fun w6 => fz w7 fun w7 => fz w8 fun w8 => fz w9 fun w9 => fz wa fun wa => fz wb fun wb => fz wc fun wc => fz wd fun wd => fz we fun we => fz wf fun wf =>
    nAdd (nGo ks a b c d e f g h w0 w1 w2 w3 w4 w5 w6 w7 w8 w9 wa wb wc wd we wf) [a, b, c, d, e, f, g, h]
  | _, _ => []
theorem vR_ks : ∀ i, i < 80 → vR.getD i 0 = (wG ksL i).toNat := fun i hi => by
  have hf : fR i < 18446744073709551616 := sqv_lt _ _
  rw [← fR_is i hi]
  simp [ksL, wG, List.getD, hi, Nat.mod_eq_of_lt hf]
theorem rounds_sch (ks : List W64) (m : List W64) (s : St) {j k : Nat} : ∀ n, n ≤ j → n ≤ k → rounds ks (sch m j) s n = rounds ks (sch m k) s n
  | 0, _, _ => rfl
  | n + 1, h1, h2 => by rw [rounds, rounds, rounds_sch (j := j) (k := k) ks m s n (by omega) (by omega), sch_same m (i := n) (j := j) (k := k) (by omega) (by omega)]
theorem add_lit (x y : W64) : (x + y).toNat = (x.toNat + y.toNat) % 18446744073709551616 := by rw [BitVec.toNat_add]
theorem nStep_ks (ks : List Nat) (hl : ks.length = 80) (hk : ∀ i, i < 80 → ks.getD i 0 = (wG ksL i).toNat) (s : St) (m : List W64) (hm : m.length = 16) : nStep ks (s.l.map (·.toNat)) (m.map (·.toNat)) = (stepW ksL s m).l.map (·.toNat) := by
  match m, hm with
  | [w0, w1, w2, w3, w4, w5, w6, w7, w8, w9, wa, wb, wc, wd, we, wf], _ =>
    obtain ⟨M, hM⟩ : ∃ M, [w0, w1, w2, w3, w4, w5, w6, w7, w8, w9, wa, wb, wc, wd, we, wf] = M := ⟨_, rfl⟩
    have h := nGo_is (wG ksL) (wG (sch M 96)) 96 (fun i h1 h2 => sch_rec M h1 h2) ks 0 s (by omega) (fun i hi => by rw [Nat.zero_add]; exact hk i (by omega))
    have f : ∀ i, i < 16 → wG (sch M 96) (0 + i) = wG M i := fun i hi => by rw [Nat.zero_add]; exact sch_first M hi (by omega)
    have f0 : wG (sch M 96) 0 = wG M 0 := f 0 (by omega)
    rw [f0, f 1 (by omega), f 2 (by omega), f 3 (by omega), f 4 (by omega), f 5 (by omega), f 6 (by omega), f 7 (by omega), f 8 (by omega), f 9 (by omega), f 10 (by omega), f 11 (by omega), f 12 (by omega), f 13 (by omega), f 14 (by omega), f 15 (by omega)] at h
    have g := goSt_rounds ksL (sch M 96) s 80 0
    rw [Nat.zero_add, rounds_sch ksL M s (j := 96) (k := 80) 80 (by omega) (by omega)] at g
    have g0 : rounds ksL (sch M 96) s 0 = s := by rw [rounds]
    rw [g0] at g
    rw [hl, g] at h
    have e : nStep ks (s.l.map (·.toNat)) ([w0, w1, w2, w3, w4, w5, w6, w7, w8, w9, wa, wb, wc, wd, we, wf].map (·.toNat)) = nAdd ((rounds ksL (sch M 80) s 80).l.map (·.toNat)) (s.l.map (·.toNat)) := by
      rw [← h, ← hM]
      simp only [nStep, St.l, List.map_cons, List.map_nil, fz_is]
      rfl
    rw [e]
    unfold stepW
    rw [hM]
    generalize rounds ksL (sch M 80) s 80 = u
    simp only [nAdd, St.l, List.map_cons, List.map_nil, List.zipWith_cons_cons, List.zipWith_nil_right, stAdd, add_lit]

def nWords (l : List UInt8) : List Nat := (List.range 16).map fun i => nBe ((l.drop (8 * i)).take 8)
theorem nWords_is {l : List UInt8} (h : l.length = 128) : (wordsL l).map (·.toNat) = nWords l := by
  rw [wordsL_is l (by omega)]
  unfold nWords
  rw [List.map_map]
  apply List.map_congr_left
  intro i hi
  have hi := List.mem_range.1 hi
  show (beW ((l.drop (8 * i)).take 8)).toNat = _
  rw [beW_nat, Nat.mod_eq_of_lt (hiB_nBe (by rw [List.length_take, List.length_drop]; omega)).2]
def nOver (s : List Nat) (l : List UInt8) : Nat → List Nat
  | 0 => s
  | k + 1 => nStep vR (nOver s l k) (nWords (blockAt l k))
theorem nOver_is (s : St) (l : List UInt8) : ∀ k, 128 * k ≤ l.length → nOver (s.l.map (·.toNat)) l k = (overN s l k).l.map (·.toNat)
  | 0, _ => rfl
  | k + 1, h => by
    have hb : (blockAt l k).length = 128 := by unfold blockAt; rw [List.length_take, List.length_drop]; omega
    rw [nOver, overN, nOver_is s l k (by omega), ← nWords_is hb, nStep_ks vR rfl vR_ks _ _ (by rw [wordsL_is _ (by omega)]; simp)]
theorem beg_vB : begS.l.map (·.toNat) = vB := by
  unfold begS
  rw [l_ofL (by simp), List.map_map]
  apply List.ext_getElem (by simp [vB])
  intro i h1 h2
  have hi : i < 8 := by simpa using h1
  have hf : fB i < 18446744073709551616 := sqv_lt _ _
  have e := fB_is i hi
  rw [List.getD, List.getElem?_eq_getElem h2, Option.getD_some] at e
  simp [← e, Nat.mod_eq_of_lt hf]
theorem digest_eval (l : List UInt8) (n : Nat) (h : (l ++ padB l.length).length = 128 * n) : digest l = (nOver vB (l ++ padB l.length) n).flatMap hiB := by
  unfold digest
  rw [← beg_vB, nOver_is _ _ n (by omega)]
  unfold over bytesS
  rw [h, Nat.mul_div_cancel_left _ (by omega)]
  simp [List.flatMap_map]
def txt0 : List UInt8 := []
def txt1 : List UInt8 := [97, 98, 99]
def txt2 : List UInt8 := [97, 98, 99, 100, 101, 102, 103, 104, 98, 99, 100, 101, 102, 103, 104, 105, 99, 100, 101, 102, 103, 104, 105, 106, 100, 101, 102, 103, 104, 105, 106, 107, 101, 102, 103, 104, 105, 106, 107, 108, 102, 103, 104, 105, 106, 107, 108, 109, 103, 104, 105, 106, 107, 108, 109, 110, 104, 105, 106, 107, 108, 109, 110, 111, 105, 106, 107, 108, 109, 110, 111, 112, 106, 107, 108, 109, 110, 111, 112, 113, 107, 108, 109, 110, 111, 112, 113, 114, 108, 109, 110, 111, 112, 113, 114, 115, 109, 110, 111, 112, 113, 114, 115, 116, 110, 111, 112, 113, 114, 115, 116, 117]
def dig0 : List UInt8 := [207, 131, 225, 53, 126, 239, 184, 189, 241, 84, 40, 80, 214, 109, 128, 7, 214, 32, 228, 5, 11, 87, 21, 220, 131, 244, 169, 33, 211, 108, 233, 206, 71, 208, 209, 60, 93, 133, 242, 176, 255, 131, 24, 210, 135, 126, 236, 47, 99, 185, 49, 189, 71, 65, 122, 129, 165, 56, 50, 122, 249, 39, 218, 62]
def dig1 : List UInt8 := [221, 175, 53, 161, 147, 97, 122, 186, 204, 65, 115, 73, 174, 32, 65, 49, 18, 230, 250, 78, 137, 169, 126, 162, 10, 158, 238, 230, 75, 85, 211, 154, 33, 146, 153, 42, 39, 79, 193, 168, 54, 186, 60, 35, 163, 254, 235, 189, 69, 77, 68, 35, 100, 60, 232, 14, 42, 154, 201, 79, 165, 76, 164, 159]
def dig2 : List UInt8 := [142, 149, 155, 117, 218, 227, 19, 218, 140, 244, 247, 40, 20, 252, 20, 63, 143, 119, 121, 198, 235, 159, 127, 161, 114, 153, 174, 173, 182, 136, 144, 24, 80, 29, 40, 158, 73, 0, 247, 228, 51, 27, 153, 222, 196, 181, 67, 58, 199, 211, 41, 238, 182, 221, 38, 84, 94, 150, 229, 91, 135, 75, 233, 9]
theorem dig0_is : digest txt0 = dig0 := by
  rw [digest_eval txt0 1 (by decide)]
  decide +kernel
theorem dig1_is : digest txt1 = dig1 := by
  rw [digest_eval txt1 1 (by decide)]
  decide +kernel
theorem dig2_is : digest txt2 = dig2 := by
  rw [digest_eval txt2 2 (by decide)]
  decide +kernel
end Go.Proofs.Ytbkcglfdliicpaa

namespace Go.Proofs.Ytbkcglfdliicpaa
open Go.RowKit
set_option linter.unusedVariables false
set_option maxRecDepth 100000

theorem sl_size (W : World) : (sizeOf (Try.prog.elem 22)).run Try.prog W = .ok 1 W := by kernel_rfl
theorem sl_under : Try.prog.underlying 22 = some (.slice (Try.prog.elem 22)) := by kernel_rfl
theorem at_map {A : Option Addr} {y k : Nat} (h : At (A.map (·.add y)) k) : At A k := by
  obtain ⟨a, e, rfl⟩ := h
  cases A with
  | none => cases e
  | some x =>
    rw [Option.map_some] at e
    injection e with e
    subst e
    exact ⟨x, rfl, by unfold Addr.add; split <;> rfl⟩
theorem bs_map {A : Option Addr} {w : World} {l : List UInt8} (h : Bs w A l) (y n : Nat) (hn : y + n ≤ l.length) : Bs w (A.map (·.add y)) ((l.drop y).take n) := fun hl => by
  rw [List.length_take, List.length_drop] at hl
  obtain ⟨b, o, rfl, hcell⟩ := h (by omega)
  refine ⟨b, o + y, by rw [Option.map_some, addr_add], fun j hj => ?_⟩
  rw [List.length_take, List.length_drop] at hj
  rw [Nat.add_assoc, hcell (y + j) (by omega)]
  have h1 : j < n := by omega
  simp [List.getD, List.getElem?_drop, h1]
/-- a part of a row, whatever kind of number its bounds are -/
theorem sl_mid (A : Option Addr) (w : World) (l : List UInt8) (h : Bs w A l) (c : Nat) (hc : l.length ≤ c) (y n : Nat) (hy : y + n ≤ l.length) (kl kh : IntKind) : ∃ A', Bs w A' ((l.drop y).take n) ∧ (∀ k, At A' k → At A k) ∧ ∀ (lo hi : Int), lo = (y : Int) → hi = ((y + n : Nat) : Int) → ∀ (u : World),
    (Instr.slice 22 (.slice A l.length c) (some (.int kl lo)) (some (.int kh hi)) none).run Try.prog u = .ok (.slice A' n (c - y)) u := by
  by_cases hcy : c = y
  · refine ⟨A, fun hl => ?_, fun k hk => hk, ?_⟩
    · rw [List.length_take, List.length_drop] at hl; omega
    · rintro lo hi rfl rfl u
      rw [run_slice_lh u _ _ _ _ sl_under _ _ _ _ (by omega) (by omega) (by omega), sl_size]
      simp only [Result.andThen, sliced, Int.toNat_natCast, if_pos hcy, Nat.add_sub_cancel_left]
  · refine ⟨A.map (·.add y), bs_map h y n hy, fun k hk => at_map hk, ?_⟩
    rintro lo hi rfl rfl u
    rw [run_slice_lh u _ _ _ _ sl_under _ _ _ _ (by omega) (by omega) (by omega), sl_size]
    simp only [Result.andThen, sliced, Int.toNat_natCast, if_neg hcy, Nat.add_sub_cancel_left, Nat.mul_one]
/-- the tail -/
theorem sl_tail (A : Option Addr) (w : World) (l : List UInt8) (h : Bs w A l) (c : Nat) (hc : l.length ≤ c) (y : Nat) (hy : y ≤ l.length) (kl : IntKind) : ∃ A', Bs w A' (l.drop y) ∧ (∀ k, At A' k → At A k) ∧ ∀ (lo : Int), lo = (y : Int) → ∀ (u : World),
    (Instr.slice 22 (.slice A l.length c) (some (.int kl lo)) none none).run Try.prog u = .ok (.slice A' (l.length - y) (c - y)) u := by
  have e : (l.drop y).take (l.length - y) = l.drop y := List.take_of_length_le (by rw [List.length_drop]; omega)
  by_cases hcy : c = y
  · refine ⟨A, fun hl => ?_, fun k hk => hk, ?_⟩
    · rw [List.length_drop] at hl; omega
    · rintro lo rfl u
      rw [run_slice_l u _ _ _ _ sl_under _ _ (by omega) (by omega), sl_size]
      simp only [Result.andThen, sliced, Int.toNat_natCast, if_pos hcy]
  · refine ⟨A.map (·.add y), by rw [← e]; exact bs_map h y (l.length - y) (by omega), fun k hk => at_map hk, ?_⟩
    rintro lo rfl u
    rw [run_slice_l u _ _ _ _ sl_under _ _ (by omega) (by omega), sl_size]
    simp only [Result.andThen, sliced, Int.toNat_natCast, if_neg hcy, Nat.mul_one]
/-- the head -/
theorem sl_head (A : Option Addr) (L c k : Nat) (h : k ≤ c) (kh : IntKind) (hi : Int) (e : hi = (k : Int)) (u : World) : (Instr.slice 22 (.slice A L c) none (some (.int kh hi)) none).run Try.prog u = .ok (.slice A k c) u := by
  subst e
  rw [run_slice_h u _ _ _ _ sl_under _ _ (by omega) (by omega), sl_size]
  simp only [Result.andThen, sliced, Int.toNat_natCast]
  by_cases hc : c = 0
  · subst hc; simp
  · rw [if_neg (by omega)]
    cases A with
    | none => simp
    | some a => simp [Addr.add]
theorem bs_take {A : Option Addr} {w : World} {l : List UInt8} (h : Bs w A l) (n : Nat) : Bs w A (l.take n) := fun hl => by
  rw [List.length_take] at hl
  obtain ⟨b, o, rfl, hcell⟩ := h (by omega)
  refine ⟨b, o, rfl, fun j hj => ?_⟩
  rw [List.length_take] at hj
  rw [hcell j (by omega)]
  have h1 : j < n := by omega
  simp [List.getD, h1]
end Go.Proofs.Ytbkcglfdliicpaa

namespace Go.Proofs.Ytbkcglfdliicpaa
open Go.RowKit
set_option linter.unusedVariables false
set_option maxRecDepth 100000

theorem hiB_put (n k : Nat) (hk : k < 8) : ((hiB n).take k ++ List.replicate (8 - k) 0).set k (UInt8.ofNat (n / 2 ^ (56 - 8 * k))) = (hiB n).take (k + 1) ++ List.replicate (8 - (k + 1)) 0 := by
  have e : (hiB n).take (k + 1) = (hiB n).take k ++ [UInt8.ofNat (n / 2 ^ (56 - 8 * k))] := by
    rw [List.take_add_one]
    congr 1
    simp [hiB, hk]
  have hl : ((hiB n).take k).length = k := by rw [List.length_take, hiB_len]; omega
  rw [List.set_append, if_neg (by rw [hl]; omega), hl, Nat.sub_self, show 8 - k = (8 - (k + 1)) + 1 by omega, List.replicate_succ, List.set_cons_zero, e]
  simp

set_option maxHeartbeats 800000 in
theorem rhigh_any (n : Nat) (w : World) (hn : n < 18446744073709551616) :
    Calls Try.prog 27 #[.int .u64 (n : Int)] w (RetOb 5 w (hiB n)) := by
  have mk : ∀ u : World, (Instr.makeSlice 22 (.int .i64 8) (.int .i64 8)).run Try.prog u = _ := fun u => make_bytes 8 (by omega) u
  have Hpost : Hid (∀ w', Ob 5 w' w.heap.size (.slice (some ⟨w.heap.size, 0, none⟩) 8 8) (hiB n) → Below w.heap.size w w' → RetOb 5 w (hiB n) (.returned (.slice (some ⟨w.heap.size, 0, none⟩) 8 8)) w') := Lib.hid (fun w' ho hb => ⟨_, rfl, ho, hb⟩)
  go_enter Try.func27, Try.ntmps27
  go_wp2
  go_loopw [4] (fun i wr => ∃ k : Nat, k ≤ 8 ∧ i = .int .i64 (k : Int) ∧ Ob 5 wr w.heap.size (.slice (some ⟨w.heap.size, 0, none⟩) 8 8) ((hiB n).take k ++ List.replicate (8 - k) 0) ∧ Below w.heap.size w wr) (fun i _ => 8 - (intOf i).toNat)
  case atStart => exact ⟨0, by omega, rfl, by simpa using own_made w 8 5 (by omega), (Below.refl _ _).alloc (Nat.le_refl _) _⟩
  case round =>
    obtain ⟨k, hk, rfl, hown, hbel⟩ := hrel
    by_cases hlt : k < 8
    · obtain ⟨b1, o1, e1, hc1⟩ := hown.bs.at_ (k := k) (by simp [hiB_len]; omega)
      injection e1 with e1
      injection e1 with e1 e2
      subst e1
      subst e2
      have hfr : wr.frozen? ⟨w.heap.size, k, none⟩ = false := hown.frozen k
      rw [Nat.zero_add] at hc1
      obtain ⟨q, hq⟩ : ∃ q, n / 2 ^ (56 - 8 * k) = q := ⟨_, rfl⟩
      obtain ⟨s, hs⟩ : ∃ s, 56 - 8 * k = s := ⟨_, rfl⟩
      have hql : q < 18446744073709551616 := by rw [← hq]; exact Nat.lt_of_le_of_lt (Nat.div_le_self _ _) hn
      have hst := hown.set_ k (UInt8.ofNat (n / 2 ^ (56 - 8 * k)))
      rw [hiB_put n k hlt, hq, show bval (UInt8.ofNat q) = .int .u8 ((q : Int) % 256) by simp [bval]] at hst
      have hbst : Below w.heap.size w (wr.setCell ⟨w.heap.size, k, none⟩ (.int .u8 ((q : Int) % 256))) := hbel.setCell (Nat.le_refl _) _
      have t1 : (56 : Int) - 8 * (k : Int) = (s : Int) := by omega
      have t2 : IntKind.u64.wrap (s : Int) = (s : Int) := by rw [IntKind.wrap_u64]; omega
      have t3 : (n : Int) / 2 ^ s = (q : Int) := by rw [← hq, hs]; simp
      have hs56 : s ≤ 56 := by omega
      have Hst := Lib.hid hst
      have Hbst := Lib.hid hbst
      clear hst hbst hq hs hown hbel
      go_wp2
      go_roundw
      case rel => exact ⟨k + 1, by omega, by go_num, Hst.out, Hbst.out⟩
      case measure => simp [intOf]; omega
    · obtain rfl : k = 8 := by omega
      have Hown : Hid (Ob 5 wr w.heap.size (.slice (some ⟨w.heap.size, 0, none⟩) 8 8) (hiB n)) := Lib.hid (by
        have e : (hiB n).take 8 = hiB n := List.take_of_length_le (by rw [hiB_len]; omega)
        rw [e] at hown
        simpa using hown)
      clear hown
      go_wp2
      go_ret
      exact Hpost.out _ Hown.out hbel

theorem take_snoc (l : List UInt8) (k : Nat) (h : k < l.length) : l.take (k + 1) = l.take k ++ [l.getD k 0] := by
  rw [List.take_add_one]
  simp [List.getD, List.getElem?_eq_getElem h]

set_option maxHeartbeats 800000 in
theorem rcount_any (A : Option Addr) (l : List UInt8) (c : Nat) (w : World) (hbs : Bs w A l) (hl : l.length = 200) :
    Calls Try.prog 39 #[.slice A 200 c] w fun e w' => e = .returned (.int .u64 (cntB l : Int)) ∧ w' = w := by
  have HL := Lib.hid hl
  have HS := Lib.hid hbs
  have HE : Hid (beW ((l.drop 64).take 8) = beW ((l.drop 64).take 8)) := Lib.hid rfl
  unfold cntB
  clear hl hbs
  go_enter Try.func39, Try.ntmps39
  go_wp2
  go_loopw [3, 4] (fun x i wr => ∃ k : Nat, k ≤ 8 ∧ i = .int .i64 ((64 + k : Nat) : Int) ∧ x = .int .u64 ((beW ((l.drop 64).take k)).toNat : Int) ∧ wr = w) (fun _ i _ => 72 - (intOf i).toNat)
  case atStart => exact ⟨0, by omega, rfl, rfl, rfl⟩
  case round =>
    obtain ⟨k, hk, rfl, rfl, rfl⟩ := hrel
    by_cases hlt : k < 8
    · obtain ⟨bb, oo, rfl, hc⟩ := HS.out.at_ (k := 64 + k) (by rw [HL.out]; omega)
      have hnx : beW ((l.drop 64).take (k + 1)) = pushB (beW ((l.drop 64).take k)) (l.getD (64 + k) 0) := by
        have e : (l.drop 64).getD k 0 = l.getD (64 + k) 0 := by simp [List.getD, List.getElem?_drop]
        rw [take_snoc _ k (by rw [List.length_drop, HL.out]; omega), beW_snoc, e]
      generalize beW ((l.drop 64).take k) = x at *
      generalize l.getD (64 + k) 0 = b at *
      obtain ⟨nx, hx⟩ : ∃ nx, pushB x b = nx := ⟨_, rfl⟩
      rw [hx] at hnx
      have hbl := b.toNat_lt
      have f1 := shl_w x 8
      have f2 := or_w (x <<< 8) (BitVec.ofNat 64 b.toNat)
      have f3 : x <<< 8 ||| BitVec.ofNat 64 b.toNat = nx := hx
      rw [push_nat, f3] at f2
      generalize x <<< 8 = y at *
      have f4 : IntKind.u64.wrap ((x.toNat : Int) * 256) = (y.toNat : Int) := f1
      have f5 : IntKind.u64.wrap (b.toNat : Int) = (b.toNat : Int) := by rw [IntKind.wrap_u64]; omega
      obtain ⟨m, hm⟩ : ∃ m, 64 + k = m := ⟨_, rfl⟩
      have p1 : 0 ≤ (m : Int) := by omega
      have p2 : (m : Int) < 72 := by omega
      have p3 : m < 200 := by omega
      rw [hm] at hc ⊢
      have HX := Lib.hid hnx
      have HM := Lib.hid hm
      clear hnx hx f1 f3 hm
      go_wp2
      go_roundw
      case rel => exact ⟨k + 1, by omega, by rw [← HM.out]; go_num, by rw [HX.out], trivial⟩
      case measure => simp [intOf]; have := HM.out; omega
    · obtain rfl : k = 8 := by omega
      go_wp2
      go_ret
      first | exact ⟨rfl, rfl⟩ | exact ⟨rfl, trivial⟩

set_option maxHeartbeats 1600000 in
theorem rmwords_any (A : Option Addr) (l : List UInt8) (c : Nat) (w : World) (hbs : Bs w A l) (hl200 : l.length = 200) :
    Calls Try.prog 40 #[.slice A 200 c] w fun e w' => e = .returned (.agg (tabW ((List.range 8).map (wordAt l)))) ∧ Below w.heap.size w w' := by
  rw [← wordsK_all 8 l (by omega)]
  have hz := fun u => zero_tabW 49 8 (by kernel_rfl) u
  obtain ⟨t0, ht0⟩ : ∃ t0, tabW (List.replicate 8 0) = t0 := ⟨_, rfl⟩
  have ht0s : t0.size = 8 := by rw [← ht0, tabW_size]; simp
  rw [ht0] at hz
  have h0 : ((w.alloc (.cells t0 49)).alloc (.cells t0 49)).heap[w.heap.size]? = some (.cells t0 49 (0, 0)) := heap_alloc2_old _ _ _
  have h2 : ((w.alloc (.cells t0 49)).alloc (.cells t0 49)).heap[w.heap.size + 1]? = some (.cells t0 49 (0, 0)) := heap_alloc2_new _ _ _
  have s0 : (Try.prog.info? 49).map (·.size) = some t0.size := by rw [ht0s]; kernel_rfl
  have o0 : t0.all (·.oneCell') = true := by rw [← ht0]; exact tabW_one _
  have hbe0 : Below w.heap.size w ((w.alloc (.cells t0 49)).alloc (.cells t0 49)) := below_alloc (below_alloc (Below.refl _ w) _) _
  have HT := Lib.hid ht0
  have HS := Lib.hid hbs
  have HL := Lib.hid hl200
  clear ht0 hbs hl200
  go_enter Try.func40, Try.ntmps40
  go_wp2_with (refine wpList_store_row rfl 49 (.tmp 3) (.tmp 5) rfl (w.heap.size + 1) t0 rfl rfl 49 t0 h2 s0 rfl o0 ?_)
  obtain ⟨W1, hW1⟩ : ∃ W, ((w.alloc (.cells t0 49)).alloc (.cells t0 49)).setRow (w.heap.size + 1) t0 = W := ⟨_, rfl⟩
  obtain ⟨g, hg⟩ : ∃ g, w.heap.size = g := ⟨_, rfl⟩
  have HG := Lib.hid hg
  have HB1 : Hid (W1.heap[g + 1]? = some (.cells t0 49 (0, 0))) := Lib.hid (by rw [← hW1, ← hg]; exact setRow_heap _ _ _ _ _ _ h2)
  have HB0 : Hid (W1.heap[g]? = some (.cells t0 49 (0, 0))) := Lib.hid (by rw [← hW1, ← hg, setRow_other _ _ _ _ (by omega)]; exact h0)
  have HBE : Hid (Below g w W1) := Lib.hid (by rw [← hW1, ← hg]; exact below_setRow hbe0 (by omega))
  rw [← HT.out] at HB1
  rw [hW1, hg]
  clear h0 h2 hbe0 hW1 hg
  go_loopw [4] (fun i wr => ∃ k : Nat, k ≤ 64 ∧ i = .int .i64 (k : Int) ∧ Hid (wr.heap[g]? = some (.cells t0 49 (0, 0))) ∧
      Hid (wr.heap[g + 1]? = some (.cells (tabW (wordsK 8 l k)) 49 (0, 0))) ∧ Hid (Below g w wr)) (fun i _ => 64 - (intOf i).toNat)
  case atStart => exact ⟨0, by omega, rfl, HB0, HB1, HBE⟩
  case round =>
    clear HB0 HB1 HBE
    obtain ⟨k, hk, rfl, HB0, HB1, HBE⟩ := hrel
    by_cases hlt : k < 64
    · have hl := wordsK_len 8 l k
      obtain ⟨d, hd⟩ : ∃ d, k / 8 = d := ⟨_, rfl⟩
      have hd8 : d < 8 := by omega
      have hck : wr.cell? ⟨g + 1, d, none⟩ = some (.int .u64 ((wG (wordsK 8 l k) d).toNat : Int)) := by rw [cell_of_row _ _ _ _ _ _ HB1.out, tabW_get _ _ (by omega)]
      have hfz : wr.frozen? ⟨g + 1, d, none⟩ = false := by have := HB1.out; simp [World.frozen?, this]
      obtain ⟨bb, oo, rfl, hc0⟩ := HS.out.at_ (k := k) (by rw [HL.out]; omega)
      have hc : wr.cell? ⟨bb, oo + k, none⟩ = some (.int .u8 ((l.getD k 0).toNat : Int)) := by
        have hlt := World.block_lt_of_cell? w _ hc0
        rw [HBE.out.cell (by rw [HG.out] at hlt; exact hlt)]; exact hc0
      have hset : (wordsK 8 l k).set d (pushB (wG (wordsK 8 l k) d) (l.getD k 0)) = wordsK 8 l (k + 1) := by rw [wordsK, hd]
      generalize wG (wordsK 8 l k) d = x at *
      generalize l.getD k 0 = b at *
      obtain ⟨nx, hnx⟩ : ∃ nx, pushB x b = nx := ⟨_, rfl⟩
      rw [hnx] at hset
      have hbl := b.toNat_lt
      have f1 := shl_w x 8
      have f2 := or_w (x <<< 8) (BitVec.ofNat 64 b.toNat)
      have f3 : x <<< 8 ||| BitVec.ofNat 64 b.toNat = nx := hnx
      rw [push_nat, f3] at f2
      generalize x <<< 8 = y at *
      have f4 : IntKind.u64.wrap ((x.toNat : Int) * 256) = (y.toNat : Int) := f1
      have f5 : IntKind.u64.wrap (b.toNat : Int) = (b.toNat : Int) := by rw [IntKind.wrap_u64]; omega
      have t1 : (k : Int).tdiv 8 = (d : Int) := by rw [Int.tdiv_eq_ediv_of_nonneg (by omega)]; omega
      have t2 : (k : Int) / 8 = (d : Int) := by omega
      have t3 : IntKind.i64.wrap (d : Int) = (d : Int) := by rw [IntKind.wrap_i64]; omega
      have t4 : IntKind.i64.wrap (k : Int) = (k : Int) := by rw [IntKind.wrap_i64]; omega
      have p1 : 0 ≤ (d : Int) := by omega
      have p2 : (d : Int) < 8 := by omega
      have p3 : 0 ≤ (k : Int) := by omega
      have p4 : (k : Int) < 200 := by omega
      have HN : Hid (((wr.drewN 1).setCell ⟨g + 1, d, none⟩ (.int .u64 (nx.toNat : Int))).heap[g]? = some (.cells t0 49 (0, 0))) ∧
          Hid (((wr.drewN 1).setCell ⟨g + 1, d, none⟩ (.int .u64 (nx.toNat : Int))).heap[g + 1]? = some (.cells (tabW (wordsK 8 l (k + 1))) 49 (0, 0))) ∧ Hid (Below g w ((wr.drewN 1).setCell ⟨g + 1, d, none⟩ (.int .u64 (nx.toNat : Int)))) := by
        have e := setCell_eq_setRow (wr.drewN 1) (g + 1) d _ _ _ (.int .u64 (nx.toNat : Int)) HB1.out
        refine ⟨Lib.hid ?_, Lib.hid ?_, Lib.hid ((below_drewN' HBE.out 1).setCell (p := ⟨g + 1, d, none⟩) (by show g ≤ g + 1; omega) _)⟩
        · rw [e, setRow_other _ _ _ _ (by omega)]; exact HB0.out
        · rw [e, setRow_heap _ _ _ _ _ _ (show (wr.drewN 1).heap[g + 1]? = _ from HB1.out), tabW_set, hset]
      obtain ⟨n1, n2, n3⟩ := HN
      clear hset hnx hl HB0 HB1 HBE f1 f3 hc0
      go_wp2_with fail
      refine wp_region_still_tail 14 (by kernel_rfl) (by kernel_rfl) ?_
      simp only [List.take_succ_cons, List.take_zero, List.drop_succ_cons, List.drop_zero]
      iterate 14 still_step
      refine wpStill_nil ?_
      go_wp2_with fail
      go_roundw
      case rel => exact ⟨k + 1, by omega, by go_num, n1, n2, n3⟩
      case measure => simp [intOf]; omega
    · obtain rfl : k = 64 := by omega
      have h1 := HB1.out
      have h0 := HB0.out
      have s1 : (Try.prog.info? 49).map (·.size) = some (tabW (wordsK 8 l 64)).size := by rw [tabW_size, wordsK_len]; kernel_rfl
      have sz : t0.size = (tabW (wordsK 8 l 64)).size := by rw [ht0s, tabW_size, wordsK_len]
      have o1 := tabW_one (wordsK 8 l 64)
      have HB := Lib.hid (show Below w.heap.size w (wr.setRow g (tabW (wordsK 8 l 64))) by
        rw [HG.out]
        exact below_setRow HBE.out (Nat.le_refl _))
      obtain ⟨t1, ht1⟩ : ∃ t1, tabW (wordsK 8 l 64) = t1 := ⟨_, rfl⟩
      rw [ht1] at h1 s1 sz o1 HB
      have HT1 := Lib.hid ht1
      clear ht1 HB0 HB1 HBE
      go_wp2_with (first
        | (refine wpList_load_row rfl 49 (.tmp 3) rfl (g + 1) rfl 49 t1 (0, 0) _ h1 Try.underlying49 rfl s1 ?_)
        | (refine wpList_store_row rfl 49 (.tmp 2) (.tmp 24) rfl g t1 rfl rfl 49 t0 h0 s1 sz o1 ?_))
      (try simp only [Exit.inBlock, Exit.then])
      refine bodyPost_ret (results_cell_row rfl _ _ g _ t1 _ _ rfl (setRow_heap wr _ _ _ _ _ h0) Try.underlying49 rfl s1) rfl ?_
      exact ⟨by rw [HT1.out], HB.out⟩

set_option maxHeartbeats 1600000 in
theorem rbytes_any (s : St) (w : World) : Calls Try.prog 37 #[.agg (tabW s.l)] w (RetOb 5 w (bytesS s)) := by
  have HH : Hid (∀ (x : W64) (W : World), Calls Try.prog 27 #[.int .u64 (x.toNat : Int)] W (RetOb 5 W (hiB x.toNat))) := Lib.hid fun x W => rhigh_any x.toNat W x.isLt
  have Hpost : Hid (∀ v w', Ob 5 w' w.heap.size v (bytesS s) → Below w.heap.size w w' → RetOb 5 w (bytesS s) (.returned v) w') := Lib.hid (fun v w' ho hb => ⟨v, rfl, ho, hb⟩)
  have hlist : ∀ k, k ≤ 8 → ((s.l.take k).flatMap fun x => hiB x.toNat).length = 8 * k := fun k hk => by
    have : ∀ l : List W64, (l.flatMap fun x => hiB x.toNat).length = 8 * l.length := fun l => by
      induction l with
      | nil => rfl
      | cons a l ih => rw [List.flatMap_cons, List.length_append, ih, hiB_len, List.length_cons]; omega
    rw [this, List.length_take, St.len]; omega
  have HLI := Lib.hid hlist
  obtain ⟨S, hS⟩ : ∃ t, tabW s.l = t := ⟨_, rfl⟩
  have h0 : (w.alloc (.cells S 49)).heap[w.heap.size]? = some (.cells S 49 (0, 0)) := heap_alloc_new _ _
  rw [hS]
  have HS := Lib.hid hS
  obtain ⟨W1, hW1⟩ : ∃ W, w.alloc (.cells S 49) = W := ⟨_, rfl⟩
  have HB : Hid (Below w.heap.size w W1) := Lib.hid (by rw [← hW1]; exact below_alloc (Below.refl _ w) _)
  have HZ : Hid (w.heap.size < W1.heap.size) := Lib.hid (by rw [← hW1, World.size_alloc]; omega)
  rw [hW1] at h0
  have H0 := Lib.hid h0
  have HW1 := Lib.hid hW1
  clear h0 hS hW1 hlist
  go_enter Try.func37, Try.ntmps37
  go_wp2_with fail
  rw [HW1.out]
  clear HW1
  go_loopw [3, 4] (fun v i wr => ∃ k : Nat, k ≤ 8 ∧ i = .int .i64 (k : Int) ∧ Hid (Ob 5 wr W1.heap.size v ((s.l.take k).flatMap fun x => hiB x.toNat)) ∧ Hid (Below W1.heap.size W1 wr)) (fun _ i _ => 8 - (intOf i).toNat)
  case atStart => exact ⟨0, by omega, rfl, Lib.hid (Ob.nil_ _ _ _), Lib.hid (Below.refl _ _)⟩
  case round =>
    obtain ⟨k, hk, rfl, HO, HBE⟩ := hrel
    by_cases hlt : k < 8
    · obtain ⟨x, hx⟩ : ∃ x, wG s.l k = x := ⟨_, rfl⟩
      have hck : wr.cell? ⟨w.heap.size, k, none⟩ = some (.int .u64 (x.toNat : Int)) := by
        rw [HBE.out.cell (by show w.heap.size < W1.heap.size; exact HZ.out), cell_of_row _ _ _ _ _ _ H0.out, ← HS.out, tabW_get _ _ (by rw [St.len]; exact hlt), hx]
      have hnx : ((s.l.take (k + 1)).flatMap fun x => hiB x.toNat) = ((s.l.take k).flatMap fun x => hiB x.toNat) ++ hiB x.toNat := by
        have e : s.l.take (k + 1) = s.l.take k ++ [x] := by
          have hl := St.len s
          rw [List.take_add_one]
          congr 1
          rw [← hx]
          simp [wG, List.getD, List.getElem?_eq_getElem (show k < s.l.length by omega)]
        rw [e, List.flatMap_append]
        simp
      have HNX := Lib.hid hnx
      have hlen := HLI.out k hk
      obtain ⟨m, hm⟩ : ∃ m, ((s.l.take k).flatMap fun x => hiB x.toNat) = m := ⟨_, rfl⟩
      rw [hm] at HO HNX hlen
      have p1 : 0 ≤ (k : Int) := by omega
      have p2 : (k : Int) < 8 := by omega
      have HLE := Lib.hid hlen
      clear hx hnx hm hlen
      obtain ⟨A3, c3, rfl, -, -⟩ := HO.out.form
      go_wp2_with fail
      with_reducible refine (HH.out x _).mono ?_
      rintro e w4 ⟨v4, rfl, ho4, hb4⟩
      obtain ⟨A4, c4, rfl, -, -⟩ := ho4.form
      have O3 := Lib.hid (Ob.below HO.out hb4)
      have O4 := Lib.hid ho4
      have HB4 := Lib.hid (below_on HBE.out hb4)
      clear ho4 hb4
      go_wp2_with (at_builtin; refine wpList_append_bs rfl (.tmp 9) (.tmp 13) 22 rfl W1.heap.size 5 Try.underlying22 info5 _ m rfl O3.out _ (hiB x.toNat) _ _ rfl rfl O4.out.bs (by rw [HLE.out, hiB_len]; omega) HB4.out.size ?_; intro v5 w5 ho5 hgr5; have HB5 := Lib.hid (HB4.out.grown hgr5 HB4.out.size (fun k hk => O3.out.fresh k (own_at hk))); have HO5 := Lib.hid ho5; clear ho5 hgr5)
      go_roundw
      case rel => exact ⟨k + 1, by omega, by go_num, by rw [HNX.out]; exact HO5, HB5⟩
      case measure => simp [intOf]; omega
    · obtain rfl : k = 8 := by omega
      have HO2 : Hid (Ob 5 wr W1.heap.size u3 (bytesS s)) := Lib.hid (by
        have := HO.out
        rwa [show s.l.take 8 = s.l from List.take_of_length_le (by rw [St.len]; omega)] at this)
      clear HO
      obtain ⟨A3, c3, rfl, -, -⟩ := HO2.out.form
      go_wp2_with fail
      go_ret
      exact Hpost.out _ _ (HO2.out.low HB.out.size) (below_next HB.out HBE.out)
end Go.Proofs.Ytbkcglfdliicpaa

namespace Go.Proofs.Ytbkcglfdliicpaa
open Go.RowKit
set_option linter.unusedVariables false
set_option maxRecDepth 100000

/-- bytes in a row -/
def arrB (l : List UInt8) : Array Value := (l.map bval).toArray
theorem arrB_size (l : List UInt8) : (arrB l).size = l.length := by simp [arrB]
theorem arrB_get (l : List UInt8) (i : Nat) (h : i < l.length) : (arrB l)[i]? = some (.int .u8 ((l.getD i 0).toNat : Int)) := by
  simp [arrB, List.getD, List.getElem?_eq_getElem h, bval]
theorem arrB_set (l : List UInt8) (i : Nat) (x : UInt8) : (arrB l).setIfInBounds i (.int .u8 (x.toNat : Int)) = arrB (l.set i x) := by
  unfold arrB
  rw [List.map_set]
  simp [bval]
theorem arrB_one (l : List UInt8) : (arrB l).all (·.oneCell') = true := by
  simp [arrB, Value.oneCell', bval]
theorem zero_arr (T : TypeId) (z : Array Value) (n : Nat) (h : (Try.prog.info? T).map (fun i => (i.zero, i.size)) = some (some (.agg z), n)) (u : World) : (zeroValue T).run Try.prog u = .ok (.agg z) u := by
  cases hi : Try.prog.info? T with
  | none => rw [hi] at h; cases h
  | some i =>
    rw [hi] at h
    simp at h
    simp [zeroValue, typeInfo, hi, h.1]

/-- the bytes laid so far -/
theorem lay_step (l : List UInt8) (K k : Nat) (hK : k < K) (hl : l.length = K) : (l.take k ++ List.replicate (K - k) 0).set k (l.getD k 0) = l.take (k + 1) ++ List.replicate (K - (k + 1)) 0 := by
  have hk : (l.take k).length = k := by rw [List.length_take]; omega
  rw [List.set_append, if_neg (by omega), hk, Nat.sub_self, show K - k = (K - (k + 1)) + 1 by omega, List.replicate_succ, List.set_cons_zero, take_snoc l k (by omega)]
  simp

set_option maxHeartbeats 1600000 in
theorem rflat_any (s : St) (w : World) : Calls Try.prog 28 #[.agg (tabW s.l)] w fun e w' => e = .returned (.agg (arrB (bytesS s))) ∧ Below w.heap.size w w' := by
  have HBY := Lib.hid fun W : World => rbytes_any s W
  obtain ⟨B, hB⟩ : ∃ B, bytesS s = B := ⟨_, rfl⟩
  have hBl : B.length = 64 := by rw [← hB, bytesS_len]
  have hz := fun u => zero_arr 24 (arrB (List.replicate 64 0)) 64 (by kernel_rfl) u
  obtain ⟨t0, ht0⟩ : ∃ t0, arrB (List.replicate 64 0) = t0 := ⟨_, rfl⟩
  have ht0s : t0.size = 64 := by rw [← ht0, arrB_size]; simp
  have o0 : t0.all (·.oneCell') = true := by rw [← ht0]; exact arrB_one _
  have s0 : (Try.prog.info? 24).map (·.size) = some t0.size := by rw [ht0s]; kernel_rfl
  obtain ⟨S, hS⟩ : ∃ t, tabW s.l = t := ⟨_, rfl⟩
  have nS : S.size = 8 := by rw [← hS, tabW_size]; rfl
  have iS : (Try.prog.info? 49).map (·.size) = some S.size := by rw [nS]; kernel_rfl
  rw [ht0] at hz
  rw [hS, hB] at HBY
  rw [hS, hB]
  have HT := Lib.hid ht0
  have HBL := Lib.hid hBl
  have z1 : (w.alloc (.cells S 49)).heap.size = w.heap.size + 1 := World.size_alloc _ _
  have z2 : ((w.alloc (.cells S 49)).alloc (.cells t0 24)).heap.size = w.heap.size + 1 + 1 := by rw [World.size_alloc, z1]
  obtain ⟨W1, hW1⟩ : ∃ W, (((w.alloc (.cells S 49)).alloc (.cells t0 24)).alloc (.cells t0 24)).setRow (w.heap.size + 1 + 1) t0 = W := ⟨_, rfl⟩
  have h2 : (((w.alloc (.cells S 49)).alloc (.cells t0 24)).alloc (.cells t0 24)).heap[w.heap.size + 1 + 1]? = some (.cells t0 24 (0, 0)) := by
    rw [← z2]; exact heap_alloc_new _ _
  have a2 : W1.heap[w.heap.size + 1 + 1]? = some (.cells t0 24 (0, 0)) := by rw [← hW1]; exact setRow_heap _ _ _ _ _ _ h2
  have a1 : W1.heap[w.heap.size + 1]? = some (.cells t0 24 (0, 0)) := by
    rw [← hW1, setRow_other _ _ _ _ (by omega), heap_alloc_old _ _ (by rw [z2]; omega), ← z1]
    exact heap_alloc_new _ _
  have a0 : W1.heap[w.heap.size]? = some (.cells S 49 (0, 0)) := by
    rw [← hW1, setRow_other _ _ _ _ (by omega), heap_alloc_old _ _ (by rw [z2]; omega), heap_alloc_old _ _ (by rw [z1]; omega)]
    exact heap_alloc_new _ _
  have ab : Below w.heap.size w W1 := by rw [← hW1]; exact below_setRow (below_alloc (below_alloc (below_alloc (Below.refl _ w) _) _) _) (by omega)
  have az : W1.heap.size = w.heap.size + 1 + 1 + 1 := by rw [← hW1, size_setRow, World.size_alloc, z2]
  have A1 := Lib.hid a1
  have A2 := Lib.hid a2
  have AB := Lib.hid ab
  have AZ := Lib.hid az
  have HW1 := Lib.hid hW1
  clear a1 a2 ab az z1 z2 hW1 hS hB hBl ht0 nS
  go_enter Try.func28, Try.ntmps28
  go_wp2_with (first
    | (refine wpList_store_row rfl 24 (.tmp 3) (.tmp 6) rfl (w.heap.size + 1 + 1) t0 rfl rfl 24 t0 h2 s0 rfl o0 ?_; rw [HW1.out])
    | (refine wpList_load_row rfl 49 (.tmp 1) rfl w.heap.size rfl 49 S (0, 0) _ a0 Try.underlying49 rfl iS ?_))
  with_reducible refine (HBY.out _).mono ?_
  rintro e w2 ⟨v2, rfl, ho2, hb2⟩
  obtain ⟨A3, c3, rfl, hbs2, -⟩ := ho2.formN HBL.out (by omega)
  obtain ⟨g, hg⟩ : ∃ g, w.heap.size = g := ⟨_, rfl⟩
  have HG := Lib.hid hg
  have hb1 := hb2.block (g + 1) (by rw [AZ.out, hg]; omega)
  rw [← hg, A1.out] at hb1
  have hb2' := hb2.block (g + 1 + 1) (by rw [AZ.out, hg]; omega)
  rw [← hg, A2.out] at hb2'
  have HBS := Lib.hid hbs2
  have HB1 := Lib.hid hb1
  have HB2 : Hid (w2.heap[w.heap.size + 1 + 1]? = some (.cells (arrB (B.take 0 ++ List.replicate (64 - 0) 0)) 24 (0, 0))) := Lib.hid (by rw [hb2', ← HT.out]; rfl)
  have HBE := Lib.hid (below_next AB.out hb2)
  have HZ2 : Hid (g + 1 + 1 + 1 ≤ w2.heap.size) := Lib.hid (by have := hb2.size; rw [AZ.out, hg] at this; exact this)
  have HFR : Hid (∀ k, At (some ⟨A3, 0, none⟩) k → g + 1 + 1 < k) := Lib.hid (fun k hk => by have := ho2.fresh k hk; rw [AZ.out, hg] at this; omega)
  rw [hg] at HB1 HB2 HBE ⊢
  clear hb1 hb2' hb2 ho2 hbs2 hg A1 A2 AB AZ HW1 a0 h2 HBY
  go_wp2_with fail
  go_loopw [5] (fun i wr => ∃ k : Nat, k ≤ 64 ∧ i = .int .i64 (k : Int) ∧ Hid (wr.heap[g + 1]? = some (.cells t0 24 (0, 0))) ∧ Hid (wr.heap[g + 1 + 1]? = some (.cells (arrB (B.take k ++ List.replicate (64 - k) 0)) 24 (0, 0))) ∧ Hid (Bs wr (some ⟨A3, 0, none⟩) B) ∧ Hid (Below g w wr)) (fun i _ => 64 - (intOf i).toNat)
  case atStart => exact ⟨0, by omega, rfl, HB1, HB2, HBS, HBE⟩
  case round =>
    clear HB1 HB2 HBE HBS
    obtain ⟨k, hk, rfl, HB1, HB2, HBS, HBE⟩ := hrel
    by_cases hlt : k < 64
    · obtain ⟨bb, oo, e1, hc⟩ := HBS.out.at_ (k := k) (by rw [HBL.out]; exact hlt)
      injection e1 with e1
      injection e1 with e1 e2
      subst e1
      subst e2
      have hgk : g + 1 + 1 < A3 := HFR.out A3 ⟨_, rfl, rfl⟩
      have hfz : wr.frozen? ⟨g + 1 + 1, k, none⟩ = false := by have := HB2.out; simp [World.frozen?, this]
      have hlen : (B.take k ++ List.replicate (64 - k) 0).length = 64 := by rw [List.length_append, List.length_take, HBL.out, List.length_replicate]; omega
      have hck : wr.cell? ⟨g + 1 + 1, k, none⟩ = some (.int .u8 (((B.take k ++ List.replicate (64 - k) 0).getD k 0).toNat : Int)) := by rw [cell_of_row _ _ _ _ _ _ HB2.out, arrB_get _ _ (by omega)]
      have hset := lay_step B 64 k hlt HBL.out
      generalize (B.take k ++ List.replicate (64 - k) 0).getD k 0 = old at *
      generalize B.getD k 0 = x at *
      rw [Nat.zero_add] at hc
      have e := setCell_eq_setRow wr (g + 1 + 1) k _ _ _ (.int .u8 (x.toNat : Int)) HB2.out
      have n1 : Hid ((wr.setCell ⟨g + 1 + 1, k, none⟩ (.int .u8 (x.toNat : Int))).heap[g + 1]? = some (.cells t0 24 (0, 0))) := Lib.hid (by rw [e, setRow_other _ _ _ _ (by omega)]; exact HB1.out)
      have n2 : Hid ((wr.setCell ⟨g + 1 + 1, k, none⟩ (.int .u8 (x.toNat : Int))).heap[g + 1 + 1]? = some (.cells (arrB (B.take (k + 1) ++ List.replicate (64 - (k + 1)) 0)) 24 (0, 0))) := Lib.hid (by
        rw [e, setRow_heap _ _ _ _ _ _ HB2.out, arrB_set, hset])
      have n3 : Hid (Below g w (wr.setCell ⟨g + 1 + 1, k, none⟩ (.int .u8 (x.toNat : Int)))) := Lib.hid (HBE.out.setCell (p := ⟨g + 1 + 1, k, none⟩) (by show g ≤ g + 1 + 1; omega) _)
      have n4 : Hid (Bs (wr.setCell ⟨g + 1 + 1, k, none⟩ (.int .u8 (x.toNat : Int))) (some ⟨A3, 0, none⟩) B) := Lib.hid (by
        refine HBS.out.only (F := fun j => j = g + 1 + 1) ⟨rfl, rfl, rfl, by rw [e]; simp, fun j hj hn => by rw [e]; exact setRow_other _ _ _ _ hn⟩ ?_
        rintro j ⟨a, ha, rfl⟩ hj
        injection ha with ha
        subst ha
        simp at hj
        omega)
      have p1 : 0 ≤ (k : Int) := by omega
      have p2 : (k : Int) < 64 := by omega
      clear e hset hlen HB1 HB2 HBS HBE
      go_wp2_with fail
      go_roundw
      case rel => exact ⟨k + 1, by omega, by go_num, n1, n2, n4, n3⟩
      case measure => simp [intOf]; omega
    · obtain rfl : k = 64 := by omega
      have e : B.take 64 ++ List.replicate (64 - 64) 0 = B := by rw [List.take_of_length_le (by rw [HBL.out]; omega)]; simp
      have h1 := HB2.out
      rw [e] at h1
      have h0 := HB1.out
      obtain ⟨t1, ht1⟩ : ∃ t1, arrB B = t1 := ⟨_, rfl⟩
      have n1 : t1.size = 64 := by rw [← ht1, arrB_size, HBL.out]
      have s1 : (Try.prog.info? 24).map (·.size) = some t1.size := by rw [n1]; kernel_rfl
      have sz : t0.size = t1.size := by rw [n1, ht0s]
      have o1 : t1.all (·.oneCell') = true := by rw [← ht1]; exact arrB_one _
      have HB := Lib.hid (show Below w.heap.size w (wr.setRow (g + 1) t1) by rw [HG.out]; exact below_setRow HBE.out (by omega))
      rw [ht1] at h1
      have HT1 := Lib.hid ht1
      clear ht1 HB1 HB2 HBE HBS e
      go_wp2_with (first
        | (refine wpList_load_row rfl 24 (.tmp 3) rfl (g + 1 + 1) rfl 24 t1 (0, 0) _ h1 Try.underlying24 rfl s1 ?_)
        | (refine wpList_store_row rfl 24 (.tmp 2) (.tmp 19) rfl (g + 1) t1 rfl rfl 24 t0 h0 s1 sz o1 ?_))
      (try simp only [Exit.inBlock, Exit.then])
      refine bodyPost_ret (results_cell_row rfl _ _ (g + 1) _ t1 _ _ rfl (setRow_heap wr _ _ _ _ _ h0) Try.underlying24 rfl s1) rfl ?_
      exact ⟨by rw [HT1.out], HB.out⟩

/-- what stands where, while the blocks are gone over -/
structure OverI (w wr : World) (g : Nat) (S z8 : Array Value) : Prop where
  s : wr.heap[g]? = some (.cells S 49 (0, 0))
  z : wr.heap[g + 1]? = some (.cells z8 49 (0, 0))
  below : Below g w wr
theorem OverI.lt {w wr : World} {g : Nat} {S z8 : Array Value} (h : OverI w wr g S z8) : g + 1 < wr.heap.size := (Array.getElem?_eq_some_iff.1 h.z).1
theorem OverI.call {w wr W : World} {g : Nat} {S z8 : Array Value} (h : OverI w wr g S z8) (hb : Below wr.heap.size wr W) : OverI w W g S z8 := by
  have hl := h.lt
  exact ⟨by rw [hb.block _ (by omega)]; exact h.s, by rw [hb.block _ (by omega)]; exact h.z, h.below.trans (hb.mono (by omega))⟩
theorem OverI.row {w wr : World} {g : Nat} {S z8 : Array Value} (h : OverI w wr g S z8) (o : Obj) (M : Array Value) : OverI w ((wr.alloc o).setRow wr.heap.size M) g S z8 := by
  have hl := h.lt
  refine ⟨?_, ?_, below_setRow (h.below.alloc (by omega) _) (by omega)⟩
  · rw [setRow_other _ _ _ _ (by omega), heap_alloc_old _ _ (by omega)]; exact h.s
  · rw [setRow_other _ _ _ _ (by omega), heap_alloc_old _ _ (by omega)]; exact h.z
theorem OverI.set {w wr : World} {g : Nat} {S z8 : Array Value} (h : OverI w wr g S z8) (S' : Array Value) : OverI w (wr.setRow g S') g S' z8 :=
  ⟨setRow_heap _ _ _ _ _ _ h.s, by rw [setRow_other _ _ _ _ (by omega)]; exact h.z, below_setRow h.below (by omega)⟩

def sLen (v : Value) : Nat := match v with | .slice _ n _ => n | _ => 0

set_option maxHeartbeats 3200000 in
theorem rover_any (s : St) (A : Option Addr) (l : List UInt8) (c : Nat) (w : World) (hbs : Bs w A l) (hlc : l.length ≤ c) :
    Calls Try.prog 29 #[.agg (tabW s.l), .slice A l.length c] w fun e w' => e = .returned (.agg (tabW (over s l).l)) ∧ Below w.heap.size w w' := by
  have hz8 := fun u => zero_tabW 49 8 (by kernel_rfl) u
  have hz16 := fun u => zero_tabW 64 16 (by kernel_rfl) u
  obtain ⟨S, hS⟩ : ∃ t, tabW s.l = t := ⟨_, rfl⟩
  obtain ⟨z8, hz8e⟩ : ∃ t, tabW (List.replicate 8 0) = t := ⟨_, rfl⟩
  obtain ⟨z16, hz16e⟩ : ∃ t, tabW (List.replicate 16 0) = t := ⟨_, rfl⟩
  have n8 : z8.size = 8 := by rw [← hz8e, tabW_size]; simp
  have n16 : z16.size = 16 := by rw [← hz16e, tabW_size]; simp
  rw [hz8e] at hz8
  rw [hz16e] at hz16
  have HI0 : Hid (OverI w ((w.alloc (.cells S 49)).alloc (.cells z8 49)) w.heap.size S z8) :=
    Lib.hid ⟨heap_alloc2_old _ _ _, heap_alloc2_new _ _ _, below_alloc (below_alloc (Below.refl _ w) _) _⟩
  have HWD : Hid (∀ (A : Option Addr) (m : List UInt8) (c : Nat) (W : World), m.length = 128 → Bs W A m → Calls Try.prog 45 #[.slice A 128 c] W fun e w' => e = .returned (.tuple #[.agg (tabW (wordsL m)), .bool true]) ∧ Below W.heap.size W w') := Lib.hid fun A m c W hm hb => by
    have h := rwords_any A m c W hb
    rw [hm, if_pos rfl, show decide (128 = 128) = true by decide] at h
    exact h
  have HST : Hid (∀ (s : St) (m : List W64) (W : World), m.length = 16 → Calls Try.prog 46 #[.agg (tabW s.l), .agg (tabW m)] W fun e w' => e = .returned (.agg (tabW (stepW ksL s m).l)) ∧ Below W.heap.size W w') := Lib.hid fun s m W hm => rpress_any s m hm W
  have HS := Lib.hid hS
  have HBS := Lib.hid hbs
  rw [hS]
  clear hS hz8e hz16e hbs
  go_enter Try.func29, Try.ntmps29
  go_wp2_with fail
  obtain ⟨W1, hW1⟩ : ∃ W, (w.alloc (.cells S 49)).alloc (.cells z8 49) = W := ⟨_, rfl⟩
  obtain ⟨g, hg⟩ : ∃ g, w.heap.size = g := ⟨_, rfl⟩
  rw [hW1, hg] at HI0
  rw [hW1, hg]
  have HG := Lib.hid hg
  clear hW1 hg
  go_loopw [1] (fun v wr => ∃ (k L C : Nat) (A' : Option Addr), 128 * k ≤ l.length ∧ L = l.length - 128 * k ∧ C = c - 128 * k ∧ v = .slice A' L C ∧ Hid (Bs w A' (l.drop (128 * k))) ∧ Hid (OverI w wr g (tabW (overN s l k).l) z8)) (fun v _ => sLen v)
  case atStart => exact ⟨0, l.length, c, A, by omega, by omega, by omega, rfl, HBS, by rw [show overN s l 0 = s from rfl, HS.out]; exact HI0⟩
  case round =>
    clear HI0 HBS
    obtain ⟨k, L, C, A', hk, hL, hC, rfl, HBS, HI⟩ := hrel
    by_cases hlt : 128 ≤ L
    · have hdl : (l.drop (128 * k)).length = L := by rw [List.length_drop, hL]
      obtain ⟨A2, hA2, -, hs2⟩ := sl_tail A' w (l.drop (128 * k)) HBS.out C (by omega) 128 (by omega) .i64
      rw [hdl] at hs2
      rw [List.drop_drop] at hA2
      have hs2' : ∀ u, (Instr.slice 22 (.slice A' L C) (some (.int .i64 128)) none none).run Try.prog u = .ok (.slice A2 (L - 128) (C - 128)) u := fun u => hs2 128 rfl u
      have hs1 : ∀ u, (Instr.slice 22 (.slice A' L C) none (some (.int .i64 128)) none).run Try.prog u = .ok (.slice A' 128 C) u := fun u => sl_head A' L C 128 (by omega) .i64 128 rfl u
      have hbl : (blockAt l k).length = 128 := by unfold blockAt; rw [List.length_take, hdl]; omega
      have HBK : Hid (Bs wr A' (blockAt l k)) := Lib.hid ((bs_take HBS.out 128).below (by rw [HG.out]; exact HI.out.below))
      have HA2 : Hid (Bs w A2 (l.drop (128 * (k + 1)))) := Lib.hid (by rw [show 128 * (k + 1) = 128 * k + 128 by omega]; exact hA2)
      have hml : (wordsL (blockAt l k)).length = 16 := by rw [wordsL_is _ (by omega)]; simp
      have HWK := Lib.hid (HWD.out A' (blockAt l k) C wr hbl HBK.out)
      have HSK := Lib.hid (fun W => HST.out (overN s l k) (wordsL (blockAt l k)) W hml)
      obtain ⟨M, hM⟩ : ∃ t, tabW (wordsL (blockAt l k)) = t := ⟨_, rfl⟩
      have nM : M.size = 16 := by rw [← hM, tabW_size, hml]
      have oM : M.all (·.oneCell') = true := by rw [← hM]; exact tabW_one _
      have iM : (Try.prog.info? 64).map (·.size) = some M.size := by rw [nM]; kernel_rfl
      have hnext : stepW ksL (overN s l k) (wordsL (blockAt l k)) = overN s l (k + 1) := rfl
      rw [hM, hnext] at HSK
      rw [hM] at HWK
      obtain ⟨V, hV⟩ : ∃ t, tabW (overN s l k).l = t := ⟨_, rfl⟩
      obtain ⟨V', hV'⟩ : ∃ t, tabW (overN s l (k + 1)).l = t := ⟨_, rfl⟩
      have nV : V.size = 8 := by rw [← hV, tabW_size]; rfl
      have nV' : V'.size = 8 := by rw [← hV', tabW_size]; rfl
      have oV' : V'.all (·.oneCell') = true := by rw [← hV']; exact tabW_one _
      have iV : (Try.prog.info? 49).map (·.size) = some V.size := by rw [nV]; kernel_rfl
      have iV' : (Try.prog.info? 49).map (·.size) = some V'.size := by rw [nV']; kernel_rfl
      rw [hV, hV'] at HSK
      rw [hV] at HI
      have HV' := Lib.hid hV'
      have zM : z16.size = M.size := by rw [n16, nM]
      have zV : V.size = V'.size := by rw [nV, nV']
      have hge : (128 : Int) ≤ (L : Int) := by omega
      have HLe := Lib.hid hL
      have HCe := Lib.hid hC
      clear hL hC
      clear hM hV hV' hnext hml hbl hs2 hdl hA2 HBK HBS nM nV nV' HWD HST
      go_wp2_with fail
      with_reducible refine HWK.out.mono ?_
      rintro e w1 ⟨rfl, hb1⟩
      have HI1 := Lib.hid (HI.out.call hb1)
      have hm0 : (w1.alloc (.cells z16 64)).heap[w1.heap.size]? = some (.cells z16 64 (0, 0)) := heap_alloc_new _ _
      have hm1 : ((w1.alloc (.cells z16 64)).setRow w1.heap.size M).heap[w1.heap.size]? = some (.cells M 64 (0, 0)) := setRow_heap _ _ _ _ _ _ hm0
      have HI2 := Lib.hid (HI1.out.row (.cells z16 64) M)
      have hv2 := HI2.out.s
      clear hb1 HI
      go_wp2_with (first
        | (refine wpList_store_row rfl 64 (.tmp 5) (.tmp 14) rfl w1.heap.size M rfl rfl 64 z16 hm0 iM zM oM ?_)
        | (refine wpList_load_row rfl 49 (.tmp 2) rfl g rfl 49 V (0, 0) _ hv2 Try.underlying49 rfl iV ?_)
        | (refine wpList_load_row rfl 64 (.tmp 5) rfl w1.heap.size rfl 64 M (0, 0) _ hm1 Try.underlying64 rfl iM ?_))
      with_reducible refine (HSK.out _).mono ?_
      rintro e w2 ⟨rfl, hb2⟩
      have HI3 := Lib.hid (HI2.out.call hb2)
      have hv3 := HI3.out.s
      have HI4 := Lib.hid (HI3.out.set V')
      clear hb2 HI2 hv2 hm0 hm1 HI1
      go_wp2_with (refine wpList_store_row rfl 49 (.tmp 2) (.tmp 18) rfl g V' rfl rfl 49 V hv3 iV' zV oV' ?_)
      go_roundw
      case rel => exact ⟨k + 1, L - 128, C - 128, A2, by have := HLe.out; omega, by have := HLe.out; omega, by have := HCe.out; omega, rfl, HA2, by rw [HV'.out]; exact HI4⟩
      case measure => simp [sLen]; omega
    · have hk2 : l.length / 128 = k := by omega
      have hge : ¬ (128 : Int) ≤ (L : Int) := by omega
      have h1 := HI.out.s
      have h0 := HI.out.z
      obtain ⟨t1, ht1⟩ : ∃ t1, tabW (overN s l k).l = t1 := ⟨_, rfl⟩
      rw [ht1] at h1
      have n1 : t1.size = 8 := by rw [← ht1, tabW_size]; rfl
      have s1 : (Try.prog.info? 49).map (·.size) = some t1.size := by rw [n1]; kernel_rfl
      have sz : z8.size = t1.size := by rw [n8, n1]
      have o1 : t1.all (·.oneCell') = true := by rw [← ht1]; exact tabW_one _
      have HB := Lib.hid (show Below w.heap.size w (wr.setRow (g + 1) t1) by rw [HG.out]; exact below_setRow HI.out.below (by omega))
      have HE : Hid (tabW (over s l).l = t1) := Lib.hid (by unfold over; rw [hk2, ht1])
      clear ht1 HI HBS HWD HST hk2 hL hC
      go_wp2_with (first
        | (refine wpList_load_row rfl 49 (.tmp 2) rfl g rfl 49 t1 (0, 0) _ h1 Try.underlying49 rfl s1 ?_)
        | (refine wpList_store_row rfl 49 (.tmp 4) (.tmp 21) rfl (g + 1) t1 rfl rfl 49 z8 h0 s1 sz o1 ?_))
      (try simp only [Exit.inBlock, Exit.then])
      refine bodyPost_ret (results_cell_row rfl _ _ (g + 1) _ t1 _ _ rfl (setRow_heap wr _ _ _ _ _ h0) Try.underlying49 rfl s1) rfl ?_
      exact ⟨by rw [HE.out], HB.out⟩
end Go.Proofs.Ytbkcglfdliicpaa

namespace Go.Proofs.Ytbkcglfdliicpaa
open Go.RowKit
set_option linter.unusedVariables false
set_option maxRecDepth 100000

theorem part_b {P : Program} (e : TypeId) (l : List UInt8) (i : Nat) (h : i < l.length) (ha : ∀ w, (isAgg e).run P w = .ok false w) (u : World) : (Go.part e (arrB l) i).run P u = .ok (.int .u8 ((l.getD i 0).toNat : Int)) u := by
  have hg := arrB_get l i h
  simp only [Go.part, Sem.run_bind, ha, Result.andThen_ok, Bool.false_eq_true, if_false]
  rw [hg]
  simp

theorem eqB_loop {P : Program} (e : TypeId) (l : List UInt8) (hu : P.underlying e = some (.int .u8)) (ha : ∀ w, (isAgg e).run P w = .ok false w) (u : World) : ∀ (r : List Nat), (∀ i ∈ r, i < l.length) →
    (forIn r ((none : Option Bool), ()) fun i __s => do
      let a ← Go.part e (arrB l) (i * 1)
      let b ← Go.part e (arrB l) (i * 1)
      let c ← Op.equalIn 9999 e a b
      if (!c) = true then pure (ForInStep.done (some false, ())) else pure (ForInStep.yield ((none : Option Bool), ())) : Sem (Option Bool × Unit)).run P u = .ok (none, ()) u
  | [], _ => by simp
  | i :: r, h => by
    have h1 := part_b (P := P) e l i (h i (by simp)) ha u
    have h2 : (Op.equalIn 9999 e (.int .u8 ((l.getD i 0).toNat : Int)) (.int .u8 ((l.getD i 0).toNat : Int))).run P u = .ok true u := by
      rw [show (9999 : Nat) = 9998 + 1 from rfl, run_equalIn_int _ _ _ _ .u8 _ _ hu]; simp
    have ih := eqB_loop e l hu ha u r (fun j hj => h j (by simp [hj]))
    simp only [List.forIn_cons, Sem.run_bind, Nat.mul_one, h1, h2, Result.andThen_ok, Bool.not_true, Bool.false_eq_true, if_false, Sem.run_pure] at ih ⊢
    exact ih

theorem eqB_in {P : Program} (T e : TypeId) (n : Nat) (l : List UInt8) (hl : l.length = n) (ht : P.underlying T = some (.array n e)) (hu : P.underlying e = some (.int .u8))
    (ha : ∀ w, (isAgg e).run P w = .ok false w) (hs : ∀ w, (sizeOf e).run P w = .ok 1 w) (u : World) : (Op.equalIn 10000 T (.agg (arrB l)) (.agg (arrB l))).run P u = .ok true u := by
  rw [show (10000 : Nat) = 9999 + 1 from rfl, Op.equalIn]
  simp only [Sem.run_bind, run_underlying ht, Result.andThen_ok, hs]
  simp only [Std.Legacy.Range.forIn_eq_forIn_range', Std.Legacy.Range.size, Nat.sub_zero, Nat.add_sub_cancel, Nat.div_one]
  have hr : ∀ i ∈ List.range' 0 n, i < l.length := fun i hi => by
    rw [List.mem_range'_1] at hi; omega
  generalize List.range' 0 n = r at *
  rw [eqB_loop e l hu ha u r hr]
  simp
theorem eqB_refl {P : Program} (T e : TypeId) (n : Nat) (l : List UInt8) (hl : l.length = n) (ht : P.underlying T = some (.array n e)) (hu : P.underlying e = some (.int .u8))
    (ha : ∀ w, (isAgg e).run P w = .ok false w) (hs : ∀ w, (sizeOf e).run P w = .ok 1 w) (u : World) : (binOp .eql T (.agg (arrB l)) (.agg (arrB l))).run P u = .ok (.bool true) u := by
  rw [run_eql_struct, eqB_in T e n l hl ht hu ha hs u]
  simp
theorem eq64 (l : List UInt8) (hl : l.length = 64) (u : World) : (binOp .eql 24 (.agg (arrB l)) (.agg (arrB l))).run Try.prog u = .ok (.bool true) u :=
  eqB_refl 24 5 64 l hl Try.underlying24 Try.underlying5 (fun w => by kernel_rfl) (fun w => by kernel_rfl) u

theorem wpList_runsG {P : Program} {ops : Array Oper} {rest : List Oper} {o : Oper} {a : Act} {w : World} {Q : Exit → Act → World → Prop} (hw : Region.wanted o (yielded ops a.tmps) = true) (v : Value)
    (hrun : (execOp (Act.eval a) o).run P w = .ok (.value v) w) (h : wpList P ops Q rest (a.put o.dst v) w) : wpList P ops Q (o :: rest) a w := by
  refine BigFrame.wpList_want hw fun K hK => ?_
  unfold Oper.wp
  rw [hrun]
  exact hK _ _ h
theorem bs_lt {W : World} {A : Option Addr} {l : List UInt8} (h : Bs W A l) (hl : 0 < l.length) {k : Nat} (hk : At A k) : k < W.heap.size := by
  obtain ⟨b, o, rfl, hc⟩ := h hl
  obtain ⟨a, e, rfl⟩ := hk
  injection e with e
  subst e
  exact World.block_lt_of_cell? W _ (hc 0 hl)
end Go.Proofs.Ytbkcglfdliicpaa

