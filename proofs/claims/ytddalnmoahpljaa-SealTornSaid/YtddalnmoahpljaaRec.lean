/- A record, plainly: its bytes, and what any bytes begin with. -/
import Derived.Test.YtddalnmoahpljaaCrc
namespace Go.Proofs.Ytddalnmoahpljaa
open Go.RowKit
set_option linter.unusedVariables false
set_option maxRecDepth 100000

/-- a number in so many bytes, the lowest first -/
def lowB : Nat → Nat → List UInt8
  | 0, _ => []
  | k + 1, n => UInt8.ofNat n :: lowB k (n / 256)

/-- back -/
def numB (l : List UInt8) : Nat := l.foldr (fun c n => n * 256 + c.toNat) 0

theorem lowB_len (k n : Nat) : (lowB k n).length = k := by
  induction k generalizing n with
  | zero => rfl
  | succ k ih => simp [lowB, ih]

theorem numB_low (k n : Nat) (h : n < 256 ^ k) : numB (lowB k n) = n := by
  induction k generalizing n with
  | zero => simp at h; subst h; rfl
  | succ k ih =>
    show numB (lowB k (n / 256)) * 256 + (UInt8.ofNat n).toNat = n
    rw [ih _ (by rw [Nat.pow_succ] at h; omega)]
    have : (UInt8.ofNat n).toNat = n % 256 := by simp
    omega

theorem lowB_num (l : List UInt8) : lowB l.length (numB l) = l := by
  induction l with
  | nil => rfl
  | cons c t ih =>
    have hc := c.toNat_lt
    show UInt8.ofNat (numB t * 256 + c.toNat) :: lowB t.length ((numB t * 256 + c.toNat) / 256) = c :: t
    rw [show (numB t * 256 + c.toNat) / 256 = numB t by omega, ih]
    congr 1
    apply UInt8.toNat_inj.mp
    simp

theorem numB_lt (l : List UInt8) : numB l < 256 ^ l.length := by
  induction l with
  | nil => decide
  | cons c t ih =>
    have hc := c.toNat_lt
    show numB t * 256 + c.toNat < 256 ^ (t.length + 1)
    rw [Nat.pow_succ]
    omega

theorem lowB_inj {k a b : Nat} (ha : a < 256 ^ k) (hb : b < 256 ^ k) (h : lowB k a = lowB k b) : a = b := by
  rw [← numB_low k a ha, ← numB_low k b hb, h]

/-- the length of a record of which the body has so many bytes -/
def sizeR (n : Nat) : Nat := (n + 7) / 8 * 8 + 16

/-- all but the last word -/
def frontR (k q : Nat) (l : List UInt8) : List UInt8 :=
  (UInt8.ofNat k :: 0 :: (lowB 2 l.length ++ lowB 4 q)) ++ (l ++ List.replicate ((n8 l.length)) 0)
where n8 (n : Nat) : Nat := (n + 7) / 8 * 8 - n

/-- the last word -/
def tailR (s : Nat) : List UInt8 := lowB 4 s ++ lowB 4 (4294967295 - s)

/-- a record's bytes -/
def encR (k q : Nat) (l : List UInt8) : List UInt8 := frontR k q l ++ tailR (crc (frontR k q l))

/-- is it a record -/
def recOk (k q : Int) (n : Nat) : Prop := 1 ≤ k ∧ k ≤ 250 ∧ 0 ≤ q ∧ q ≤ 4294967295 ∧ n ≤ 512

instance (k q : Int) (n : Nat) : Decidable (recOk k q n) := by unfold recOk; infer_instance

/-- what a record is put as -/
def putR (k q : Int) (l : List UInt8) : List UInt8 := if recOk k q l.length then encR k.toNat q.toNat l else []

/-- how long the body says that it is -/
def lenR (b : List UInt8) : Nat := numB ((b.drop 2).take 2)
def seqR (b : List UInt8) : Nat := numB ((b.drop 4).take 4)
def bodyR (b : List UInt8) : List UInt8 := (b.drop 8).take (lenR b)

/-- does b begin with a record -/
def isR (b : List UInt8) : Prop :=
  16 ≤ b.length ∧ lenR b ≤ 512 ∧ sizeR (lenR b) ≤ b.length ∧ putR ((b.getD 0 0).toNat : Int) (seqR b : Int) (bodyR b) = b.take (sizeR (lenR b))

instance (b : List UInt8) : Decidable (isR b) := by unfold isR; infer_instance

theorem frontR_len (k q : Nat) (l : List UInt8) : (frontR k q l).length + 8 = sizeR l.length := by
  unfold frontR sizeR frontR.n8
  simp only [List.length_append, List.length_cons, lowB_len, List.length_replicate]
  omega

theorem tailR_len (s : Nat) : (tailR s).length = 8 := by simp [tailR, lowB_len]

theorem encR_len (k q : Nat) (l : List UInt8) : (encR k q l).length = sizeR l.length := by
  unfold encR
  rw [List.length_append, tailR_len, frontR_len]

theorem encR_eq (k q : Nat) (l : List UInt8) : ∃ r, encR k q l = UInt8.ofNat k :: 0 :: (lowB 2 l.length ++ (lowB 4 q ++ (l ++ r))) := by
  refine ⟨List.replicate (frontR.n8 l.length) 0 ++ tailR (crc (frontR k q l)), ?_⟩
  unfold encR
  conv => lhs; arg 1; unfold frontR
  simp

theorem lenR_app {b : List UInt8} (more : List UInt8) (h : 4 ≤ b.length) : lenR (b ++ more) = lenR b := by
  unfold lenR
  rw [List.drop_append_of_le_length (by omega), List.take_append_of_le_length (by rw [List.length_drop]; omega)]

theorem seqR_app {b : List UInt8} (more : List UInt8) (h : 8 ≤ b.length) : seqR (b ++ more) = seqR b := by
  unfold seqR
  rw [List.drop_append_of_le_length (by omega), List.take_append_of_le_length (by rw [List.length_drop]; omega)]

theorem lenR_enc (k q : Nat) (l : List UInt8) (h : l.length ≤ 512) : lenR (encR k q l) = l.length := by
  obtain ⟨r, e⟩ := encR_eq k q l
  unfold lenR
  rw [e]
  show numB ((lowB 2 l.length ++ _).take 2) = _
  rw [List.take_append_of_le_length (by simp [lowB_len]), List.take_of_length_le (by simp [lowB_len]), numB_low _ _ (by omega)]

theorem seqR_enc (k q : Nat) (l : List UInt8) (h : q ≤ 4294967295) : seqR (encR k q l) = q := by
  obtain ⟨r, e⟩ := encR_eq k q l
  unfold seqR
  rw [e]
  show numB (((lowB 2 l.length ++ (lowB 4 q ++ (l ++ r))).drop 2).take 4) = _
  rw [List.drop_append_of_le_length (by simp [lowB_len]), List.drop_of_length_le (by simp [lowB_len]), List.nil_append,
    List.take_append_of_le_length (by simp [lowB_len]), List.take_of_length_le (by simp [lowB_len]), numB_low _ _ (by omega)]

theorem bodyR_enc (k q : Nat) (l more : List UInt8) (h : l.length ≤ 512) : bodyR (encR k q l ++ more) = l := by
  obtain ⟨r, e⟩ := encR_eq k q l
  have hl := encR_len k q l
  have h16 : 16 ≤ sizeR l.length := by unfold sizeR; omega
  unfold bodyR
  rw [lenR_app more (by omega), lenR_enc k q l h, e]
  have h8 : (UInt8.ofNat k :: 0 :: (lowB 2 l.length ++ (lowB 4 q ++ (l ++ r))) ++ more).drop 8 = l ++ (r ++ more) := by
    have : (UInt8.ofNat k :: 0 :: (lowB 2 l.length ++ (lowB 4 q ++ (l ++ r))) ++ more) = (UInt8.ofNat k :: 0 :: (lowB 2 l.length ++ lowB 4 q)) ++ (l ++ (r ++ more)) := by simp
    rw [this]
    exact List.drop_left' (by simp [lowB_len])
  rw [h8, List.take_left']
  rfl

theorem kind_enc (k q : Nat) (l more : List UInt8) (h : k ≤ 250) : ((encR k q l ++ more).getD 0 0).toNat = k := by
  obtain ⟨r, e⟩ := encR_eq k q l
  rw [e]
  show (UInt8.ofNat k).toNat = k
  simp
  omega

/-- a record, whatever is behind it, is read as it was put -/
theorem isR_put {k q : Int} {l : List UInt8} (more : List UInt8) (h : recOk k q l.length) : isR (putR k q l ++ more) := by
  have hok := h
  obtain ⟨h1, h2, h3, h4, h5⟩ := h
  unfold putR
  rw [if_pos hok]
  have hl := encR_len k.toNat q.toNat l
  have h16 : 16 ≤ sizeR l.length := by unfold sizeR; omega
  have e1 : lenR (encR k.toNat q.toNat l ++ more) = l.length := by rw [lenR_app more (by omega), lenR_enc _ _ _ h5]
  have e2 : seqR (encR k.toNat q.toNat l ++ more) = q.toNat := by rw [seqR_app more (by omega), seqR_enc _ _ _ (by omega)]
  refine ⟨by rw [List.length_append]; omega, by rw [e1]; exact h5, by rw [e1, List.length_append]; omega, ?_⟩
  rw [e1, e2, bodyR_enc _ _ _ _ h5, kind_enc _ _ _ _ (by omega), List.take_left' hl]
  have ek : ((k.toNat : Nat) : Int) = k := Int.toNat_of_nonneg (by omega)
  have eq : ((q.toNat : Nat) : Int) = q := Int.toNat_of_nonneg (by omega)
  rw [ek, eq]
  unfold putR
  rw [if_pos hok]

/-- what begins with a record begins with its bytes -/
theorem isR_enc {b : List UInt8} (h : isR b) : recOk ((b.getD 0 0).toNat : Int) (seqR b : Int) (lenR b) ∧ (bodyR b).length = lenR b ∧
    b.take (sizeR (lenR b)) = encR (b.getD 0 0).toNat (seqR b) (bodyR b) := by
  obtain ⟨h1, h2, h3, h4⟩ := h
  have hb : (bodyR b).length = lenR b := by
    unfold bodyR
    rw [List.length_take, List.length_drop]
    unfold sizeR at h3
    omega
  unfold putR at h4
  split at h4
  · rename_i hok
    rw [hb] at hok
    exact ⟨hok, hb, h4.symm⟩
  · exfalso
    have := congrArg List.length h4
    rw [List.length_take] at this
    have h16 : 16 ≤ sizeR (lenR b) := by unfold sizeR; omega
    simp at this
    omega

theorem lenR_take {b : List UInt8} {n : Nat} (h : 4 ≤ n) : lenR (b.take n) = lenR b := by
  unfold lenR
  rw [List.drop_take, List.take_take]
  congr 2
  omega

/-- no front of a record is one -/
theorem isR_cut {k q : Int} {l : List UInt8} {cut : Nat} (h : recOk k q l.length) (hc : cut < (putR k q l).length) : ¬ isR ((putR k q l).take cut) := by
  intro hi
  have hok := h
  obtain ⟨h1, h2, h3, h4, h5⟩ := h
  unfold putR at hc hi
  rw [if_pos hok] at hc hi
  have hl := encR_len k.toNat q.toNat l
  obtain ⟨g1, g2, g3, g4⟩ := hi
  rw [List.length_take] at g1 g3
  rw [lenR_take (by omega), lenR_enc _ _ _ h5] at g3
  omega

/-- the last word of a record is not blank -/
theorem tailR_blank (s : Nat) (h : s < 4294967296) : tailR s ≠ List.replicate 8 255 := by
  intro e
  have e1 : lowB 4 s = List.replicate 4 255 := by
    have := congrArg (List.take 4) e
    rw [tailR, List.take_left' (lowB_len 4 s)] at this
    simpa using this
  have e2 : lowB 4 (4294967295 - s) = List.replicate 4 255 := by
    have := congrArg (List.drop 4) e
    rw [tailR, List.drop_left' (lowB_len 4 s)] at this
    simpa using this
  have := lowB_inj (by omega) (by omega) (e1.trans e2.symm)
  omega

theorem encR_front (k q : Nat) (l : List UInt8) : (encR k q l).take (sizeR l.length - 8) = frontR k q l := by
  have := frontR_len k q l
  unfold encR
  exact List.take_left' (by omega)

theorem encR_tail (k q : Nat) (l : List UInt8) : (encR k q l).drop (sizeR l.length - 8) = tailR (crc (frontR k q l)) := by
  have := frontR_len k q l
  unfold encR
  exact List.drop_left' (by omega)

/-- a record of which one byte was turned, not in how long it is, is none -/
theorem isR_turn {k q : Int} {l : List UInt8} {i : Nat} {d : UInt8} (h : recOk k q l.length) (hi : i < (putR k q l).length) (h2 : i ≠ 2) (h3 : i ≠ 3)
    (hd : d ≠ (putR k q l).getD i 0) : ¬ isR ((putR k q l).set i d) := by
  intro hr
  have hok := h
  obtain ⟨_, _, _, _, h5⟩ := h
  unfold putR at hi hd hr
  rw [if_pos hok] at hi hd hr
  have hl := encR_len k.toNat q.toNat l
  have h16 : 16 ≤ sizeR l.length := by unfold sizeR; omega
  have hlen : lenR ((encR k.toNat q.toNat l).set i d) = l.length := by
    rw [← lenR_enc k.toNat q.toNat l h5]
    unfold lenR
    congr 1
    apply List.ext_getElem?
    intro j
    by_cases hj : j < 2
    · rw [List.getElem?_take_of_lt hj, List.getElem?_take_of_lt hj, List.getElem?_drop, List.getElem?_drop, List.getElem?_set_ne (by omega)]
    · rw [List.getElem?_eq_none (by rw [List.length_take]; omega), List.getElem?_eq_none (by rw [List.length_take]; omega)]
  obtain ⟨_, hb, he⟩ := isR_enc hr
  rw [hlen] at hb he
  rw [List.take_of_length_le (by rw [List.length_set]; omega)] at he
  generalize (((encR k.toNat q.toNat l).set i d).getD 0 0).toNat = k' at he
  generalize seqR ((encR k.toNat q.toNat l).set i d) = q' at he
  generalize bodyR ((encR k.toNat q.toNat l).set i d) = l' at he hb
  have f0 := encR_front k.toNat q.toNat l
  have t0 := encR_tail k.toNat q.toNat l
  have f1 := encR_front k' q' l'
  have t1 := encR_tail k' q' l'
  rw [hb, ← he] at f1 t1
  by_cases hc : i < sizeR l.length - 8
  · rw [List.drop_set_of_lt hc, t0] at t1
    rw [List.take_set, f0] at f1
    have e1 := congrArg (List.take 4) t1
    rw [tailR, List.take_left' (lowB_len _ _), tailR, List.take_left' (lowB_len _ _)] at e1
    have e2 := lowB_inj (k := 4) (by have := crc_lt (frontR k.toNat q.toNat l); omega) (by have := crc_lt (frontR k' q' l'); omega) e1
    rw [← f1] at e2
    have hfl := frontR_len k.toNat q.toNat l
    have e3 := crc_turn (frontR k.toNat q.toNat l) i d (by omega) e2.symm
    apply hd
    rw [e3, ← f0]
    simp only [List.getD_eq_getElem?_getD]
    rw [List.getElem?_take_of_lt hc]
  · rw [List.take_set_of_le (by omega), f0] at f1
    rw [← f1] at t1
    rw [← t0] at t1
    have e1 : (encR k.toNat q.toNat l).set i d = encR k.toNat q.toNat l := by
      rw [← List.take_append_drop (sizeR l.length - 8) ((encR k.toNat q.toNat l).set i d), t1, List.take_set_of_le (by omega), List.take_append_drop]
    apply hd
    have e2 := congrArg (fun x : List UInt8 => x.getD i 0) e1
    simp only [List.getD_eq_getElem?_getD] at e2 ⊢
    rw [List.getElem?_set_self hi] at e2
    simpa using e2

/-- a record that was being programmed over blank words when power went, whatever is left of the broken word: whole, or none -/
theorem isR_torn {k q : Int} {l t : List UInt8} {w m : Nat} (h : recOk k q l.length) (hw : 8 * w + 8 ≤ (putR k q l).length) (ht : t.length = 8)
    (hm : m = (putR k q l).length - 8 * w - 8 + 64) (hle : ∀ j, j < 8 → ((putR k q l).getD (8 * w + j) 0).toNat ≤ (t.getD j 0).toNat)
    (hr : isR ((putR k q l).take (8 * w) ++ t ++ List.replicate m 255)) :
    ((putR k q l).take (8 * w) ++ t ++ List.replicate m 255).take (putR k q l).length = putR k q l := by
  have hok := h
  obtain ⟨_, _, _, _, h5⟩ := h
  unfold putR at hw hm hle hr ⊢
  rw [if_pos hok] at hw hm hle hr ⊢
  have hl := encR_len k.toNat q.toNat l
  have h16 : 16 ≤ sizeR l.length := by unfold sizeR; omega
  have hle0 := lenR_enc k.toNat q.toNat l h5
  have f0 := encR_front k.toNat q.toNat l
  generalize hb0 : encR k.toNat q.toNat l = b at *
  generalize hx : b.take (8 * w) ++ t ++ List.replicate m 255 = x at *
  have hxl : x.length = b.length + 64 := by
    rw [← hx]; simp only [List.length_append, List.length_take, List.length_replicate]; omega
  have hge : l.length ≤ lenR x := by
    rcases Nat.eq_zero_or_pos w with rfl | hwp
    · have e1 : lenR x = lenR t := by
        rw [← hx]
        simp only [Nat.mul_zero, List.take_zero, List.nil_append]
        exact lenR_app _ (by omega)
      have two : ∀ b : List UInt8, 4 ≤ b.length → lenR b = (b.getD 3 0).toNat * 256 + (b.getD 2 0).toNat := by
        intro b hb
        rcases b with _ | ⟨a0, _ | ⟨a1, _ | ⟨a2, _ | ⟨a3, b⟩⟩⟩⟩
        all_goals first
          | (simp at hb; done)
          | skip
        simp [lenR, numB]
      rw [e1, two t (by omega), ← hle0, two b (by omega)]
      have g2 := hle 2 (by omega)
      have g3 := hle 3 (by omega)
      simp only [Nat.mul_zero, Nat.zero_add] at g2 g3
      omega
    · have e1 : lenR x = lenR b := by
        rw [← hx, List.append_assoc, lenR_app _ (by rw [List.length_take]; omega), lenR_take (by omega)]
      omega
  obtain ⟨_, hb, he⟩ := isR_enc hr
  have hsz := hr.2.2.1
  have hmono : sizeR l.length ≤ sizeR (lenR x) := by unfold sizeR; omega
  have t1 := encR_tail (x.getD 0 0).toNat (seqR x) (bodyR x)
  have f1 := encR_front (x.getD 0 0).toNat (seqR x) (bodyR x)
  rw [hb, ← he] at t1 f1
  by_cases hlast : 8 * w + 8 < b.length
  · exfalso
    apply tailR_blank _ (crc_lt (frontR (x.getD 0 0).toNat (seqR x) (bodyR x)))
    have h16' : 16 ≤ sizeR (lenR x) := by unfold sizeR; omega
    rw [← t1]
    generalize sizeR (lenR x) = z at *
    rw [← hx]
    have hmod : sizeR l.length % 8 = 0 := by unfold sizeR; omega
    apply List.ext_getElem?
    intro j
    by_cases hj : j < 8
    · rw [List.getElem?_drop, List.getElem?_take_of_lt (by omega), List.getElem?_append_right (by rw [List.length_append, List.length_take]; omega)]
      rw [List.getElem?_replicate, List.getElem?_replicate, if_pos, if_pos hj]
      rw [List.length_append, List.length_take]
      omega
    · rw [List.getElem?_eq_none, List.getElem?_eq_none]
      · simp; omega
      · rw [List.length_drop, List.length_take]; omega
  · have hwe : 8 * w + 8 = b.length := by omega
    have e1 : lenR x = l.length := by
      rw [← hx, List.append_assoc, lenR_app _ (by rw [List.length_take]; omega), lenR_take (by omega)]
      exact hle0
    rw [e1] at f1 t1
    have efr : x.take (sizeR l.length - 8) = b.take (sizeR l.length - 8) := by
      rw [← hx, List.append_assoc, show sizeR l.length - 8 = 8 * w by omega]
      rw [List.take_left' (by rw [List.length_take]; omega)]
    have e2 : (x.take (sizeR l.length)).take (sizeR l.length - 8) = x.take (sizeR l.length - 8) := by
      rw [List.take_take]; congr 1; omega
    rw [e2, efr, f0] at f1
    rw [← f1] at t1
    have e3 := encR_tail k.toNat q.toNat l
    rw [hb0] at e3
    have : x.take (sizeR l.length) = b := by
      rw [← List.take_append_drop (sizeR l.length - 8) (x.take (sizeR l.length)), t1, e2, efr, ← e3, List.take_append_drop]
    rw [hl]
    exact this

end Go.Proofs.Ytddalnmoahpljaa

