/- Plain facts on lists of bytes that are turned byte by byte. -/
import Derived.Test.YtlnpfndjdilfhaaHalfMath
namespace Go.Proofs.Ytlnpfndjdilfhaa
open Go.RowKit
set_option linter.unusedVariables false

/-- l, its first k bytes turned by f -/
def updTo (l : List UInt8) (f : Nat → UInt8) (k : Nat) : List UInt8 := (List.range l.length).map fun i => if i < k then f i else l.getD i 0
theorem updTo_len (l f k) : (updTo l f k).length = l.length := by simp [updTo]
theorem updTo_get {l : List UInt8} {f : Nat → UInt8} {k i : Nat} (h : i < l.length) : (updTo l f k).getD i 0 = if i < k then f i else l.getD i 0 := by
  simp only [updTo]
  rw [getD_map_range _ _ _ h]
theorem updTo_zero (l f) : updTo l f 0 = l := by
  apply list_ext_getD (updTo_len _ _ _)
  intro i hi
  rw [updTo_len] at hi
  rw [updTo_get hi]
  simp
theorem updTo_at {l : List UInt8} {f : Nat → UInt8} {k : Nat} (hk : k < l.length) : (updTo l f k).getD k 0 = l.getD k 0 := by
  rw [updTo_get hk]
  simp
theorem updTo_step {l : List UInt8} {f : Nat → UInt8} {k : Nat} (hk : k < l.length) : (updTo l f k).set k (f k) = updTo l f (k + 1) := by
  have := range_set l.length k (fun i => if i < k then f i else l.getD i 0) (fun i => if i < k + 1 then f i else l.getD i 0) hk (by
    intro i hi
    by_cases h : i < k
    · rw [if_pos h, if_pos (by omega)]
    · rw [if_neg h, if_neg (by omega)])
  simp only [Nat.lt_succ_self, if_true] at this
  exact this

def maskF (l m : List UInt8) (i : Nat) : UInt8 := l.getD i 0 &&& m.getD i 0
def maskB (l m : List UInt8) : List UInt8 := updTo l (maskF l m) (min l.length m.length)
def seenF (l n p : List UInt8) (i : Nat) : UInt8 := n.getD i 0 ||| (l.getD i 0 &&& p.getD i 0)
def seenB (l n p : List UInt8) : List UInt8 := updTo n (seenF l n p) (min l.length p.length)

theorem u8_sub1 (x y : UInt8) : (x &&& y) &&& ~~~x = 0 := by
  apply u8_ext
  intro i hi
  simp [hi]
  cases hx : (x.toBitVec).getLsbD i <;> cases hy : (y.toBitVec).getLsbD i <;> simp_all
theorem u8_sub0 (x : UInt8) : x &&& ~~~x = 0 := by simp
theorem maskB_len (l m) : (maskB l m).length = l.length := updTo_len _ _ _
theorem canB_mask (l m : List UInt8) : canB l (maskB l m) = true := by
  refine canB_true (maskB_len l m).symm fun i hi => ?_
  unfold maskB
  rw [updTo_get hi]
  split
  · exact u8_sub1 _ _
  · exact u8_sub0 _
theorem tornB_len (l m p) : (tornB l m p).length = m.length := by simp [tornB]
theorem tornB_at {l m p : List UInt8} {i : Nat} (h : i < m.length) : (tornB l m p).getD i 0 = tornByte (l.getD i 0) (m.getD i 0) (p.getD i 0) := by
  simp only [tornB]
  exact getD_map_range _ _ _ h
theorem canB_torn (l m p : List UInt8) : canB (tornB l m p) m = true := by
  refine canB_true (tornB_len l m p) fun i hi => ?_
  rw [tornB_len] at hi
  rw [tornB_at hi]
  exact u8_and_not_or _ _
theorem tornByte_sub {o n p : UInt8} (h : n &&& ~~~o = 0) : tornByte o n p &&& ~~~o = 0 := by
  apply u8_ext
  intro i hi
  have := u8_at h i
  simp [hi] at this
  simp [hi, tornByte]
  cases hx : (o.toBitVec).getLsbD i <;> cases hy : (n.toBitVec).getLsbD i <;> cases hz : (p.toBitVec).getLsbD i <;> simp_all
theorem canB_torn_old {l m : List UInt8} (p : List UInt8) (h : canB l m = true) : canB l (tornB l m p) = true := by
  have k := canB_iff.1 h
  refine canB_true (k.1.trans (tornB_len l m p).symm) fun i hi => ?_
  rw [tornB_at (by omega)]
  exact tornByte_sub (k.2 i hi)
theorem seenB_len (l n p) : (seenB l n p).length = n.length := updTo_len _ _ _
theorem u8_seen {o n p : UInt8} (h : n &&& ~~~o = 0) : (n ||| (o &&& p)) &&& ~~~o = 0 := by
  apply u8_ext
  intro i hi
  have := u8_at h i
  simp [hi] at this
  simp [hi]
  cases hx : (o.toBitVec).getLsbD i <;> cases hy : (n.toBitVec).getLsbD i <;> cases hz : (p.toBitVec).getLsbD i <;> simp_all
theorem canB_seen_old {l n : List UInt8} (p : List UInt8) (h : canB l n = true) : canB l (seenB l n p) = true := by
  have k := canB_iff.1 h
  refine canB_true (k.1.trans (seenB_len l n p).symm) fun i hi => ?_
  unfold seenB
  rw [updTo_get (by omega)]
  split
  · exact u8_seen (k.2 i hi)
  · exact k.2 i hi
theorem canB_seen_new (l n p : List UInt8) : canB (seenB l n p) n = true := by
  refine canB_true (seenB_len l n p) fun i hi => ?_
  rw [seenB_len] at hi
  unfold seenB
  rw [updTo_get hi]
  split
  · exact u8_and_not_or _ _
  · exact u8_sub0 _
theorem tornByte_back {o n s : UInt8} (h1 : s &&& ~~~o = 0) (h2 : n &&& ~~~s = 0) : tornByte o n s = s := by
  apply u8_ext
  intro i hi
  have q1 := u8_at h1 i
  have q2 := u8_at h2 i
  simp [hi] at q1 q2
  simp [hi, tornByte]
  cases hx : (o.toBitVec).getLsbD i <;> cases hy : (n.toBitVec).getLsbD i <;> cases hz : (s.toBitVec).getLsbD i <;> simp_all
theorem torn_back {l n s : List UInt8} (h1 : canB l s = true) (h2 : canB s n = true) : tornB l n s = s := by
  have k1 := canB_iff.1 h1
  have k2 := canB_iff.1 h2
  apply list_ext_getD (by rw [tornB_len]; exact k2.1.symm)
  intro i hi
  rw [tornB_len] at hi
  rw [tornB_at hi]
  exact tornByte_back (k1.2 i (by omega)) (k2.2 i (by omega))
end Go.Proofs.Ytlnpfndjdilfhaa
