/- What the frame tells of an array of bytes that came in by value. A number's bytes, written one by one; one of several rows turned. -/
import Derived.Test.YtfejabfmhddepaaGfb
import Derived.Test.YtfejabfmhddepaaGbase
import Derived.OpenShut
import Derived.Test.YtfejabfmhddepaaGheld
namespace Go.Proofs.Ytfejabfmhddepaa
open Go.RowKit Go.ChangeShapes Go.WideShapes
set_option linter.unusedVariables false
set_option maxRecDepth 100000

def byteOf : Value → UInt8
  | .int _ a => UInt8.ofNat a.toNat
  | _ => 0
theorem byteOf_int {a : Int} (h0 : 0 ≤ a) (h1 : a < 256) : bval (byteOf (.int .u8 a)) = .int .u8 a := by
  unfold byteOf bval
  congr 1
  simp
  omega

theorem bytes_of {H : Type} {enc : TypeId × Value → H} {P : Program} {W : World} {base : Nat} {spare : Nat → Bool} {held : Bool} {r : Reach} {b0 : Nat} {v : Value} {d : DataW H} {p : List MemPlace} {T e : TypeId} {n : Nat}
    (hT : P.underlying T = some (.array n e)) (hU : P.underlying e = some (.int .u8)) (hc : P.cellsOf e = 1) (hn : P.cellsOf T = n)
    (hv : Value.okWide P W r b0 T v) (h : DataW.Trod enc P W base spare held T v d p) : ∃ l : List UInt8, l.length = n ∧ v = .agg (arrB l) := by
  simp only [Value.okWide, hT] at hv
  obtain ⟨cs, rfl, hs, -⟩ := hv
  rw [hn] at hs
  obtain ⟨fuel, h⟩ := h
  obtain ⟨xs, m, -, -, -, hl, hel⟩ := DataW.trod_array hT h
  refine ⟨cs.toList.map byteOf, by simpa using hs, ?_⟩
  congr 1
  unfold arrB
  apply Array.ext
  · simp
  · intro i h1 h2
    have hi : i < n := by omega
    have hE := hel i hi
    rw [hc, Nat.mul_one, List.getElem?_eq_getElem (by omega)] at hE
    obtain ⟨z, e1, -, hw⟩ := DataW.trod_int hU hE
    have e2 : cs[i] = .int .u8 z := by
      have h0 : ((cs.toList.drop i).take 1)[0]? = some (.int .u8 z) := by simp only [Value.cells] at e1; rw [e1]; rfl
      have h3 : cs[i]? = some (.int .u8 z) := by simpa using h0
      rw [Array.getElem?_eq_getElem h1] at h3
      injection h3
    have hb : 0 ≤ z ∧ z < 256 := by
      simp [Lit.wf, IntKind.min, IntKind.max, IntKind.signed, IntKind.bits] at hw
      omega
    simp [e2, byteOf_int hb.1 hb.2]
end Go.Proofs.Ytfejabfmhddepaa

namespace Go.Proofs.Ytfejabfmhddepaa
open Go.RowKit
set_option linter.unusedVariables false
set_option maxRecDepth 100000

def byF (V i : Nat) : UInt8 := UInt8.ofNat (V / 256 ^ i)
/-- the first k bytes of a number, and zeros -/
def byK (V k : Nat) : List UInt8 := updTo (List.replicate 32 0) (byF V) k
theorem byK_len (V k : Nat) : (byK V k).length = 32 := by unfold byK; rw [updTo_len]; simp
theorem byK_zero (V : Nat) : byK V 0 = List.replicate 32 0 := updTo_zero _ _
theorem byK_set (V k : Nat) (h : k < 32) : (byK V k).set k (byF V k) = byK V (k + 1) := updTo_step (by simpa using h)
theorem byK_end (V k : Nat) (hV : V < 256 ^ k) (hk : k ≤ 32) : byK V k = leB 32 V := by
  refine list_ext_getD (by rw [byK_len, leB_len]) fun i hi => ?_
  rw [byK_len] at hi
  rw [leB_get _ _ _ hi]
  unfold byK
  rw [updTo_get (by simpa using hi)]
  by_cases h : i < k
  · rw [if_pos h]; rfl
  · rw [if_neg h]
    have : V / 256 ^ i = 0 := Nat.div_eq_of_lt (Nat.lt_of_lt_of_le hV (Nat.pow_le_pow_right (by decide) (by omega)))
    rw [this, List.getD_eq_getElem?_getD, List.getElem?_replicate]
    split <;> rfl
theorem byF_nat (V i : Nat) : (byF V i).toNat = V / 256 ^ i % 256 := by unfold byF; simp
theorem pow_shift (i : Nat) : 256 ^ i = 2 ^ (8 * i) := by rw [Nat.pow_mul]
theorem RowsW.setN {W : World} {g k : Nat} {cs : Array Value} {t : TypeId} {v : Value} : ∀ {L : List RowT} (n : Nat), RowsW W L → L[n]? = some (g, cs, t) → (L.map Prod.fst).Nodup → RowsW (W.setCell ⟨g, k, none⟩ v) (L.set n (g, cs.setIfInBounds k v, t))
  | [], n, _, hn, _ => by simp at hn
  | r :: L, 0, h, hn, hd => by
    have hr : r = (g, cs, t) := by simpa using hn
    subst hr
    simp only [List.map_cons, List.nodup_cons] at hd
    exact RowsW.set h (fun q hq e => hd.1 (e ▸ List.mem_map.2 ⟨q, hq, rfl⟩)) k v
  | r :: L, n + 1, h, hn, hd => by
    simp only [List.map_cons, List.nodup_cons] at hd
    have hn' : L[n]? = some (g, cs, t) := by simpa using hn
    have ih := RowsW.setN (k := k) (v := v) n h.tail hn' hd.2
    have hm : (g, cs, t) ∈ L := List.mem_of_getElem? hn'
    have hne : r.1 ≠ g := fun e => hd.1 (e ▸ List.mem_map.2 ⟨(g, cs, t), hm, rfl⟩)
    have hg : W.heap[g]? = some (.cells cs t (0, 0)) := by
      clear ih hd hne
      have h2 := h.tail
      clear h
      induction L generalizing n with
      | nil => cases hm
      | cons a L ih =>
        rcases List.mem_cons.1 hm with rfl | hm2
        · exact h2.1
        · cases n with
          | zero => simp at hn'; subst hn'; exact h2.1
          | succ n => exact ih n (by simpa using hn') (by simpa using hn') hm2 h2.2
    refine ⟨?_, ih⟩
    show (W.setCell ⟨g, k, none⟩ v).heap[r.1]? = _
    rw [setCell_eq_setRow W g k _ _ _ v hg, setRow_other _ _ _ _ hne]
    exact h.1
end Go.Proofs.Ytfejabfmhddepaa

