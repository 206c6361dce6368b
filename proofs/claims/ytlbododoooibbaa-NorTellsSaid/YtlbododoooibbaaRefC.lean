/- The contracts of bootjackref1.Program, Between, Risen, and the parts of Torn and Half. -/
import Derived.Test.YtlbododoooibbaaRefB
namespace Go.Proofs.Ytlbododoooibbaa
open Go.RowKit
set_option linter.unusedVariables false

theorem rcan_is {A1 A2 : Option Addr} {l m : List UInt8} {c1 c2 : Nat} {w : World} {b : Bool} (hb : Hid (canB l m = b)) (h1 : Bs w A1 l) (h2 : Bs w A2 m) (hl : l.length ≤ 2147483648) :
    Calls Try.prog 15 #[.slice A1 l.length c1, .slice A2 m.length c2] w fun e w' => e = .returned (.bool b) ∧ ∃ n, w' = w.drewN n :=
  (rcan_any A1 A2 l m c1 c2 w h1 h2 hl).mono fun _ _ ⟨he, hw⟩ => ⟨by rw [he, hb.out], hw⟩

set_option maxHeartbeats 400000 in
theorem rprogram_any (A1 A2 : Option Addr) (l m : List UInt8) (c1 c2 : Nat) (w : World) (h1 : Bs w A1 l) (h2 : Bs w A2 m) (hl : l.length ≤ 2147483648) (hm : m.length ≤ 2147483648) :
    Calls Try.prog 17 #[.slice A1 l.length c1, .slice A2 m.length c2] w (RetOb 5 w (if canB l m then m else [])) := by
  by_cases hc : canB l m = true
  · rw [if_pos hc]
    have Hc := Lib.hid hc
    clear hc
    go_enter Try.func17, Try.ntmps17
    go_wp2_with fail
    refine (rcan_is Hc h1 h2 hl).mono ?_
    rintro e w' ⟨rfl, n, rfl⟩
    go_wp2_with (at_builtin; refine wpList_append_bs rfl (.const (.slice none 0 0)) _ 22 rfl w.heap.size 5 Try.underlying22 info5 _ [] rfl (Ob.nil_ _ _ _) A2 m _ c2 rfl rfl (h2.drewN n) (by simp; omega) (Nat.le_refl _) ?_)
    intro v w2 ho hg
    have hb := below_of_drewN (below_of_grown hg)
    clear hg
    go_wp2_with fail
    go_ret
    exact ⟨_, rfl, ho, hb⟩
  · rw [if_neg hc]
    have Hc : Hid (canB l m = false) := Lib.hid (by simpa using hc)
    clear hc
    go_enter Try.func17, Try.ntmps17
    go_wp2_with fail
    refine (rcan_is Hc h1 h2 hl).mono ?_
    rintro e w' ⟨rfl, n, rfl⟩
    go_wp2_with fail
    go_ret
    exact ⟨_, rfl, Ob.nil_ _ _ _, below_drewN' (Below.refl _ _) n⟩

set_option maxHeartbeats 800000 in
theorem rbetween_any (A1 A2 A3 : Option Addr) (l m s : List UInt8) (c1 c2 c3 : Nat) (w : World) (h1 : Bs w A1 l) (h2 : Bs w A2 m) (h3 : Bs w A3 s) (hl : l.length ≤ 2147483648) (hs : s.length ≤ 2147483648) :
    Calls Try.prog 21 #[.slice A1 l.length c1, .slice A2 m.length c2, .slice A3 s.length c3] w (RetB w (canB l s && canB s m)) := by
  obtain ⟨b1, Hb1⟩ : ∃ b, Hid (canB l m = b) := ⟨_, rfl⟩
  cases b1 with
  | false =>
    have Hr : (canB l s && canB s m) = false := by
      cases h : canB l s <;> cases h' : canB s m <;> try rfl
      have := canB_trans h h'
      rw [Hb1.out] at this
      cases this
    rw [Hr]
    clear Hr
    go_enter Try.func21, Try.ntmps21
    go_wp2_with fail
    refine (rcan_is Hb1 h1 h2 hl).mono ?_
    rintro e w' ⟨rfl, n, rfl⟩
    go_wp2_with fail
    go_ret
    exact ⟨rfl, _, rfl⟩
  | true =>
    by_cases hlen : s.length = l.length
    · obtain ⟨b3, Hb3⟩ : ∃ b, Hid (canB s m = b) := ⟨_, rfl⟩
      obtain ⟨b4, Hb4⟩ : ∃ b, Hid (canB l s = b) := ⟨_, rfl⟩
      rw [Hb3.out, Hb4.out]
      have hq : ((s.length : Int) == (l.length : Int)) = true := by simp [hlen]
      clear hlen
      cases b3 with
      | false =>
        rw [Bool.and_false]
        go_enter Try.func21, Try.ntmps21
        go_wp2_with fail
        refine (rcan_is Hb1 h1 h2 hl).mono ?_
        rintro e w' ⟨rfl, n, rfl⟩
        go_wp2_with fail
        refine (rcan_is Hb3 (h3.drewN _) (h2.drewN _) hs).mono ?_
        rintro e w' ⟨rfl, n2, rfl⟩
        go_wp2_with fail
        go_ret
        exact ⟨rfl, _, rfl⟩
      | true =>
        rw [Bool.and_true]
        go_enter Try.func21, Try.ntmps21
        go_wp2_with fail
        refine (rcan_is Hb1 h1 h2 hl).mono ?_
        rintro e w' ⟨rfl, n, rfl⟩
        go_wp2_with fail
        refine (rcan_is Hb3 (h3.drewN _) (h2.drewN _) hs).mono ?_
        rintro e w' ⟨rfl, n2, rfl⟩
        go_wp2_with fail
        refine (rcan_is Hb4 (h1.drewN _) (h3.drewN _) hl).mono ?_
        rintro e w' ⟨rfl, n3, rfl⟩
        go_wp2_with fail
        go_ret
        exact ⟨rfl, _, rfl⟩
    · have hz : canB l s = false := canB_len (fun h => hlen h.symm)
      rw [hz, Bool.false_and]
      have hq : ((s.length : Int) == (l.length : Int)) = false := by simp; omega
      clear hz hlen
      go_enter Try.func21, Try.ntmps21
      go_wp2_with fail
      refine (rcan_is Hb1 h1 h2 hl).mono ?_
      rintro e w' ⟨rfl, n, rfl⟩
      go_wp2_with fail
      go_ret
      exact ⟨rfl, _, rfl⟩

set_option maxHeartbeats 400000 in
theorem rrisen_any (A1 A2 : Option Addr) (l m : List UInt8) (c1 c2 : Nat) (w : World) (h1 : Bs w A1 l) (h2 : Bs w A2 m) (hl : m.length ≤ 2147483648) :
    Calls Try.prog 25 #[.slice A1 l.length c1, .slice A2 m.length c2] w (RetB w (canB m l)) := by
  go_enter Try.func25, Try.ntmps25
  go_wp2_with fail
  refine (rcan_any A2 A1 m l c2 c1 _ h2 h1 hl).mono ?_
  rintro e w' ⟨rfl, n, rfl⟩
  go_wp2_with fail
  go_ret
  exact ⟨rfl, n, rfl⟩

/-- b, and of f the lowest k bits -/
def lowMask (k : Nat) : UInt8 := UInt8.ofNat (2 ^ k - 1)
def part (b f : UInt8) (k : Nat) : UInt8 := b ||| (f &&& lowMask k)
theorem lowMask_bit : ∀ k, k ≤ 8 → ∀ i, i < 8 → (lowMask k).toBitVec.getLsbD i = decide (i < k) := by
  have h : ∀ k : Fin 9, ∀ i : Fin 8, (lowMask k.1).toBitVec.getLsbD i.1 = decide (i.1 < k.1) := by decide
  exact fun k hk i hi => h ⟨k, by omega⟩ ⟨i, hi⟩
theorem oneAt_bit : ∀ k, k < 8 → ∀ i, i < 8 → (UInt8.ofNat (2 ^ k)).toBitVec.getLsbD i = decide (i = k) := by
  have h : ∀ k : Fin 8, ∀ i : Fin 8, (UInt8.ofNat (2 ^ k.1)).toBitVec.getLsbD i.1 = decide (i.1 = k.1) := by decide
  exact fun k hk i hi => h ⟨k, hk⟩ ⟨i, hi⟩
theorem part_zero (b f : UInt8) : part b f 0 = b := by
  apply u8_ext
  intro i hi
  simp [part, lowMask_bit 0 (by omega) i hi]
theorem part_eight {b f : UInt8} (h : b &&& ~~~f = 0) : part b f 8 = f := by
  apply u8_ext
  intro i hi
  have q := (bitI_le f b).2 h i hi
  unfold bitI at q
  simp only [part, UInt8.toBitVec_or, UInt8.toBitVec_and, BitVec.getLsbD_or, BitVec.getLsbD_and, lowMask_bit 8 (by omega) i hi]
  rw [decide_eq_true hi]
  cases hx : (b.toBitVec).getLsbD i <;> cases hy : (f.toBitVec).getLsbD i <;> simp_all
theorem part_no {b f : UInt8} {k : Nat} (hk : k < 8) (h : f.toBitVec.getLsbD k = false ∨ b.toBitVec.getLsbD k = true) : part b f (k + 1) = part b f k := by
  apply u8_ext
  intro i hi
  simp [part, lowMask_bit k (by omega) i hi, lowMask_bit (k + 1) (by omega) i hi]
  by_cases e : i = k
  · subst e
    rcases h with h | h <;> simp [h]
  · have : (i < k + 1) ↔ (i < k) := by omega
    simp [this]
theorem u8_add_or {x y : UInt8} (h : x &&& y = 0) : x + y = x ||| y := by
  apply UInt8.toBitVec_inj.1
  rw [UInt8.toBitVec_add, UInt8.toBitVec_or]
  apply BitVec.add_eq_or_of_and_eq_zero
  have := congrArg UInt8.toBitVec h
  simpa using this
theorem part_yes {b f : UInt8} {k : Nat} (hk : k < 8) (h1 : f.toBitVec.getLsbD k = true) (h2 : b.toBitVec.getLsbD k = false) : part b f k + UInt8.ofNat (2 ^ k) = part b f (k + 1) := by
  have hz : part b f k &&& UInt8.ofNat (2 ^ k) = 0 := by
    apply u8_ext
    intro i hi
    simp only [UInt8.toBitVec_and, BitVec.getLsbD_and, oneAt_bit k hk i hi]
    simp [part, lowMask_bit k (by omega) i hi]
    by_cases e : i = k
    · subst e; simp [h2]
    · simp [e]
  rw [u8_add_or hz]
  apply u8_ext
  intro i hi
  simp only [UInt8.toBitVec_or, BitVec.getLsbD_or, oneAt_bit k hk i hi]
  simp [part, lowMask_bit k (by omega) i hi, lowMask_bit (k + 1) (by omega) i hi]
  by_cases e : i = k
  · subst e; simp [h1]
  · have : (i < k + 1) ↔ (i < k) := by omega
    simp [e, this]
theorem part_toNat {b f : UInt8} {k : Nat} (hk : k < 8) (h1 : f.toBitVec.getLsbD k = true) (h2 : b.toBitVec.getLsbD k = false) : (part b f k).toNat + 2 ^ k = (part b f (k + 1)).toNat := by
  have hz : part b f k &&& UInt8.ofNat (2 ^ k) = 0 := by
    apply u8_ext
    intro i hi
    simp only [UInt8.toBitVec_and, BitVec.getLsbD_and, oneAt_bit k hk i hi]
    simp [part, lowMask_bit k (by omega) i hi]
    by_cases e : i = k
    · subst e; simp [h2]
    · simp [e]
  have e := part_yes hk h1 h2
  have hp : (UInt8.ofNat (2 ^ k)).toNat = 2 ^ k := by
    rw [UInt8.toNat_ofNat']
    exact Nat.mod_eq_of_lt (Nat.pow_lt_pow_right (by omega) hk)
  have hz' : (part b f k).toBitVec &&& (UInt8.ofNat (2 ^ k)).toBitVec = 0#8 := by simpa using congrArg UInt8.toBitVec hz
  have hs := BitVec.toNat_add_of_and_eq_zero hz'
  have h3 : (part b f k).toNat + (UInt8.ofNat (2 ^ k)).toNat = (part b f k + UInt8.ofNat (2 ^ k)).toNat := hs.symm
  rw [e, hp] at h3
  exact h3
end Go.Proofs.Ytlbododoooibbaa
