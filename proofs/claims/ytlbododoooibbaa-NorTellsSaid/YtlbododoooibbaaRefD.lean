/- The contracts of bootjackref1.Torn and Half. -/
import Derived.Test.YtlbododoooibbaaRefC
namespace Go.Proofs.Ytlbododoooibbaa
open Go.RowKit
set_option linter.unusedVariables false

theorem set_same (l : List UInt8) (k : Nat) (x : UInt8) (hk : k < l.length) (h : l.getD k 0 = x) : l.set k x = l := by
  apply list_ext_getD (by simp)
  intro i hi
  rw [getD_set _ _ _ _ (by simpa using hi)]
  by_cases e : k = i
  · subst e; rw [if_pos rfl, h]
  · rw [if_neg e]
theorem torn_bit (o n p : UInt8) (k : Nat) : (tornByte o n p).toBitVec.getLsbD k = (n.toBitVec.getLsbD k || (o.toBitVec.getLsbD k && (decide (k < 8) && !n.toBitVec.getLsbD k) && p.toBitVec.getLsbD k)) := by
  simp only [tornByte, UInt8.toBitVec_or, UInt8.toBitVec_and, UInt8.toBitVec_not, BitVec.getLsbD_or, BitVec.getLsbD_and, BitVec.getLsbD_not]
theorem half_bit (o p : UInt8) (k : Nat) : (o ||| p).toBitVec.getLsbD k = (o.toBitVec.getLsbD k || p.toBitVec.getLsbD k) := by
  simp only [UInt8.toBitVec_or, BitVec.getLsbD_or]
theorem bitI_one {x : UInt8} {k : Nat} : bitI x k = 1 ↔ x.toBitVec.getLsbD k = true := by
  unfold bitI; split <;> simp_all
theorem bitI_zero {x : UInt8} {k : Nat} : bitI x k = 0 ↔ x.toBitVec.getLsbD k = false := by
  unfold bitI; split <;> simp_all

theorem sum_at {a b : Nat} {q : Nat} (h : a + 2 ^ q = b) (hb : b < 2 ^ 8) : ((a : Int) + 2 ^ q) % 256 = (b : Int) := by
  have e : ((a : Int) + 2 ^ q) = (b : Int) := by exact_mod_cast h
  rw [e]
  omega
theorem half_no {x z : UInt8} {q : Nat} (hq : q < 8) (h : bitI x q ≠ 0 ∨ bitI z q ≠ 1) : part x (x ||| z) (q + 1) = part x (x ||| z) q := by
  apply part_no hq
  rw [half_bit]
  rcases h with h | h
  · right
    cases hx : x.toBitVec.getLsbD q
    · exact absurd (bitI_zero.2 hx) h
    · rfl
  · cases hz : z.toBitVec.getLsbD q
    · cases hx : x.toBitVec.getLsbD q <;> simp
    · exact absurd (bitI_one.2 hz) h
theorem torn_no_part {o n p : UInt8} {q : Nat} (hq : q < 8) (h : bitI o q ≠ 1 ∨ bitI n q ≠ 0 ∨ bitI p q ≠ 1) : part n (tornByte o n p) (q + 1) = part n (tornByte o n p) q := by
  apply part_no hq
  rw [torn_bit]
  cases hn : n.toBitVec.getLsbD q
  · left
    rcases h with h | h | h
    · cases ho : o.toBitVec.getLsbD q
      · simp
      · exact absurd (bitI_one.2 ho) h
    · exact absurd (bitI_zero.2 hn) h
    · cases hp : p.toBitVec.getLsbD q
      · simp
      · exact absurd (bitI_one.2 hp) h
  · right; rfl

theorem bit_is (x : UInt8) (k : Nat) (hk : k < 8) (b : Int) (hb : Hid (bitI x k = b)) (w : World) :
    Calls Try.prog 27 #[.int .u8 (x.toNat : Int), .int .i64 (k : Int)] w fun e w' => e = .returned (.int .i64 b) ∧ w = w' :=
  (bit_any x k hk w).mono fun e w' ⟨he, hw⟩ => ⟨by rw [he, hb.out], hw.symm⟩

set_option maxHeartbeats 1600000 in
theorem rhalf_any (A1 A2 : Option Addr) (l p : List UInt8) (c1 c2 : Nat) (w : World) (h1 : Bs w A1 l) (h2 : Bs w A2 p) (hl : l.length ≤ 2147483648) (hp : p.length ≤ 2147483648) :
    Calls Try.prog 23 #[.slice A1 l.length c1, .slice A2 p.length c2] w (RetOb 5 w (halfB l p)) := by
  go_enter Try.func23, Try.ntmps23
  go_wp2_with (at_builtin; refine wpList_append_bs rfl (.const (.slice none 0 0)) _ 22 rfl w.heap.size 5 Try.underlying22 info5 _ [] rfl (Ob.nil_ _ _ _) A1 l _ c1 rfl rfl h1 (by simp; omega) (Nat.le_refl _) ?_)
  intro v w2 ho hg
  obtain ⟨A, c, rfl, -, hfo⟩ := ho.form
  have hb2 : Below w.heap.size w w2 := below_of_grown hg
  clear hg
  go_wp2_with fail
  go_loopw [6] (fun i wr => ∃ k : Nat, k ≤ l.length ∧ i = .int .i64 k ∧ Ob 5 wr w.heap.size (.slice A l.length c) (halfTo l p k) ∧ Below w.heap.size w wr) (fun i _ => l.length - (intOf i).toNat)
  case atStart => exact ⟨0, Nat.zero_le _, rfl, by rw [halfTo_zero]; exact ho, hb2⟩
  case round =>
    obtain ⟨k, hk, rfl, hown, hbel⟩ := hrel
    obtain ⟨wo, rfl⟩ : ∃ wo : World, wo = wr := ⟨_, rfl⟩
    by_cases hlt : k < l.length
    · obtain ⟨x, hx⟩ : ∃ x, l.getD k 0 = x := ⟨_, rfl⟩
      obtain ⟨z, hz⟩ : ∃ z, p.getD k 0 = z := ⟨_, rfl⟩
      have Hx := Lib.hid hx
      have Hz := Lib.hid hz
      have Hsub : Hid (x &&& ~~~(x ||| z) = 0) := u8_and_not_or x z
      have Hst0 : Hid (Ob 5 wo w.heap.size (.slice A l.length c) ((halfTo l p k).set k (part x (x ||| z) 0))) := Lib.hid (by
        rw [part_zero, set_same _ _ _ (by rw [halfTo_len]; exact hlt) (by rw [halfTo_at hlt]; exact hx)]; exact hown)
      clear hx hz hown ho hb2
      go_wp2_with fail
      go_loopw [7] (fun i wr => ∃ q : Nat, q ≤ 8 ∧ i = .int .i64 q ∧ Ob 5 wr w.heap.size (.slice A l.length c) ((halfTo l p k).set k (part x (x ||| z) q)) ∧ Below w.heap.size w wr) (fun i _ => 8 - (intOf i).toNat)
      case atStart => exact ⟨0, Nat.zero_le _, rfl, Hst0.out, hbel⟩
      case round =>
        obtain ⟨q, hq8, rfl, hown, hbel⟩ := hrel
        by_cases hq : q < 8
        · obtain ⟨bx, hbx⟩ : ∃ b, bitI x q = b := ⟨_, rfl⟩
          obtain ⟨bz, hbz⟩ : ∃ b, bitI z q = b := ⟨_, rfl⟩
          have Hbx := Lib.hid hbx
          have Hbz := Lib.hid hbz
          obtain ⟨b1, o1, e1, hc1⟩ := hown.bs.at_ (k := k) (by simp [halfTo_len]; exact hlt)
          rcases hfo with rfl | ⟨g, rfl, hg, -⟩
          · cases e1
          injection e1 with e1
          injection e1 with e1 e2
          subst e1
          subst e2
          obtain ⟨b3, o3, rfl, hc3⟩ := (h1.below hbel).at_ (k := k) hlt
          have hz2 := h2.below hbel
          have hfr : wr.frozen? ⟨g, k, none⟩ = false := hown.frozen k
          rw [Nat.zero_add, getD_set _ _ _ _ (by rw [halfTo_len]; exact hlt), if_pos rfl] at hc1
          rw [Hx.out] at hc3
          have CP : Hid (∀ W, W = wr → Calls Try.prog 29 #[.slice A2 p.length c2, .int .i64 (k : Int)] W fun e w' => e = .returned (.int .u8 (z.toNat : Int)) ∧ W = w') := Lib.hid (fun W hW => by
            subst hW
            have := picked_any A2 p c2 k W hz2 hp (by omega)
            rw [Hz.out] at this
            exact this.mono fun e w' ⟨he, hw⟩ => ⟨he, hw.symm⟩)
          by_cases hbx0 : bx = 0
          · have t1 : (bx == 0) = true := by simp [hbx0]
            by_cases hbz1 : bz = 1
            · have t2 : (bz == 1) = true := by simp [hbz1]
              have hk1 : (x ||| z).toBitVec.getLsbD q = true := by rw [half_bit, bitI_one.1 (hbz.trans hbz1)]; simp
              have hk2 : x.toBitVec.getLsbD q = false := bitI_zero.1 (hbx.trans hbx0)
              have hsum := part_toNat hq hk1 hk2
              have hst := hown.set_ k (part x (x ||| z) (q + 1))
              rw [List.set_set] at hst
              have hbst : Below w.heap.size w (wr.setCell ⟨g, k, none⟩ (bval (part x (x ||| z) (q + 1)))) := hbel.setCell hg _
              have Hval := Lib.hid (sum_at hsum (part x (x ||| z) (q + 1)).toNat_lt)
              have Hpn : Hid (part x (x ||| z) (q + 1) = part x (x ||| z) (q + 1)) := rfl
              generalize hpn : part x (x ||| z) (q + 1) = pn at hst hbst Hval
              have HPN := Lib.hid hpn
              clear hpn
              generalize part x (x ||| z) q = pc at *
              have Hst := Lib.hid hst
              have Hbst := Lib.hid hbst
              clear hst hbst hown hbel hbx hbz hbx0 hbz1 hz2 hk1 hk2 h1 h2 hsum Hpn
              go_wp2_with fail
              refine (bit_is x q hq bx Hbx _).mono ?_
              rintro e w' ⟨rfl, rfl⟩
              go_wp2_with fail
              refine (CP.out _ rfl).mono ?_
              rintro e w' ⟨rfl, rfl⟩
              go_wp2_with fail
              refine (bit_is z q hq bz Hbz _).mono ?_
              rintro e w' ⟨rfl, rfl⟩
              go_wp2_with fail
              go_roundw
              case rel =>
                refine ⟨q + 1, by omega, by go_num, ?_⟩
                rw [Hval.out, HPN.out]
                exact ⟨Hst.out, Hbst.out⟩
              case measure => simp [intOf]; omega
            · have t2 : (bz == 1) = false := by simpa using hbz1
              have HN : Hid (part x (x ||| z) (q + 1) = part x (x ||| z) q) := half_no hq (.inr (by rw [hbz]; exact hbz1))
              have Hst := Lib.hid hown
              have Hbst := Lib.hid hbel
              clear hown hbel hbx hbz hbx0 hbz1 hz2 h1 h2
              go_wp2_with fail
              refine (bit_is x q hq bx Hbx _).mono ?_
              rintro e w' ⟨rfl, rfl⟩
              go_wp2_with fail
              refine (CP.out _ rfl).mono ?_
              rintro e w' ⟨rfl, rfl⟩
              go_wp2_with fail
              refine (bit_is z q hq bz Hbz _).mono ?_
              rintro e w' ⟨rfl, rfl⟩
              go_wp2_with fail
              go_roundw
              case rel => exact ⟨q + 1, by omega, by go_num, by rw [HN.out]; exact Hst.out, Hbst.out⟩
              case measure => simp [intOf]; omega
          · have t1 : (bx == 0) = false := by simpa using hbx0
            have HN : Hid (part x (x ||| z) (q + 1) = part x (x ||| z) q) := half_no hq (.inl (by rw [hbx]; exact hbx0))
            have Hst := Lib.hid hown
            have Hbst := Lib.hid hbel
            clear hown hbel hbx hbz hbx0 hz2 h1 h2
            go_wp2_with fail
            refine (bit_is x q hq bx Hbx _).mono ?_
            rintro e w' ⟨rfl, rfl⟩
            go_wp2_with fail
            go_roundw
            case rel => exact ⟨q + 1, by omega, by go_num, by rw [HN.out]; exact Hst.out, Hbst.out⟩
            case measure => simp [intOf]; omega
        · obtain rfl : q = 8 := by omega
          have Hst : Hid (Ob 5 wr w.heap.size (.slice A l.length c) (halfTo l p (k + 1))) := Lib.hid (by
            rw [part_eight Hsub.out, ← Hx.out, ← Hz.out, halfTo_step hlt] at hown; exact hown)
          clear hown
          go_wp2_with fail
          go_roundw
          case rel => exact ⟨k + 1, by omega, by go_num, Hst.out, hbel⟩
          case measure => simp [intOf]; omega
    · have Hown : Hid (Ob 5 wo w.heap.size (.slice A l.length c) (halfB l p)) := Lib.hid (by rw [← halfTo_end (k := k) (by omega)]; exact hown)
      clear hown
      go_wp2_with fail
      go_ret
      exact ⟨_, rfl, Hown.out, hbel⟩
end Go.Proofs.Ytlbododoooibbaa
