/- The contract of bootjackref1.Half. -/
import Derived.Test.YtlnpfndjdilfhaaRefBit
import Derived.Test.YtlnpfndjdilfhaaRefPicked
namespace Go.Proofs.Ytlnpfndjdilfhaa
open Go.RowKit
set_option linter.unusedVariables false

set_option maxHeartbeats 1600000 in
theorem rhalf_any (A1 A2 : Option Addr) (l p : List UInt8) (c1 c2 : Nat) (w : World) (h1 : Bs w A1 l) (h2 : Bs w A2 p) (hl : l.length ≤ 2147483648) (hp : p.length ≤ 2147483648) :
    Calls Try.prog 50 #[.slice A1 l.length c1, .slice A2 p.length c2] w (RetOb 5 w (halfB l p)) := by
  go_enter Try.func50, Try.ntmps50
  go_wp2_with (at_builtin; refine wpList_append_bs rfl (.const (.slice none 0 0)) _ 30 rfl w.heap.size 5 Try.underlying30 info5 _ [] rfl (Ob.nil_ _ _ _) A1 l _ c1 rfl rfl h1 (by simp; omega) (Nat.le_refl _) ?_)
  intro v w2 ho hg
  obtain ⟨A, c, rfl, -, hfo⟩ := ho.form
  have hb2 : Below w.heap.size w w2 := below_of_grown hg
  clear hg
  go_wp2_with fail
  go_loopw [6] (fun i wr => ∃ k : Nat, k ≤ l.length ∧ i = .int .i64 k ∧ Ob 5 wr w.heap.size (.slice A l.length c) (halfTo l p k) ∧ Below w.heap.size w wr) (fun i _ => l.length - (intOf i).toNat)
  case atStart => exact ⟨0, Nat.zero_le _, rfl, by rw [halfTo_zero]; exact ho, hb2⟩
  case round =>
    obtain ⟨k, hk, rfl, hown, hbel⟩ := hrel
    obtain ⟨wo, rfl⟩ : ∃ wo : World, wo = wr := ⟨_, rfl⟩
    by_cases hlt : k < l.length
    · obtain ⟨x, hx⟩ : ∃ x, l.getD k 0 = x := ⟨_, rfl⟩
      obtain ⟨z, hz⟩ : ∃ z, p.getD k 0 = z := ⟨_, rfl⟩
      have Hx := Lib.hid hx
      have Hz := Lib.hid hz
      have Hsub : Hid (x &&& ~~~(x ||| z) = 0) := u8_and_not_or x z
      have Hst0 : Hid (Ob 5 wo w.heap.size (.slice A l.length c) ((halfTo l p k).set k (part x (x ||| z) 0))) := Lib.hid (by
        rw [part_zero, set_same _ _ _ (by rw [halfTo_len]; exact hlt) (by rw [halfTo_at hlt]; exact hx)]; exact hown)
      clear hx hz hown ho hb2
      go_wp2_with fail
      go_loopw [7] (fun i wr => ∃ q : Nat, q ≤ 8 ∧ i = .int .i64 q ∧ Ob 5 wr w.heap.size (.slice A l.length c) ((halfTo l p k).set k (part x (x ||| z) q)) ∧ Below w.heap.size w wr) (fun i _ => 8 - (intOf i).toNat)
      case atStart => exact ⟨0, Nat.zero_le _, rfl, Hst0.out, hbel⟩
      case round =>
        obtain ⟨q, hq8, rfl, hown, hbel⟩ := hrel
        by_cases hq : q < 8
        · obtain ⟨bx, hbx⟩ : ∃ b, bitI x q = b := ⟨_, rfl⟩
          obtain ⟨bz, hbz⟩ : ∃ b, bitI z q = b := ⟨_, rfl⟩
          have Hbx := Lib.hid hbx
          have Hbz := Lib.hid hbz
          obtain ⟨b1, o1, e1, hc1⟩ := hown.bs.at_ (k := k) (by simp [halfTo_len]; exact hlt)
          rcases hfo with rfl | ⟨g, rfl, hg, -⟩
          · cases e1
          injection e1 with e1
          injection e1 with e1 e2
          subst e1
          subst e2
          obtain ⟨b3, o3, rfl, hc3⟩ := (h1.below hbel).at_ (k := k) hlt
          have hz2 := h2.below hbel
          have hfr : wr.frozen? ⟨g, k, none⟩ = false := hown.frozen k
          rw [Nat.zero_add, getD_set _ _ _ _ (by rw [halfTo_len]; exact hlt), if_pos rfl] at hc1
          rw [Hx.out] at hc3
          have CP : Hid (∀ W, W = wr → Calls Try.prog 54 #[.slice A2 p.length c2, .int .i64 (k : Int)] W fun e w' => e = .returned (.int .u8 (z.toNat : Int)) ∧ W = w') := Lib.hid (fun W hW => by
            subst hW
            have := picked_any A2 p c2 k W hz2 hp (by omega)
            rw [Hz.out] at this
            exact this.mono fun e w' ⟨he, hw⟩ => ⟨he, hw.symm⟩)
          by_cases hbx0 : bx = 0
          · have t1 : (bx == 0) = true := by simp [hbx0]
            by_cases hbz1 : bz = 1
            · have t2 : (bz == 1) = true := by simp [hbz1]
              have hk1 : (x ||| z).toBitVec.getLsbD q = true := by rw [half_bit, bitI_one.1 (hbz.trans hbz1)]; simp
              have hk2 : x.toBitVec.getLsbD q = false := bitI_zero.1 (hbx.trans hbx0)
              have hsum := part_toNat hq hk1 hk2
              have hst := hown.set_ k (part x (x ||| z) (q + 1))
              rw [List.set_set] at hst
              have hbst : Below w.heap.size w (wr.setCell ⟨g, k, none⟩ (bval (part x (x ||| z) (q + 1)))) := hbel.setCell hg _
              have Hval := Lib.hid (sum_at hsum (part x (x ||| z) (q + 1)).toNat_lt)
              have Hpn : Hid (part x (x ||| z) (q + 1) = part x (x ||| z) (q + 1)) := rfl
              generalize hpn : part x (x ||| z) (q + 1) = pn at hst hbst Hval
              have HPN := Lib.hid hpn
              clear hpn
              generalize part x (x ||| z) q = pc at *
              have Hst := Lib.hid hst
              have Hbst := Lib.hid hbst
              clear hst hbst hown hbel hbx hbz hbx0 hbz1 hz2 hk1 hk2 h1 h2 hsum Hpn
              go_wp2_with fail
              refine (bit_is x q hq bx Hbx _).mono ?_
              rintro e w' ⟨rfl, rfl⟩
              go_wp2_with fail
              refine (CP.out _ rfl).mono ?_
              rintro e w' ⟨rfl, rfl⟩
              go_wp2_with fail
              refine (bit_is z q hq bz Hbz _).mono ?_
              rintro e w' ⟨rfl, rfl⟩
              go_wp2_with fail
              go_roundw
              case rel =>
                refine ⟨q + 1, by omega, by go_num, ?_⟩
                rw [Hval.out, HPN.out]
                exact ⟨Hst.out, Hbst.out⟩
              case measure => simp [intOf]; omega
            · have t2 : (bz == 1) = false := by simpa using hbz1
              have HN : Hid (part x (x ||| z) (q + 1) = part x (x ||| z) q) := half_no hq (.inr (by rw [hbz]; exact hbz1))
              have Hst := Lib.hid hown
              have Hbst := Lib.hid hbel
              clear hown hbel hbx hbz hbx0 hbz1 hz2 h1 h2
              go_wp2_with fail
              refine (bit_is x q hq bx Hbx _).mono ?_
              rintro e w' ⟨rfl, rfl⟩
              go_wp2_with fail
              refine (CP.out _ rfl).mono ?_
              rintro e w' ⟨rfl, rfl⟩
              go_wp2_with fail
              refine (bit_is z q hq bz Hbz _).mono ?_
              rintro e w' ⟨rfl, rfl⟩
              go_wp2_with fail
              go_roundw
              case rel => exact ⟨q + 1, by omega, by go_num, by rw [HN.out]; exact Hst.out, Hbst.out⟩
              case measure => simp [intOf]; omega
          · have t1 : (bx == 0) = false := by simpa using hbx0
            have HN : Hid (part x (x ||| z) (q + 1) = part x (x ||| z) q) := half_no hq (.inl (by rw [hbx]; exact hbx0))
            have Hst := Lib.hid hown
            have Hbst := Lib.hid hbel
            clear hown hbel hbx hbz hbx0 hz2 h1 h2
            go_wp2_with fail
            refine (bit_is x q hq bx Hbx _).mono ?_
            rintro e w' ⟨rfl, rfl⟩
            go_wp2_with fail
            go_roundw
            case rel => exact ⟨q + 1, by omega, by go_num, by rw [HN.out]; exact Hst.out, Hbst.out⟩
            case measure => simp [intOf]; omega
        · obtain rfl : q = 8 := by omega
          have Hst : Hid (Ob 5 wr w.heap.size (.slice A l.length c) (halfTo l p (k + 1))) := Lib.hid (by
            rw [part_eight Hsub.out, ← Hx.out, ← Hz.out, halfTo_step hlt] at hown; exact hown)
          clear hown
          go_wp2_with fail
          go_roundw
          case rel => exact ⟨k + 1, by omega, by go_num, Hst.out, hbel⟩
          case measure => simp [intOf]; omega
    · have Hown : Hid (Ob 5 wo w.heap.size (.slice A l.length c) (halfB l p)) := Lib.hid (by rw [← halfTo_end (k := k) (by omega)]; exact hown)
      clear hown
      go_wp2_with fail
      go_ret
      exact ⟨_, rfl, Hown.out, hbel⟩

section
variable {w W : World} {A1 A2 A3 : Option Addr} {l m p : List UInt8} {n1 n2 n3 c1 c2 c3 : Nat}

theorem rhalf_in (hb : Below w.heap.size w W) (h1 : Bs W A1 l) (h2 : Bs W A2 m) (e1 : n1 = l.length) (e2 : n2 = m.length) (hl : n1 ≤ 65536) (hm : n2 ≤ 65536) :
    Calls Try.prog 50 #[.slice A1 n1 c1, .slice A2 n2 c2] W (RetIn 5 w (halfB l m)) := by
  subst e1
  subst e2
  exact (rhalf_any A1 A2 l m c1 c2 W h1 h2 (by omega) (by omega)).mono (retIn_of hb)
end
end Go.Proofs.Ytlnpfndjdilfhaa
