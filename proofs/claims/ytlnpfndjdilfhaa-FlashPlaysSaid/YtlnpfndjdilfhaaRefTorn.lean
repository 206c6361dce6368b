/- The contract of bootjackref1.Torn. -/
import Derived.Test.YtlnpfndjdilfhaaRefCan
import Derived.Test.YtlnpfndjdilfhaaRefPicked
namespace Go.Proofs.Ytlnpfndjdilfhaa
open Go.RowKit
set_option linter.unusedVariables false

set_option maxHeartbeats 3200000 in
theorem rtorn_yes (A1 A2 A3 : Option Addr) (l m p : List UInt8) (c1 c2 c3 : Nat) (w : World) (Hc : Hid (canB l m = true)) (h1 : Bs w A1 l) (h2 : Bs w A2 m) (h3 : Bs w A3 p)
    (hl : l.length ≤ 2147483648) (hm : m.length ≤ 2147483648) (hp : p.length ≤ 2147483648) :
    Calls Try.prog 49 #[.slice A1 l.length c1, .slice A2 m.length c2, .slice A3 p.length c3] w (RetOb 5 w (tornB l m p)) := by
  have Hlen : Hid (l.length = m.length) := Lib.hid (canB_iff.1 Hc.out).1
  go_enter Try.func49, Try.ntmps49
  go_wp2_with fail
  refine (rcan_is Hc h1 h2 hl).mono ?_
  rintro e w' ⟨rfl, n0, rfl⟩
  go_wp2_with (at_builtin; refine wpList_append_bs rfl (.const (.slice none 0 0)) _ 30 rfl w.heap.size 5 Try.underlying30 info5 _ [] rfl (Ob.nil_ _ _ _) A2 m _ c2 rfl rfl (h2.drewN n0) (by simp; omega) (Nat.le_refl _) ?_)
  intro v w2 ho hg
  obtain ⟨A, c, rfl, -, hfo⟩ := ho.form
  have hb2 : Below w.heap.size w w2 := below_of_drewN (below_of_grown hg)
  clear hg
  go_wp2_with fail
  go_loopw [8] (fun i wr => ∃ k : Nat, k ≤ l.length ∧ i = .int .i64 k ∧ Ob 5 wr w.heap.size (.slice A m.length c) (tornTo l m p k) ∧ Below w.heap.size w wr) (fun i _ => l.length - (intOf i).toNat)
  case atStart => exact ⟨0, Nat.zero_le _, rfl, by rw [tornTo_zero]; exact ho, hb2⟩
  case round =>
    obtain ⟨k, hk, rfl, hown, hbel⟩ := hrel
    obtain ⟨wo, rfl⟩ : ∃ wo : World, wo = wr := ⟨_, rfl⟩
    by_cases hlt : k < l.length
    · have hltm : k < m.length := by rw [← Hlen.out]; exact hlt
      obtain ⟨x, hx⟩ : ∃ x, l.getD k 0 = x := ⟨_, rfl⟩
      obtain ⟨y, hy⟩ : ∃ y, m.getD k 0 = y := ⟨_, rfl⟩
      obtain ⟨z, hz⟩ : ∃ z, p.getD k 0 = z := ⟨_, rfl⟩
      have Hx := Lib.hid hx
      have Hy := Lib.hid hy
      have Hz := Lib.hid hz
      have Hsub : Hid (y &&& ~~~(tornByte x y z) = 0) := Lib.hid (by unfold tornByte; exact u8_and_not_or y _)
      have Hst0 : Hid (Ob 5 wo w.heap.size (.slice A m.length c) ((tornTo l m p k).set k (part y (tornByte x y z) 0))) := Lib.hid (by
        rw [part_zero, set_same _ _ _ (by rw [tornTo_len]; exact hltm) (by rw [tornTo_at hltm]; exact hy)]; exact hown)
      clear hx hy hz hown ho hb2
      go_wp2_with fail
      go_loopw [9] (fun i wr => ∃ q : Nat, q ≤ 8 ∧ i = .int .i64 q ∧ Ob 5 wr w.heap.size (.slice A m.length c) ((tornTo l m p k).set k (part y (tornByte x y z) q)) ∧ Below w.heap.size w wr) (fun i _ => 8 - (intOf i).toNat)
      case atStart => exact ⟨0, Nat.zero_le _, rfl, Hst0.out, hbel⟩
      case round =>
        obtain ⟨q, hq8, rfl, hown, hbel⟩ := hrel
        by_cases hq : q < 8
        · obtain ⟨bx, hbx⟩ : ∃ b, bitI x q = b := ⟨_, rfl⟩
          obtain ⟨bY, hby⟩ : ∃ b, bitI y q = b := ⟨_, rfl⟩
          obtain ⟨bz, hbz⟩ : ∃ b, bitI z q = b := ⟨_, rfl⟩
          have Hbx := Lib.hid hbx
          have Hby := Lib.hid hby
          have Hbz := Lib.hid hbz
          obtain ⟨b1, o1, e1, hc1⟩ := hown.bs.at_ (k := k) (by simp [tornTo_len]; exact hltm)
          rcases hfo with rfl | ⟨g, rfl, hg, -⟩
          · cases e1
          injection e1 with e1
          injection e1 with e1 e2
          subst e1
          subst e2
          obtain ⟨b3, o3, rfl, hc3⟩ := (h1.below hbel).at_ (k := k) hlt
          obtain ⟨b4, o4, rfl, hc4⟩ := (h2.below hbel).at_ (k := k) hltm
          have hz2 := h3.below hbel
          have hfr : wr.frozen? ⟨g, k, none⟩ = false := hown.frozen k
          rw [Nat.zero_add, getD_set _ _ _ _ (by rw [tornTo_len]; exact hltm), if_pos rfl] at hc1
          rw [Hx.out] at hc3
          rw [Hy.out] at hc4
          have CP : Hid (∀ W, W = wr → Calls Try.prog 54 #[.slice A3 p.length c3, .int .i64 (k : Int)] W fun e w' => e = .returned (.int .u8 (z.toNat : Int)) ∧ W = w') := Lib.hid (fun W hW => by
            subst hW
            have := picked_any A3 p c3 k W hz2 hp (by omega)
            rw [Hz.out] at this
            exact this.mono fun e w' ⟨he, hw⟩ => ⟨he, hw.symm⟩)
          by_cases hbx1 : bx = 1
          · have t1 : (bx == 1) = true := by simp [hbx1]
            by_cases hby0 : bY = 0
            · have t2 : (bY == 0) = true := by simp [hby0]
              by_cases hbz1 : bz = 1
              · have t3 : (bz == 1) = true := by simp [hbz1]
                have hk1 : (tornByte x y z).toBitVec.getLsbD q = true := by
                  rw [torn_bit, bitI_one.1 (hbx.trans hbx1), bitI_zero.1 (hby.trans hby0), bitI_one.1 (hbz.trans hbz1), decide_eq_true hq]; rfl
                have hk2 : y.toBitVec.getLsbD q = false := bitI_zero.1 (hby.trans hby0)
                have hsum := part_toNat hq hk1 hk2
                have hst := hown.set_ k (part y (tornByte x y z) (q + 1))
                rw [List.set_set] at hst
                have hbst : Below w.heap.size w (wr.setCell ⟨g, k, none⟩ (bval (part y (tornByte x y z) (q + 1)))) := hbel.setCell (by simpa using hg) _
                have Hval := Lib.hid (sum_at hsum (part y (tornByte x y z) (q + 1)).toNat_lt)
                generalize hpn : part y (tornByte x y z) (q + 1) = pn at hst hbst Hval
                have HPN := Lib.hid hpn
                clear hpn
                generalize part y (tornByte x y z) q = pc at *
                have Hst := Lib.hid hst
                have Hbst := Lib.hid hbst
                clear hst hbst hown hbel hbx hby hbz hbx1 hby0 hbz1 hz2 hk1 hk2 h1 h2 h3 hsum
                go_wp2_with fail
                refine (bit_is x q hq bx Hbx _).mono ?_
                rintro e w' ⟨rfl, rfl⟩
                go_wp2_with fail
                refine (bit_is y q hq bY Hby _).mono ?_
                rintro e w' ⟨rfl, rfl⟩
                go_wp2_with fail
                refine (CP.out _ rfl).mono ?_
                rintro e w' ⟨rfl, rfl⟩
                go_wp2_with fail
                refine (bit_is z q hq bz Hbz _).mono ?_
                rintro e w' ⟨rfl, rfl⟩
                go_wp2_with fail
                go_roundw
                case rel =>
                  refine ⟨q + 1, by omega, by go_num, ?_⟩
                  rw [Hval.out, HPN.out]
                  exact ⟨Hst.out, Hbst.out⟩
                case measure => simp [intOf]; omega
              · have t3 : (bz == 1) = false := by simpa using hbz1
                have HN : Hid (part y (tornByte x y z) (q + 1) = part y (tornByte x y z) q) := torn_no_part hq (.inr (.inr (by rw [hbz]; exact hbz1)))
                have Hst := Lib.hid hown
                have Hbst := Lib.hid hbel
                clear hown hbel hbx hby hbz hz2 h1 h2 h3 hbz1 hby0 hbx1
                go_wp2_with fail
                refine (bit_is x q hq bx Hbx _).mono ?_
                rintro e w' ⟨rfl, rfl⟩
                go_wp2_with fail
                refine (bit_is y q hq bY Hby _).mono ?_
                rintro e w' ⟨rfl, rfl⟩
                go_wp2_with fail
                refine (CP.out _ rfl).mono ?_
                rintro e w' ⟨rfl, rfl⟩
                go_wp2_with fail
                refine (bit_is z q hq bz Hbz _).mono ?_
                rintro e w' ⟨rfl, rfl⟩
                go_wp2_with fail
                go_roundw
                case rel => exact ⟨q + 1, by omega, by go_num, by rw [HN.out]; exact Hst.out, Hbst.out⟩
                case measure => simp [intOf]; omega
            · have t2 : (bY == 0) = false := by simpa using hby0
              have HN : Hid (part y (tornByte x y z) (q + 1) = part y (tornByte x y z) q) := torn_no_part hq (.inr (.inl (by rw [hby]; exact hby0)))
              have Hst := Lib.hid hown
              have Hbst := Lib.hid hbel
              clear hown hbel hbx hby hbz hz2 h1 h2 h3 hby0 hbx1
              go_wp2_with fail
              refine (bit_is x q hq bx Hbx _).mono ?_
              rintro e w' ⟨rfl, rfl⟩
              go_wp2_with fail
              refine (bit_is y q hq bY Hby _).mono ?_
              rintro e w' ⟨rfl, rfl⟩
              go_wp2_with fail
              go_roundw
              case rel => exact ⟨q + 1, by omega, by go_num, by rw [HN.out]; exact Hst.out, Hbst.out⟩
              case measure => simp [intOf]; omega
          · have t1 : (bx == 1) = false := by simpa using hbx1
            have HN : Hid (part y (tornByte x y z) (q + 1) = part y (tornByte x y z) q) := torn_no_part hq (.inl (by rw [hbx]; exact hbx1))
            have Hst := Lib.hid hown
            have Hbst := Lib.hid hbel
            clear hown hbel hbx hby hbz hz2 h1 h2 h3 hbx1
            go_wp2_with fail
            refine (bit_is x q hq bx Hbx _).mono ?_
            rintro e w' ⟨rfl, rfl⟩
            go_wp2_with fail
            go_roundw
            case rel => exact ⟨q + 1, by omega, by go_num, by rw [HN.out]; exact Hst.out, Hbst.out⟩
            case measure => simp [intOf]; omega
        · obtain rfl : q = 8 := by omega
          have Hst : Hid (Ob 5 wr w.heap.size (.slice A m.length c) (tornTo l m p (k + 1))) := Lib.hid (by
            rw [part_eight Hsub.out, ← Hx.out, ← Hy.out, ← Hz.out, tornTo_step hltm] at hown; exact hown)
          clear hown
          go_wp2_with fail
          go_roundw
          case rel => exact ⟨k + 1, by omega, by go_num, Hst.out, hbel⟩
          case measure => simp [intOf]; omega
    · have Hown : Hid (Ob 5 wo w.heap.size (.slice A m.length c) (tornB l m p)) := Lib.hid (by rw [← tornTo_end (k := k) (by have := Hlen.out; omega)]; exact hown)
      clear hown
      go_wp2_with fail
      go_ret
      exact ⟨_, rfl, Hown.out, hbel⟩

theorem rtorn_no (A1 A2 A3 : Option Addr) (l m p : List UInt8) (c1 c2 c3 : Nat) (w : World) (Hc : Hid (canB l m = false)) (h1 : Bs w A1 l) (h2 : Bs w A2 m) (hl : l.length ≤ 2147483648) :
    Calls Try.prog 49 #[.slice A1 l.length c1, .slice A2 m.length c2, .slice A3 p.length c3] w (RetOb 5 w []) := by
  go_enter Try.func49, Try.ntmps49
  go_wp2_with fail
  refine (rcan_is Hc h1 h2 hl).mono ?_
  rintro e w' ⟨rfl, n, rfl⟩
  go_wp2_with fail
  go_ret
  exact ⟨_, rfl, Ob.nil_ _ _ _, below_drewN' (Below.refl _ _) n⟩

theorem rtorn_any (A1 A2 A3 : Option Addr) (l m p : List UInt8) (c1 c2 c3 : Nat) (w : World) (h1 : Bs w A1 l) (h2 : Bs w A2 m) (h3 : Bs w A3 p)
    (hl : l.length ≤ 2147483648) (hm : m.length ≤ 2147483648) (hp : p.length ≤ 2147483648) :
    Calls Try.prog 49 #[.slice A1 l.length c1, .slice A2 m.length c2, .slice A3 p.length c3] w (RetOb 5 w (if canB l m then tornB l m p else [])) := by
  by_cases hc : canB l m = true
  · rw [if_pos hc]; exact rtorn_yes A1 A2 A3 l m p c1 c2 c3 w hc h1 h2 h3 hl hm hp
  · rw [if_neg hc]; exact rtorn_no A1 A2 A3 l m p c1 c2 c3 w (show canB l m = false by simpa using hc) h1 h2 hl

section
variable {w W : World} {A1 A2 A3 : Option Addr} {l m p : List UInt8} {n1 n2 n3 c1 c2 c3 : Nat}

theorem rtorn_in (hb : Below w.heap.size w W) (h1 : Bs W A1 l) (h2 : Bs W A2 m) (h3 : Bs W A3 p) (e1 : n1 = l.length) (e2 : n2 = m.length) (e3 : n3 = p.length) (hl : n1 ≤ 65536) (hm : n2 ≤ 65536) (hp : n3 ≤ 65536) :
    Calls Try.prog 49 #[.slice A1 n1 c1, .slice A2 n2 c2, .slice A3 n3 c3] W (RetIn 5 w (if canB l m then tornB l m p else [])) := by
  subst e1
  subst e2
  subst e3
  exact (rtorn_any A1 A2 A3 l m p c1 c2 c3 W h1 h2 h3 (by omega) (by omega) (by omega)).mono (retIn_of hb)

theorem rtorn_r {r : List UInt8} (hb : Below w.heap.size w W) (hr : Hid ((if canB l m then tornB l m p else []) = r)) (h1 : Bs W A1 l) (h2 : Bs W A2 m) (h3 : Bs W A3 p) (e1 : n1 = l.length) (e2 : n2 = m.length) (e3 : n3 = p.length) (hl : n1 ≤ 65536) (hm : n2 ≤ 65536) (hp : n3 ≤ 65536) :
    Calls Try.prog 49 #[.slice A1 n1 c1, .slice A2 n2 c2, .slice A3 n3 c3] W (RetIn 5 w r) := by
  rw [← hr.out]; exact rtorn_in hb h1 h2 h3 e1 e2 e3 hl hm hp
end
end Go.Proofs.Ytlnpfndjdilfhaa
