/- The contract of nor.Torn. -/
import Derived.Test.YtlnpfndjdilfhaaNorCan
import Derived.Test.YtlnpfndjdilfhaaClone
namespace Go.Proofs.Ytlnpfndjdilfhaa
open Go.RowKit
set_option linter.unusedVariables false

set_option maxHeartbeats 1600000 in
theorem torn_yes (A1 A2 A3 : Option Addr) (l m p : List UInt8) (c1 c2 c3 : Nat) (w : World) (Hc : Hid (canB l m = true)) (h1 : Bs w A1 l) (h2 : Bs w A2 m) (h3 : Bs w A3 p)
    (hl : l.length ≤ 2147483648) (hm : m.length ≤ 2147483648) (hp : p.length ≤ 2147483648) :
    Calls Try.prog 51 #[.slice A1 l.length c1, .slice A2 m.length c2, .slice A3 p.length c3] w (RetOb 5 w (tornB l m p)) := by
  have Hlen : Hid (l.length = m.length) := Lib.hid (canB_iff.1 Hc.out).1
  go_enter Try.func51, Try.ntmps51
  go_wp2_with fail
  refine (can_is Hc h1 h2 hl).mono ?_
  rintro e w' ⟨rfl, n0, rfl⟩
  go_wp2_with fail
  refine (clone_any A2 m c2 _ (h2.drewN n0) hm).mono ?_
  rintro e w1 ⟨v, rfl, ho, hb0⟩
  have hb : Below w.heap.size w w1 := below_of_drewN hb0
  clear hb0
  obtain ⟨A, c, rfl, -, hfo⟩ := ho.form
  go_upto_region 4 with fail
  go_cut [19, 20] (MinCut m.length p.length w1)
  case first =>
    go_wp2_with fail
    all_goals go_meet
    · exact ⟨p.length, by omega, by omega, .inr (Nat.le_refl _), rfl, rfl, rfl⟩
    · exact ⟨m.length, by omega, by omega, .inl (Nat.le_refl _), rfl, rfl, rfl⟩
  case rest =>
    obtain ⟨K, hKm, hKp, hKe, rfl, rfl, rfl⟩ := hcut
    go_wp2_with fail
    go_loopw [20] (fun i wr => ∃ k : Nat, k ≤ K ∧ i = .int .i64 k ∧ Ob 5 wr w.heap.size (.slice A m.length c) (tornTo l m p k) ∧ Below w.heap.size w wr) (fun i _ => K - (intOf i).toNat)
    case atStart => exact ⟨0, Nat.zero_le _, rfl, by rw [tornTo_zero]; exact ho, hb⟩
    case round =>
      obtain ⟨k, hk, rfl, hown, hbel⟩ := hrel
      by_cases hlt : k < K
      · obtain ⟨b1, o1, e1, hc1⟩ := hown.bs.at_ (k := k) (by rw [tornTo_len]; omega)
        rcases hfo with rfl | ⟨g, rfl, hg, -⟩
        · cases e1
        injection e1 with e1
        injection e1 with e1 e2
        subst e1
        subst e2
        have hkl : k < l.length := by have := Hlen.out; omega
        obtain ⟨b2, o2, rfl, hc2⟩ := (h2.below hbel).at_ (k := k) (by omega)
        obtain ⟨b3, o3, rfl, hc3⟩ := (h3.below hbel).at_ (k := k) (by omega)
        obtain ⟨b4, o4, rfl, hc4⟩ := (h1.below hbel).at_ (k := k) hkl
        have hfr : wr.frozen? ⟨g, k, none⟩ = false := hown.frozen k
        rw [Nat.zero_add, tornTo_at (by omega)] at hc1
        have hst := hown.set_ k (tornByte (l.getD k 0) (m.getD k 0) (p.getD k 0))
        rw [tornTo_step (by omega)] at hst
        have hbst : Below w.heap.size w (wr.setCell ⟨g, k, none⟩ (bval (tornByte (l.getD k 0) (m.getD k 0) (p.getD k 0)))) := hbel.setCell (by simpa using hg) _
        unfold tornByte at hst hbst
        generalize l.getD k 0 = x at *
        generalize m.getD k 0 = y at *
        generalize p.getD k 0 = z at *
        have q1 := u8_andNot' x y
        generalize x &&& ~~~y = u at *
        have q2 := u8_and' u z
        generalize u &&& z = u2 at *
        have q3 := u8_or' y u2
        generalize y ||| u2 = u3 at *
        have Hst := Lib.hid hst
        have Hbst := Lib.hid hbst
        clear hst hbst hown hbel ho hb h1 h2 h3
        go_wp2_with fail
        go_region
        go_wp2_with fail
        go_roundw
        case rel => exact ⟨k + 1, by omega, by go_num, Ob.drewN Hst.out 1, below_drewN' Hbst.out 1⟩
        case measure => simp [intOf]; omega
      · have hkK : k = K := by omega
        have Hown : Hid (Ob 5 wr w.heap.size (.slice A m.length c) (tornB l m p)) := Lib.hid (by rw [← tornTo_end (k := k) (by omega)]; exact hown)
        clear hown
        go_wp2_with fail
        go_ret
        exact ⟨_, rfl, Hown.out, hbel⟩

theorem torn_no (A1 A2 A3 : Option Addr) (l m p : List UInt8) (c1 c2 c3 : Nat) (w : World) (Hc : Hid (canB l m = false)) (h1 : Bs w A1 l) (h2 : Bs w A2 m) (hl : l.length ≤ 2147483648) :
    Calls Try.prog 51 #[.slice A1 l.length c1, .slice A2 m.length c2, .slice A3 p.length c3] w (RetOb 5 w []) := by
  go_enter Try.func51, Try.ntmps51
  go_wp2_with fail
  refine (can_is Hc h1 h2 hl).mono ?_
  rintro e w' ⟨rfl, n, rfl⟩
  go_wp2_with fail
  go_ret
  exact ⟨_, rfl, Ob.nil_ _ _ _, below_drewN' (Below.refl _ _) n⟩

theorem torn_any (A1 A2 A3 : Option Addr) (l m p : List UInt8) (c1 c2 c3 : Nat) (w : World) (h1 : Bs w A1 l) (h2 : Bs w A2 m) (h3 : Bs w A3 p)
    (hl : l.length ≤ 2147483648) (hm : m.length ≤ 2147483648) (hp : p.length ≤ 2147483648) :
    Calls Try.prog 51 #[.slice A1 l.length c1, .slice A2 m.length c2, .slice A3 p.length c3] w (RetOb 5 w (if canB l m then tornB l m p else [])) := by
  by_cases hc : canB l m = true
  · rw [if_pos hc]; exact torn_yes A1 A2 A3 l m p c1 c2 c3 w hc h1 h2 h3 hl hm hp
  · rw [if_neg hc]; exact torn_no A1 A2 A3 l m p c1 c2 c3 w (show canB l m = false by simpa using hc) h1 h2 hl

section
variable {w W : World} {A1 A2 A3 : Option Addr} {l m p : List UInt8} {n1 n2 n3 c1 c2 c3 : Nat}

theorem torn_in (hb : Below w.heap.size w W) (h1 : Bs W A1 l) (h2 : Bs W A2 m) (h3 : Bs W A3 p) (e1 : n1 = l.length) (e2 : n2 = m.length) (e3 : n3 = p.length) (hl : n1 ≤ 65536) (hm : n2 ≤ 65536) (hp : n3 ≤ 65536) :
    Calls Try.prog 51 #[.slice A1 n1 c1, .slice A2 n2 c2, .slice A3 n3 c3] W (RetIn 5 w (if canB l m then tornB l m p else [])) := by
  subst e1
  subst e2
  subst e3
  exact (torn_any A1 A2 A3 l m p c1 c2 c3 W h1 h2 h3 (by omega) (by omega) (by omega)).mono (retIn_of hb)

theorem torn_r {r : List UInt8} (hb : Below w.heap.size w W) (hr : Hid ((if canB l m then tornB l m p else []) = r)) (h1 : Bs W A1 l) (h2 : Bs W A2 m) (h3 : Bs W A3 p) (e1 : n1 = l.length) (e2 : n2 = m.length) (e3 : n3 = p.length) (hl : n1 ≤ 65536) (hm : n2 ≤ 65536) (hp : n3 ≤ 65536) :
    Calls Try.prog 51 #[.slice A1 n1 c1, .slice A2 n2 c2, .slice A3 n3 c3] W (RetIn 5 w r) := by
  rw [← hr.out]; exact torn_in hb h1 h2 h3 e1 e2 e3 hl hm hp
end
end Go.Proofs.Ytlnpfndjdilfhaa
