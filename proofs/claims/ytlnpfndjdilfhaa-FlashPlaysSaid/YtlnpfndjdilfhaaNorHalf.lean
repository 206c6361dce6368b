/- The contract of nor.Half. -/
import Derived.Test.YtlnpfndjdilfhaaClone
namespace Go.Proofs.Ytlnpfndjdilfhaa
open Go.RowKit
set_option linter.unusedVariables false

set_option maxHeartbeats 800000 in
theorem half_any (A1 A2 : Option Addr) (l m : List UInt8) (c1 c2 : Nat) (w : World) (h1 : Bs w A1 l) (h2 : Bs w A2 m) (hl : l.length ≤ 2147483648) (hm : m.length ≤ 2147483648) :
    Calls Try.prog 42 #[.slice A1 l.length c1, .slice A2 m.length c2] w (RetOb 5 w (halfB l m)) := by
  go_enter Try.func42, Try.ntmps42
  go_wp2_with fail
  refine (clone_any A1 l c1 _ h1 hl).mono ?_
  rintro e w1 ⟨v, rfl, ho, hb⟩
  obtain ⟨A, c, rfl, -, hfo⟩ := ho.form
  go_upto_region 2 with fail
  go_cut [13, 14] (MinCut l.length m.length w1)
  case first =>
    go_wp2_with fail
    all_goals go_meet
    · exact ⟨m.length, by omega, by omega, .inr (Nat.le_refl _), rfl, rfl, rfl⟩
    · exact ⟨l.length, by omega, by omega, .inl (Nat.le_refl _), rfl, rfl, rfl⟩
  case rest =>
    obtain ⟨K, hKl, hKm, hKe, rfl, rfl, rfl⟩ := hcut
    go_wp2_with fail
    go_loopw [14] (fun i wr => ∃ k : Nat, k ≤ K ∧ i = .int .i64 k ∧ Ob 5 wr w.heap.size (.slice A l.length c) (halfTo l m k) ∧ Below w.heap.size w wr) (fun i _ => K - (intOf i).toNat)
    case atStart => exact ⟨0, Nat.zero_le _, rfl, by rw [halfTo_zero]; exact ho, hb⟩
    case round =>
      obtain ⟨k, hk, rfl, hown, hbel⟩ := hrel
      by_cases hlt : k < K
      · obtain ⟨b1, o1, e1, hc1⟩ := hown.bs.at_ (k := k) (by rw [halfTo_len]; omega)
        rcases hfo with rfl | ⟨g, rfl, hg, -⟩
        · cases e1
        injection e1 with e1
        injection e1 with e1 e2
        subst e1
        subst e2
        obtain ⟨b2, o2, rfl, hc2⟩ := (h2.below hbel).at_ (k := k) (by omega)
        have hfr : wr.frozen? ⟨g, k, none⟩ = false := hown.frozen k
        rw [Nat.zero_add, halfTo_at (by omega)] at hc1
        have hst := hown.set_ k (l.getD k 0 ||| m.getD k 0)
        rw [halfTo_step (by omega)] at hst
        have hbst : Below w.heap.size w (wr.setCell ⟨g, k, none⟩ (bval (l.getD k 0 ||| m.getD k 0))) := hbel.setCell (by simpa using hg) _
        have hor := u8_or' (l.getD k 0) (m.getD k 0)
        generalize l.getD k 0 ||| m.getD k 0 = z at *
        generalize l.getD k 0 = x at *
        generalize m.getD k 0 = y at *
        have Hst := Lib.hid hst
        have Hbst := Lib.hid hbst
        clear hst hbst hown hbel ho hb h1 h2
        go_wp2_with fail
        go_region
        go_wp2_with fail
        go_roundw
        case rel => exact ⟨k + 1, by omega, by go_num, Ob.drewN Hst.out 1, below_drewN' Hbst.out 1⟩
        case measure => simp [intOf]; omega
      · have hkK : k = K := by omega
        have Hown : Hid (Ob 5 wr w.heap.size (.slice A l.length c) (halfB l m)) := Lib.hid (by rw [← halfTo_end (k := k) (by omega)]; exact hown)
        clear hown
        go_wp2_with fail
        go_ret
        exact ⟨_, rfl, Hown.out, hbel⟩

section
variable {w W : World} {A1 A2 A3 : Option Addr} {l m p : List UInt8} {n1 n2 n3 c1 c2 c3 : Nat}

theorem half_in (hb : Below w.heap.size w W) (h1 : Bs W A1 l) (h2 : Bs W A2 m) (e1 : n1 = l.length) (e2 : n2 = m.length) (hl : n1 ≤ 65536) (hm : n2 ≤ 65536) :
    Calls Try.prog 42 #[.slice A1 n1 c1, .slice A2 n2 c2] W (RetIn 5 w (halfB l m)) := by
  subst e1
  subst e2
  exact (half_any A1 A2 l m c1 c2 W h1 h2 (by omega) (by omega)).mono (retIn_of hb)
end
end Go.Proofs.Ytlnpfndjdilfhaa
