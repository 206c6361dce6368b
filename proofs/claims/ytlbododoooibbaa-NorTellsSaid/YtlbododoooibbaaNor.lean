/- The contracts of nor.Program, nor.Between, nor.Risen, nor.Torn, nor.Half. -/
import Derived.Test.YtlbododoooibbaaBlank
import Derived.BigRegion
import Derived.RegionTactic
namespace Go.Proofs.Ytlbododoooibbaa
open Go.RowKit
set_option linter.unusedVariables false

/-- the call returns a new slice that reads as l -/
def RetOb (E : TypeId) (w : World) (l : List UInt8) (e : Ending) (w' : World) : Prop := ∃ v, e = .returned v ∧ Ob E w' w.heap.size v l ∧ Below w.heap.size w w'
/-- the call returns b and only reads -/
def RetB (w : World) (b : Bool) (e : Ending) (w' : World) : Prop := e = .returned (.bool b) ∧ ∃ n, w' = w.drewN n

set_option maxHeartbeats 400000 in
theorem program_yes (A1 A2 : Option Addr) (l m : List UInt8) (c1 c2 : Nat) (w : World) (Hc : Hid (canB l m = true)) (h1 : Bs w A1 l) (h2 : Bs w A2 m) (hl : l.length ≤ 2147483648) (hm : m.length ≤ 2147483648) :
    Calls Try.prog 16 #[.slice A1 l.length c1, .slice A2 m.length c2] w (RetOb 5 w m) := by
  go_enter Try.func16, Try.ntmps16
  go_wp2_with fail
  refine (can_is Hc h1 h2 hl).mono ?_
  rintro e w' ⟨rfl, n, rfl⟩
  go_wp2_with fail
  refine (clone_any A2 m c2 _ (h2.drewN n) hm).mono ?_
  rintro e w' ⟨v, rfl, ho, hb⟩
  go_wp2_with fail
  go_ret
  exact ⟨_, rfl, ho, below_of_drewN hb⟩

theorem program_no (A1 A2 : Option Addr) (l m : List UInt8) (c1 c2 : Nat) (w : World) (Hc : Hid (canB l m = false)) (h1 : Bs w A1 l) (h2 : Bs w A2 m) (hl : l.length ≤ 2147483648) :
    Calls Try.prog 16 #[.slice A1 l.length c1, .slice A2 m.length c2] w (RetOb 5 w []) := by
  go_enter Try.func16, Try.ntmps16
  go_wp2_with fail
  refine (can_is Hc h1 h2 hl).mono ?_
  rintro e w' ⟨rfl, n, rfl⟩
  go_wp2_with fail
  go_ret
  exact ⟨_, rfl, Ob.nil_ _ _ _, below_drewN' (Below.refl _ _) n⟩

theorem program_any (A1 A2 : Option Addr) (l m : List UInt8) (c1 c2 : Nat) (w : World) (h1 : Bs w A1 l) (h2 : Bs w A2 m) (hl : l.length ≤ 2147483648) (hm : m.length ≤ 2147483648) :
    Calls Try.prog 16 #[.slice A1 l.length c1, .slice A2 m.length c2] w (RetOb 5 w (if canB l m then m else [])) := by
  by_cases hc : canB l m = true
  · rw [if_pos hc]; exact program_yes A1 A2 l m c1 c2 w hc h1 h2 hl hm
  · rw [if_neg hc]; exact program_no A1 A2 l m c1 c2 w (show canB l m = false by simpa using hc) h1 h2 hl

set_option maxHeartbeats 400000 in
theorem between_any (A1 A2 A3 : Option Addr) (l m s : List UInt8) (c1 c2 c3 : Nat) (w : World) (h1 : Bs w A1 l) (h2 : Bs w A2 m) (h3 : Bs w A3 s) (hl : l.length ≤ 2147483648) (hs : s.length ≤ 2147483648) :
    Calls Try.prog 20 #[.slice A1 l.length c1, .slice A2 m.length c2, .slice A3 s.length c3] w (RetB w (canB l s && canB s m)) := by
  obtain ⟨b, hb⟩ : ∃ b, canB l s = b := ⟨_, rfl⟩
  obtain ⟨b2, hb2⟩ : ∃ b, canB s m = b := ⟨_, rfl⟩
  rw [hb, hb2]
  have Hc := Lib.hid hb
  have Hc2 := Lib.hid hb2
  clear hb hb2
  have Hpost : Hid (∀ n, RetB w (b && b2) (.returned (.bool (b && b2))) (w.drewN n)) := Lib.hid (fun n => ⟨rfl, n, rfl⟩)
  cases b
  · go_enter Try.func20, Try.ntmps20
    go_wp2_with fail
    refine (can_is Hc h1 h3 hl).mono ?_
    rintro e w' ⟨rfl, n, rfl⟩
    go_wp2_with fail
    go_ret
    exact Hpost.out _
  · go_enter Try.func20, Try.ntmps20
    go_wp2_with fail
    refine (can_is Hc h1 h3 hl).mono ?_
    rintro e w' ⟨rfl, n, rfl⟩
    go_wp2_with fail
    refine (can_is Hc2 (h3.drewN n) (h2.drewN n) hs).mono ?_
    rintro e w' ⟨rfl, n2, rfl⟩
    go_wp2_with fail
    go_ret
    exact Hpost.out _

set_option maxHeartbeats 400000 in
theorem risen_any (A1 A2 : Option Addr) (l m : List UInt8) (c1 c2 : Nat) (w : World) (h1 : Bs w A1 l) (h2 : Bs w A2 m) (hl : m.length ≤ 2147483648) :
    Calls Try.prog 24 #[.slice A1 l.length c1, .slice A2 m.length c2] w (RetB w (canB m l)) := by
  go_enter Try.func24, Try.ntmps24
  go_wp2_with fail
  refine (can_any A2 A1 m l c2 c1 _ h2 h1 hl).mono ?_
  rintro e w' ⟨rfl, n, rfl⟩
  go_wp2_with fail
  go_ret
  exact ⟨rfl, n, rfl⟩

def MinCut (x y : Nat) (w1 : World) (s13 s14 : Value) (wx : World) : Prop := ∃ K : Nat, K ≤ x ∧ K ≤ y ∧ (x ≤ K ∨ y ≤ K) ∧ s13 = .int .i64 (K : Int) ∧ s14 = .int .i64 0 ∧ wx = w1

set_option maxHeartbeats 800000 in
theorem half_any (A1 A2 : Option Addr) (l m : List UInt8) (c1 c2 : Nat) (w : World) (h1 : Bs w A1 l) (h2 : Bs w A2 m) (hl : l.length ≤ 2147483648) (hm : m.length ≤ 2147483648) :
    Calls Try.prog 22 #[.slice A1 l.length c1, .slice A2 m.length c2] w (RetOb 5 w (halfB l m)) := by
  go_enter Try.func22, Try.ntmps22
  go_wp2_with fail
  refine (clone_any A1 l c1 _ h1 hl).mono ?_
  rintro e w1 ⟨v, rfl, ho, hb⟩
  obtain ⟨A, c, rfl, -, hfo⟩ := ho.form
  go_upto_region 2 with fail
  go_cut [13, 14] (MinCut l.length m.length w1)
  case first =>
    go_wp2_with fail
    all_goals go_meet
    · exact ⟨m.length, by omega, by omega, .inr (Nat.le_refl _), rfl, rfl, rfl⟩
    · exact ⟨l.length, by omega, by omega, .inl (Nat.le_refl _), rfl, rfl, rfl⟩
  case rest =>
    obtain ⟨K, hKl, hKm, hKe, rfl, rfl, rfl⟩ := hcut
    go_wp2_with fail
    go_loopw [14] (fun i wr => ∃ k : Nat, k ≤ K ∧ i = .int .i64 k ∧ Ob 5 wr w.heap.size (.slice A l.length c) (halfTo l m k) ∧ Below w.heap.size w wr) (fun i _ => K - (intOf i).toNat)
    case atStart => exact ⟨0, Nat.zero_le _, rfl, by rw [halfTo_zero]; exact ho, hb⟩
    case round =>
      obtain ⟨k, hk, rfl, hown, hbel⟩ := hrel
      by_cases hlt : k < K
      · obtain ⟨b1, o1, e1, hc1⟩ := hown.bs.at_ (k := k) (by rw [halfTo_len]; omega)
        rcases hfo with rfl | ⟨g, rfl, hg, -⟩
        · cases e1
        injection e1 with e1
        injection e1 with e1 e2
        subst e1
        subst e2
        obtain ⟨b2, o2, rfl, hc2⟩ := (h2.below hbel).at_ (k := k) (by omega)
        have hfr : wr.frozen? ⟨g, k, none⟩ = false := hown.frozen k
        rw [Nat.zero_add, halfTo_at (by omega)] at hc1
        have hst := hown.set_ k (l.getD k 0 ||| m.getD k 0)
        rw [halfTo_step (by omega)] at hst
        have hbst : Below w.heap.size w (wr.setCell ⟨g, k, none⟩ (bval (l.getD k 0 ||| m.getD k 0))) := hbel.setCell (by simpa using hg) _
        have hor := u8_or' (l.getD k 0) (m.getD k 0)
        generalize l.getD k 0 ||| m.getD k 0 = z at *
        generalize l.getD k 0 = x at *
        generalize m.getD k 0 = y at *
        have Hst := Lib.hid hst
        have Hbst := Lib.hid hbst
        clear hst hbst hown hbel ho hb h1 h2
        go_wp2_with fail
        go_region
        go_wp2_with fail
        go_roundw
        case rel => exact ⟨k + 1, by omega, by go_num, Ob.drewN Hst.out 1, below_drewN' Hbst.out 1⟩
        case measure => simp [intOf]; omega
      · have hkK : k = K := by omega
        have Hown : Hid (Ob 5 wr w.heap.size (.slice A l.length c) (halfB l m)) := Lib.hid (by rw [← halfTo_end (k := k) (by omega)]; exact hown)
        clear hown
        go_wp2_with fail
        go_ret
        exact ⟨_, rfl, Hown.out, hbel⟩

set_option maxHeartbeats 1600000 in
theorem torn_yes (A1 A2 A3 : Option Addr) (l m p : List UInt8) (c1 c2 c3 : Nat) (w : World) (Hc : Hid (canB l m = true)) (h1 : Bs w A1 l) (h2 : Bs w A2 m) (h3 : Bs w A3 p)
    (hl : l.length ≤ 2147483648) (hm : m.length ≤ 2147483648) (hp : p.length ≤ 2147483648) :
    Calls Try.prog 18 #[.slice A1 l.length c1, .slice A2 m.length c2, .slice A3 p.length c3] w (RetOb 5 w (tornB l m p)) := by
  have Hlen : Hid (l.length = m.length) := Lib.hid (canB_iff.1 Hc.out).1
  go_enter Try.func18, Try.ntmps18
  go_wp2_with fail
  refine (can_is Hc h1 h2 hl).mono ?_
  rintro e w' ⟨rfl, n0, rfl⟩
  go_wp2_with fail
  refine (clone_any A2 m c2 _ (h2.drewN n0) hm).mono ?_
  rintro e w1 ⟨v, rfl, ho, hb0⟩
  have hb : Below w.heap.size w w1 := below_of_drewN hb0
  clear hb0
  obtain ⟨A, c, rfl, -, hfo⟩ := ho.form
  go_upto_region 4 with fail
  go_cut [19, 20] (MinCut m.length p.length w1)
  case first =>
    go_wp2_with fail
    all_goals go_meet
    · exact ⟨p.length, by omega, by omega, .inr (Nat.le_refl _), rfl, rfl, rfl⟩
    · exact ⟨m.length, by omega, by omega, .inl (Nat.le_refl _), rfl, rfl, rfl⟩
  case rest =>
    obtain ⟨K, hKm, hKp, hKe, rfl, rfl, rfl⟩ := hcut
    go_wp2_with fail
    go_loopw [20] (fun i wr => ∃ k : Nat, k ≤ K ∧ i = .int .i64 k ∧ Ob 5 wr w.heap.size (.slice A m.length c) (tornTo l m p k) ∧ Below w.heap.size w wr) (fun i _ => K - (intOf i).toNat)
    case atStart => exact ⟨0, Nat.zero_le _, rfl, by rw [tornTo_zero]; exact ho, hb⟩
    case round =>
      obtain ⟨k, hk, rfl, hown, hbel⟩ := hrel
      by_cases hlt : k < K
      · obtain ⟨b1, o1, e1, hc1⟩ := hown.bs.at_ (k := k) (by rw [tornTo_len]; omega)
        rcases hfo with rfl | ⟨g, rfl, hg, -⟩
        · cases e1
        injection e1 with e1
        injection e1 with e1 e2
        subst e1
        subst e2
        have hkl : k < l.length := by have := Hlen.out; omega
        obtain ⟨b2, o2, rfl, hc2⟩ := (h2.below hbel).at_ (k := k) (by omega)
        obtain ⟨b3, o3, rfl, hc3⟩ := (h3.below hbel).at_ (k := k) (by omega)
        obtain ⟨b4, o4, rfl, hc4⟩ := (h1.below hbel).at_ (k := k) hkl
        have hfr : wr.frozen? ⟨g, k, none⟩ = false := hown.frozen k
        rw [Nat.zero_add, tornTo_at (by omega)] at hc1
        have hst := hown.set_ k (tornByte (l.getD k 0) (m.getD k 0) (p.getD k 0))
        rw [tornTo_step (by omega)] at hst
        have hbst : Below w.heap.size w (wr.setCell ⟨g, k, none⟩ (bval (tornByte (l.getD k 0) (m.getD k 0) (p.getD k 0)))) := hbel.setCell (by simpa using hg) _
        unfold tornByte at hst hbst
        generalize l.getD k 0 = x at *
        generalize m.getD k 0 = y at *
        generalize p.getD k 0 = z at *
        have q1 := u8_andNot' x y
        generalize x &&& ~~~y = u at *
        have q2 := u8_and' u z
        generalize u &&& z = u2 at *
        have q3 := u8_or' y u2
        generalize y ||| u2 = u3 at *
        have Hst := Lib.hid hst
        have Hbst := Lib.hid hbst
        clear hst hbst hown hbel ho hb h1 h2 h3
        go_wp2_with fail
        go_region
        go_wp2_with fail
        go_roundw
        case rel => exact ⟨k + 1, by omega, by go_num, Ob.drewN Hst.out 1, below_drewN' Hbst.out 1⟩
        case measure => simp [intOf]; omega
      · have hkK : k = K := by omega
        have Hown : Hid (Ob 5 wr w.heap.size (.slice A m.length c) (tornB l m p)) := Lib.hid (by rw [← tornTo_end (k := k) (by omega)]; exact hown)
        clear hown
        go_wp2_with fail
        go_ret
        exact ⟨_, rfl, Hown.out, hbel⟩

theorem torn_no (A1 A2 A3 : Option Addr) (l m p : List UInt8) (c1 c2 c3 : Nat) (w : World) (Hc : Hid (canB l m = false)) (h1 : Bs w A1 l) (h2 : Bs w A2 m) (hl : l.length ≤ 2147483648) :
    Calls Try.prog 18 #[.slice A1 l.length c1, .slice A2 m.length c2, .slice A3 p.length c3] w (RetOb 5 w []) := by
  go_enter Try.func18, Try.ntmps18
  go_wp2_with fail
  refine (can_is Hc h1 h2 hl).mono ?_
  rintro e w' ⟨rfl, n, rfl⟩
  go_wp2_with fail
  go_ret
  exact ⟨_, rfl, Ob.nil_ _ _ _, below_drewN' (Below.refl _ _) n⟩

theorem torn_any (A1 A2 A3 : Option Addr) (l m p : List UInt8) (c1 c2 c3 : Nat) (w : World) (h1 : Bs w A1 l) (h2 : Bs w A2 m) (h3 : Bs w A3 p)
    (hl : l.length ≤ 2147483648) (hm : m.length ≤ 2147483648) (hp : p.length ≤ 2147483648) :
    Calls Try.prog 18 #[.slice A1 l.length c1, .slice A2 m.length c2, .slice A3 p.length c3] w (RetOb 5 w (if canB l m then tornB l m p else [])) := by
  by_cases hc : canB l m = true
  · rw [if_pos hc]; exact torn_yes A1 A2 A3 l m p c1 c2 c3 w hc h1 h2 h3 hl hm hp
  · rw [if_neg hc]; exact torn_no A1 A2 A3 l m p c1 c2 c3 w (show canB l m = false by simpa using hc) h1 h2 hl
end Go.Proofs.Ytlbododoooibbaa
