/- The contracts of the reference's digit and above. -/
import Derived.Test.YticeabijpihkhaaRefPrimes
import Derived.Test.YticeabijpihkhaaDigits
namespace Go.Proofs.Yticeabijpihkhaa
open Go.RowKit
set_option linter.unusedVariables false
set_option maxRecDepth 100000

set_option maxHeartbeats 1600000 in
theorem rdigit_any (A : Option Addr) (l : List Nat) (c i : Nat) (w : World) (h : Us w A l) (hl : l.length ≤ 2147483648) (hi : i ≤ 2147483648) :
    Calls Try.prog 33 #[.slice A l.length c, .int .i64 (i : Int)] w fun e w' => e = .returned (.int .u64 ((dg l i : Nat) : Int)) ∧ w = w' := by
  by_cases hlt : i < l.length
  · obtain ⟨bb, oo, rfl, hc⟩ := h.at_ hlt
    change w.cell? _ = some (.int .u64 ((dg l i : Nat) : Int)) at hc
    generalize dg l i = x at *
    go_enter Try.func33, Try.ntmps33
    go_wp2
    go_ret
    exact ⟨rfl, rfl⟩
  · rw [dg_over (by omega)]
    go_enter Try.func33, Try.ntmps33
    go_wp2
    go_ret
    exact ⟨rfl, rfl⟩

def NIsW (n : Nat) (w : World) (s : Value) (w' : World) : Prop := s = .int .i64 (n : Int) ∧ w' = w

set_option maxHeartbeats 800000 in
theorem rabove_any (A B : Option Addr) (a b : List Nat) (ca cb : Nat) (w : World) (h : Us w A a) (h' : Us w B b) (hla : a.length ≤ 1000) (hlb : b.length ≤ 1000) (da : Dig a) (db : Dig b) :
    Calls Try.prog 32 #[.slice A a.length ca, .slice B b.length cb] w fun e w' => e = .returned (.bool (decide (vl b < vl a))) ∧ w = w' := by
  obtain ⟨v, hv⟩ : ∃ v, decide (vl b < vl a) = v := ⟨_, rfl⟩
  obtain ⟨N, hN⟩ : ∃ N, max a.length b.length = N := ⟨_, rfl⟩
  rw [hv]
  have HV := Lib.hid hv
  have HN := Lib.hid hN
  have hN2 : N ≤ 1000 := by omega
  have HDA : Hid (∀ i : Nat, i ≤ 1000 → Calls Try.prog 33 #[.slice A a.length ca, .int .i64 (i : Int)] w fun e w' => e = .returned (.int .u64 ((dg a i : Nat) : Int)) ∧ w = w') := Lib.hid (fun i hi => rdigit_any A a ca i w h (by omega) (by omega))
  have HDB : Hid (∀ i : Nat, i ≤ 1000 → Calls Try.prog 33 #[.slice B b.length cb, .int .i64 (i : Int)] w fun e w' => e = .returned (.int .u64 ((dg b i : Nat) : Int)) ∧ w = w') := Lib.hid (fun i hi => rdigit_any B b cb i w h' (by omega) (by omega))
  clear hv hN h h'
  go_enter Try.func32, Try.ntmps32
  go_upto_if 12 with fail
  go_cut [5] (NIsW N w)
  case first =>
    go_wp2_with fail
    all_goals go_meet
    all_goals
      refine ⟨?_, rfl⟩
      have h0 := HN.out
      congr 1
      omega
  case rest =>
    obtain ⟨rfl, rfl⟩ := hcut
    go_wp2_with fail
    go_loop [6] (fun i => ∃ k : Nat, k ≤ N ∧ i = .int .i64 ((k : Int) - 1) ∧ Hid (∀ j, k ≤ j → dg a j = dg b j)) (fun i => (intOf i + 1).toNat)
    case atStart => exact ⟨N, Nat.le_refl _, rfl, Lib.hid (fun j hj => by rw [dg_over (by have := HN.out; omega), dg_over (by have := HN.out; omega)])⟩
    case round =>
      obtain ⟨k, hk, rfl, hq⟩ := hrel
      rcases k with _ | k
      · have hend : Hid (v = false) := Lib.hid (by rw [← HV.out]; exact above_none (n := N) (by have := HN.out; omega) (by have := HN.out; omega) (fun j => hq.out j (Nat.zero_le _)))
        have e0 : ((0 : Nat) : Int) - 1 = -1 := rfl
        rw [e0]
        clear HDA HDB hq e0
        go_wp2
        go_ret
        exact ⟨by rw [hend.out]; rfl, rfl⟩
      · have CA := HDA.out k (by omega)
        have CB := HDB.out k (by omega)
        have e1 : ((k + 1 : Nat) : Int) - 1 = (k : Int) := by omega
        have HCA := Lib.hid CA
        have HCB := Lib.hid CB
        clear CA CB
        rw [e1]
        by_cases hne : dg a k = dg b k
        · have hq' : Hid (∀ j, k ≤ j → dg a j = dg b j) := Lib.hid (fun j hj => by
            by_cases e : j = k
            · subst e; exact hne
            · exact hq.out j (by omega))
          rw [hne] at HCA
          clear hq hne HDA HDB e1
          generalize dg b k = x at *
          go_wp2_with fail
          with_reducible refine HCA.out.mono ?_
          rintro e w' ⟨rfl, rfl⟩
          go_wp2_with fail
          with_reducible refine HCB.out.mono ?_
          rintro e w' ⟨rfl, rfl⟩
          go_wp2_with fail
          go_round
          case rel => exact ⟨k, by omega, by go_num, hq'⟩
          case measure => simp [intOf]
        · have hend : Hid (v = decide (dg b k < dg a k)) := Lib.hid (by rw [← HV.out]; exact above_at (n := N) da db (by have := HN.out; omega) (by have := HN.out; omega) (by omega) (fun j hj => hq.out j (by omega)) hne)
          have hneI : ((dg a k : Nat) : Int) ≠ ((dg b k : Nat) : Int) := by omega
          clear hq HDA HDB e1 hne
          generalize dg b k = x at *
          generalize dg a k = y at *
          go_wp2_with fail
          with_reducible refine HCA.out.mono ?_
          rintro e w' ⟨rfl, rfl⟩
          go_wp2_with fail
          with_reducible refine HCB.out.mono ?_
          rintro e w' ⟨rfl, rfl⟩
          go_wp2_with fail
          with_reducible refine HCA.out.mono ?_
          rintro e w' ⟨rfl, rfl⟩
          go_wp2_with fail
          with_reducible refine HCB.out.mono ?_
          rintro e w' ⟨rfl, rfl⟩
          go_wp2_with fail
          go_ret
          exact ⟨by rw [hend.out]; rfl, rfl⟩
end Go.Proofs.Yticeabijpihkhaa

