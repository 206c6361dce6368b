/- The contract of bootjacklaw4.Few. -/
import Derived.Test.YtcpkmhhlcmnfdaaActs4
import Derived.Test.YtcpkmhhlcmnfdaaGbase
namespace Go.Proofs.Ytcpkmhhlcmnfdaa
open Go.RowKit
set_option linter.unusedVariables false
set_option maxRecDepth 100000

set_option maxHeartbeats 1600000 in
theorem few4_any (w : World) (A0 : Option Addr) (L : List ActE) (c0 : Nat) (h : Acts4 w A0 L) (hL : L.length ≤ 9223372036854775807) :
    Calls Try.prog 10 #[.slice A0 L.length c0] w fun e w' => e = .returned (.bool (fewE L)) ∧ w = w' := by
  by_cases h30 : L.length ≤ 30
  · go_enter Try.func10, Try.ntmps10
    go_wp2
    go_loop [3] (fun i => ∃ k : Nat, k ≤ L.length ∧ i = .int .i64 k ∧ Hid (∀ j (hj : j < L.length), j < k → L[j].b.length ≤ 1100)) (fun i => L.length - (intOf i).toNat)
    case atStart => exact ⟨0, Nat.zero_le _, rfl, fun j _ hj => absurd hj (by omega)⟩
    case round =>
      obtain ⟨k, hk, rfl, Hk⟩ := hrel
      by_cases hlt : k < L.length
      · obtain ⟨g, o, rfl, ha⟩ := h (by omega)
        have hs := (ha k hlt).s
        have hm := (ha k hlt).m
        have hc := (ha k hlt).c
        obtain ⟨a, Ha⟩ : ∃ a, Hid (L[k] = a) := ⟨L[k], Lib.hid rfl⟩
        rw [Ha.out] at hs hm hc
        obtain ⟨z, Hz⟩ : ∃ z : Nat, Hid (a.b.length = z) := ⟨_, rfl⟩
        rw [Hz.out] at hs hc
        have HA := Lib.hid ha
        clear ha
        by_cases hz : z ≤ 1100
        · go_wp2
          go_round
          case rel => exact ⟨k + 1, by omega, by go_num, Lib.hid (fun j hj hjk => by
            by_cases e : j = k
            · subst e; rw [Ha.out, Hz.out]; exact hz
            · exact Hk.out j hj (by omega))⟩
          case measure => simp [intOf]; omega
        · have hz2 : ¬ (z : Int) ≤ 1100 := by omega
          have HF : Hid (fewE L = false) := Lib.hid (by
            unfold fewE
            rw [Bool.and_eq_false_iff]
            right
            rw [List.all_eq_false]
            exact ⟨L[k], List.getElem_mem hlt, by rw [Ha.out, Hz.out]; simpa using hz⟩)
          go_wp2
          go_ret
          rw [HF.out]
          exact ⟨rfl, rfl⟩
      · have HF : Hid (fewE L = true) := Lib.hid (by
          unfold fewE
          rw [Bool.and_eq_true, List.all_eq_true]
          refine ⟨decide_eq_true h30, fun a ha => ?_⟩
          obtain ⟨j, hj, rfl⟩ := List.getElem_of_mem ha
          exact decide_eq_true (Hk.out j hj (by omega)))
        go_wp2
        go_ret
        rw [HF.out]
        exact ⟨rfl, rfl⟩
  · have h2 : ¬ (L.length : Int) ≤ 30 := by omega
    have HF : Hid (fewE L = false) := Lib.hid (by unfold fewE; rw [decide_eq_false h30]; rfl)
    go_enter Try.func10, Try.ntmps10
    go_wp2
    go_ret
    rw [HF.out]
    exact ⟨rfl, rfl⟩

end Go.Proofs.Ytcpkmhhlcmnfdaa

