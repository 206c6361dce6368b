/- The contracts of bootjackref1.Blank, IsBlank, Can, Program, Between, Risen. -/
import Derived.Test.YtlbododoooibbaaRefA
import Derived.Test.YtlbododoooibbaaIn
import Derived.Deep.RegionWith
namespace Go.Proofs.Ytlbododoooibbaa
open Go.RowKit
set_option linter.unusedVariables false

def RBlankCut (w : World) (n : Int) (s3 : Value) (w1 : World) : Prop := ∃ K : Nat, (K : Int) = max 0 (min n 65536) ∧ s3 = .slice (some ⟨w.heap.size, 0, none⟩) K K ∧ w1 = w.alloc (.cells (madeCells #[.int .u8 0] K) 5)

theorem cap_is (n : Int) : ∃ K : Nat, K ≤ 65536 ∧ (K : Int) = max 0 (min n 65536) ∧ (if n < 0 then 0 else if 65536 < n then 65536 else n) = (K : Int) :=
  ⟨(max 0 (min n 65536)).toNat, by omega, by omega, by split <;> (try split) <;> omega⟩

theorem cap_at (n : Int) (K : Nat) (w : World) (h : (if n < 0 then 0 else if 65536 < n then 65536 else n) = (K : Int)) :
    Calls Try.prog 26 #[.int .i64 n, .int .i64 0, .int .i64 65536] w fun e w' => e = .returned (.int .i64 (K : Int)) ∧ w = w' := by
  rw [← h]
  exact (cap_any n 0 65536 w).mono fun e w' ⟨he, hw⟩ => ⟨he, hw.symm⟩

set_option maxHeartbeats 400000 in
theorem rblank_any (n : Int) (w : World) (hn1 : -9223372036854775808 ≤ n) (hn2 : n ≤ 9223372036854775807) :
    Calls Try.prog 11 #[.int .i64 n] w (BlankPost w n) := by
  obtain ⟨K, hK2, hK, hcap⟩ := cap_is n
  have mk : ∀ u : World, (Instr.makeSlice 22 (.int .i64 (K : Int)) (.int .i64 (K : Int))).run Try.prog u = _ := fun u => make_bytes K (by omega) u
  have Hcap := Lib.hid hcap
  have Hpost : Hid (∀ w', Ob 5 w' w.heap.size (.slice (some ⟨w.heap.size, 0, none⟩) K K) (List.replicate K 255) → Below w.heap.size w w' → BlankPost w n (.returned (.slice (some ⟨w.heap.size, 0, none⟩) K K)) w') := Lib.hid (fun w' ho hb => ⟨_, rfl, by
      rw [← hK, Int.toNat_natCast]; exact ho, hb⟩)
  clear hcap hK
  go_enter Try.func11, Try.ntmps11
  go_wp2_with fail
  refine (cap_at n K _ Hcap.out).mono ?_
  rintro e w' ⟨rfl, rfl⟩
  go_wp2_with fail
  go_loopw [4] (fun i wr => ∃ k : Nat, k ≤ K ∧ i = .int .i64 k ∧ Ob 5 wr w.heap.size (.slice (some ⟨w.heap.size, 0, none⟩) K K) (List.replicate k 255 ++ List.replicate (K - k) 0) ∧ Below w.heap.size w wr) (fun i _ => K - (intOf i).toNat)
  case atStart => exact ⟨0, Nat.zero_le _, rfl, own_made w K _ (by omega), (Below.refl _ _).alloc (Nat.le_refl _) _⟩
  case round =>
    obtain ⟨k, hk, rfl, hown, hbel⟩ := hrel
    by_cases hlt : k < K
    · obtain ⟨b1, o1, e1, hc1⟩ := hown.bs.at_ (k := k) (by simp; omega)
      injection e1 with e1
      injection e1 with e1 e2
      subst e1
      subst e2
      have hfr : wr.frozen? ⟨w.heap.size, k, none⟩ = false := hown.frozen k
      rw [Nat.zero_add] at hc1
      have hst := hown.set_ k 255
      rw [replicate_step K k hlt] at hst
      have hbst : Below w.heap.size w (wr.setCell ⟨w.heap.size, k, none⟩ (bval 255)) := hbel.setCell (Nat.le_refl _) _
      have Hst := Lib.hid hst
      have Hbst := Lib.hid hbst
      clear hst hbst
      go_wp2
      go_roundw
      case rel => exact ⟨k + 1, by omega, by go_num, Hst.out, Hbst.out⟩
      case measure => simp [intOf]; omega
    · obtain rfl : k = K := by omega
      have Hown : Hid (Ob 5 wr w.heap.size (.slice (some ⟨w.heap.size, 0, none⟩) k k) (List.replicate k 255)) := Lib.hid (by simpa using hown)
      clear hown
      go_wp2
      go_ret
      exact Hpost.out _ Hown.out hbel

theorem risBlank_any (A : Option Addr) (l : List UInt8) (c : Nat) (w : World) (h : Bs w A l) (hl : l.length ≤ 2147483648) :
    Calls Try.prog 13 #[.slice A l.length c] w fun e w' => e = .returned (.bool (l.all (· == 255))) ∧ w = w' := by
  go_enter Try.func13, Try.ntmps13
  go_wp2
  go_loop [3] (fun i => ∃ k : Nat, k ≤ l.length ∧ i = .int .i64 k ∧ ∀ j, j < k → l.getD j 0 = 255) (fun i => l.length - (intOf i).toNat)
  case atStart => exact ⟨0, Nat.zero_le _, rfl, fun j hj => absurd hj (by omega)⟩
  case round =>
    obtain ⟨k, hk, rfl, hj0⟩ := hrel
    have HJ := Lib.hid hj0
    clear hj0
    by_cases hlt : k < l.length
    · obtain ⟨b1, o1, rfl, hc1⟩ := h.at_ hlt
      obtain ⟨x, hx⟩ : ∃ x, l.getD k 0 = x := ⟨_, rfl⟩
      rw [hx] at hc1
      have Hx := Lib.hid hx
      clear hx
      by_cases hz : x = 255
      · have hb2 : ((x.toNat : Int) != 255) = false := by subst hz; rfl
        have Hz := Lib.hid hz
        clear hz
        go_wp2
        go_round
        case rel =>
          refine ⟨k + 1, by omega, by go_num, fun j hj => ?_⟩
          by_cases e : j = k
          · subst e; rw [Hx.out]; exact Hz.out
          · exact HJ.out j (by omega)
        case measure => simp [intOf]; omega
      · have hb2 : ((x.toNat : Int) != 255) = true := by
          simp
          intro h'
          exact hz (UInt8.toNat_inj.1 (by simpa using (by omega : x.toNat = 255)))
        have Hf : Hid (l.all (· == 255) = false) := Lib.hid (by
          rw [List.all_eq_false]
          exact ⟨l[k], List.getElem_mem hlt, by rw [← Hx.out] at hz; simpa [List.getD, List.getElem?_eq_getElem hlt] using hz⟩)
        clear hz
        go_wp2
        go_ret
        exact ⟨by rw [Hf.out]; rfl, rfl⟩
    · have Hf : Hid (l.all (· == 255) = true) := Lib.hid (by
        rw [List.all_eq_true]
        intro x hx
        obtain ⟨i, hi, rfl⟩ := List.getElem_of_mem hx
        have := HJ.out i (by omega)
        simpa [List.getD, List.getElem?_eq_getElem hi] using this)
      go_wp2
      go_ret
      exact ⟨by rw [Hf.out]; rfl, rfl⟩

theorem bitI_le (x y : UInt8) : (∀ k, k < 8 → bitI y k ≤ bitI x k) ↔ y &&& ~~~x = 0 := by
  constructor
  · intro h
    apply u8_ext
    intro i hi
    have := h i hi
    unfold bitI at this
    simp [hi]
    cases hx : (x.toBitVec).getLsbD i <;> cases hy : (y.toBitVec).getLsbD i <;> simp_all
  · intro h k hk
    have := u8_at h k
    unfold bitI
    simp [hk] at this
    cases hx : (x.toBitVec).getLsbD k <;> cases hy : (y.toBitVec).getLsbD k <;> simp_all

set_option maxHeartbeats 800000 in
theorem rcan_any (A1 A2 : Option Addr) (l m : List UInt8) (c1 c2 : Nat) (w : World) (h1 : Bs w A1 l) (h2 : Bs w A2 m) (hl : l.length ≤ 2147483648) :
    Calls Try.prog 15 #[.slice A1 l.length c1, .slice A2 m.length c2] w fun e w' => e = .returned (.bool (canB l m)) ∧ ∃ n, w' = w.drewN n := by
  by_cases hlen : l.length = m.length
  · have Hlen := Lib.hid hlen
    have hb1 : ((l.length : Int) != (m.length : Int)) = false := by simp [hlen]
    clear hlen
    go_enter Try.func15, Try.ntmps15
    go_wp2
    go_loopw [5] (fun i wr => ∃ k nd : Nat, k ≤ l.length ∧ i = .int .i64 k ∧ wr = w.drewN nd ∧ ∀ j, j < k → m.getD j 0 &&& ~~~(l.getD j 0) = 0) (fun i _ => l.length - (intOf i).toNat)
    case atStart => exact ⟨0, 0, Nat.zero_le _, rfl, rfl, fun j hj => absurd hj (by omega)⟩
    case round =>
      obtain ⟨k, nd, hk, rfl, rfl, hj0⟩ := hrel
      have HJ := Lib.hid hj0
      clear hj0
      by_cases hlt : k < l.length
      · have hlt2 : k < m.length := by rw [← Hlen.out]; exact hlt
        obtain ⟨b1, o1, rfl, hc1⟩ := h1.at_ hlt
        obtain ⟨b2, o2, rfl, hc2⟩ := h2.at_ hlt2
        obtain ⟨x, hx⟩ : ∃ x, l.getD k 0 = x := ⟨_, rfl⟩
        obtain ⟨y, hy⟩ : ∃ y, m.getD k 0 = y := ⟨_, rfl⟩
        rw [hx] at hc1
        rw [hy] at hc2
        have Hx := Lib.hid hx
        have Hy := Lib.hid hy
        clear hx hy
        have hq : ∀ b : UInt8, ∀ q, 0 ≤ bitI b q ∧ bitI b q ≤ 1 := fun b q => by unfold bitI; split <;> decide
        have HQ := Lib.hid hq
        clear hq
        go_wp2
        go_loopw [6] (fun i wr => ∃ q nd2 : Nat, q ≤ 8 ∧ i = .int .i64 q ∧ wr = w.drewN nd2 ∧ ∀ j, j < q → bitI y j ≤ bitI x j) (fun i _ => 8 - (intOf i).toNat)
        case atStart => exact ⟨0, nd, Nat.zero_le _, rfl, rfl, fun j hj => absurd hj (by omega)⟩
        case round =>
          obtain ⟨q, nd2, hq8, rfl, rfl, hb0⟩ := hrel
          have HB := Lib.hid hb0
          clear hb0
          by_cases hq : q < 8
          · obtain ⟨bx, hbx⟩ : ∃ z, bitI x q = z := ⟨_, rfl⟩
            obtain ⟨bY, hby⟩ : ∃ z, bitI y q = z := ⟨_, rfl⟩
            have Cx : Hid (∀ W : World, Calls Try.prog 27 #[.int .u8 (x.toNat : Int), .int .i64 (q : Int)] W fun e w' => e = .returned (.int .i64 bx) ∧ w' = W) := Lib.hid (fun W => hbx ▸ bit_any x q hq W)
            have Cy : Hid (∀ W : World, Calls Try.prog 27 #[.int .u8 (y.toNat : Int), .int .i64 (q : Int)] W fun e w' => e = .returned (.int .i64 bY) ∧ w' = W) := Lib.hid (fun W => hby ▸ bit_any y q hq W)
            have Hbx := Lib.hid hbx
            have Hby := Lib.hid hby
            clear hbx hby
            by_cases hgt : bx < bY
            · have Hf : Hid (canB l m = false) := Lib.hid (canB_false (l := l) (m := m) hlt (by
                rw [Hx.out, Hy.out]
                intro h0
                have := (bitI_le x y).2 h0 q hq
                rw [Hbx.out, Hby.out] at this
                omega))
              go_wp2_with fail
              go_quiet (first | (go_at_call_of 27 (Value.int .u8 (y.toNat : Int)); exact quiet_at Cy.out) | (go_at_call_of 27 (Value.int .u8 (x.toNat : Int)); exact quiet_at Cx.out))
              go_wp2_with fail
              go_ret
              exact ⟨by rw [Hf.out]; rfl, _, World.drewN_drewN _ _ _⟩
            · have hd : decide (bx < bY) = false := by simpa using hgt
              go_wp2_with fail
              go_quiet (first | (go_at_call_of 27 (Value.int .u8 (y.toNat : Int)); exact quiet_at Cy.out) | (go_at_call_of 27 (Value.int .u8 (x.toNat : Int)); exact quiet_at Cx.out))
              go_wp2_with fail
              go_roundw
              case rel =>
                refine ⟨q + 1, _, by omega, by go_num, rfl, fun j hj => ?_⟩
                by_cases e : j = q
                · subst e; rw [Hbx.out, Hby.out]; omega
                · exact HB.out j (by omega)
              case measure => simp [intOf]; omega
          · obtain rfl : q = 8 := by omega
            go_wp2_with fail
            go_roundw
            case rel =>
              refine ⟨k + 1, _, by omega, by go_num, rfl, fun j hj => ?_⟩
              by_cases e : j = k
              · subst e; rw [Hx.out, Hy.out]; exact (bitI_le x y).1 HB.out
              · exact HJ.out j (by omega)
            case measure => simp [intOf]; omega
      · have Hf : Hid (canB l m = true) := Lib.hid (canB_true Hlen.out (fun i hi => HJ.out i (by omega)))
        go_wp2
        go_ret
        exact ⟨by rw [Hf.out]; rfl, _, rfl⟩
  · have Hf : Hid (canB l m = false) := Lib.hid (canB_len hlen)
    have hb1 : ((l.length : Int) != (m.length : Int)) = true := by simp; omega
    go_enter Try.func15, Try.ntmps15
    go_wp2
    go_ret
    exact ⟨by rw [Hf.out]; rfl, 0, rfl⟩
end Go.Proofs.Ytlbododoooibbaa
