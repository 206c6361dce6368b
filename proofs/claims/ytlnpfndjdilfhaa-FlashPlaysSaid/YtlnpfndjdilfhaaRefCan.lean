/- The contract of bootjackref1.Can. -/
import Derived.Test.YtlnpfndjdilfhaaRefBit
namespace Go.Proofs.Ytlnpfndjdilfhaa
open Go.RowKit
set_option linter.unusedVariables false

set_option maxHeartbeats 800000 in
theorem rcan_any (A1 A2 : Option Addr) (l m : List UInt8) (c1 c2 : Nat) (w : World) (h1 : Bs w A1 l) (h2 : Bs w A2 m) (hl : l.length ≤ 2147483648) :
    Calls Try.prog 46 #[.slice A1 l.length c1, .slice A2 m.length c2] w fun e w' => e = .returned (.bool (canB l m)) ∧ ∃ n, w' = w.drewN n := by
  by_cases hlen : l.length = m.length
  · have Hlen := Lib.hid hlen
    have hb1 : ((l.length : Int) != (m.length : Int)) = false := by simp [hlen]
    clear hlen
    go_enter Try.func46, Try.ntmps46
    go_wp2
    go_loopw [5] (fun i wr => ∃ k nd : Nat, k ≤ l.length ∧ i = .int .i64 k ∧ wr = w.drewN nd ∧ ∀ j, j < k → m.getD j 0 &&& ~~~(l.getD j 0) = 0) (fun i _ => l.length - (intOf i).toNat)
    case atStart => exact ⟨0, 0, Nat.zero_le _, rfl, rfl, fun j hj => absurd hj (by omega)⟩
    case round =>
      obtain ⟨k, nd, hk, rfl, rfl, hj0⟩ := hrel
      have HJ := Lib.hid hj0
      clear hj0
      by_cases hlt : k < l.length
      · have hlt2 : k < m.length := by rw [← Hlen.out]; exact hlt
        obtain ⟨b1, o1, rfl, hc1⟩ := h1.at_ hlt
        obtain ⟨b2, o2, rfl, hc2⟩ := h2.at_ hlt2
        obtain ⟨x, hx⟩ : ∃ x, l.getD k 0 = x := ⟨_, rfl⟩
        obtain ⟨y, hy⟩ : ∃ y, m.getD k 0 = y := ⟨_, rfl⟩
        rw [hx] at hc1
        rw [hy] at hc2
        have Hx := Lib.hid hx
        have Hy := Lib.hid hy
        clear hx hy
        have hq : ∀ b : UInt8, ∀ q, 0 ≤ bitI b q ∧ bitI b q ≤ 1 := fun b q => by unfold bitI; split <;> decide
        have HQ := Lib.hid hq
        clear hq
        go_wp2
        go_loopw [6] (fun i wr => ∃ q nd2 : Nat, q ≤ 8 ∧ i = .int .i64 q ∧ wr = w.drewN nd2 ∧ ∀ j, j < q → bitI y j ≤ bitI x j) (fun i _ => 8 - (intOf i).toNat)
        case atStart => exact ⟨0, nd, Nat.zero_le _, rfl, rfl, fun j hj => absurd hj (by omega)⟩
        case round =>
          obtain ⟨q, nd2, hq8, rfl, rfl, hb0⟩ := hrel
          have HB := Lib.hid hb0
          clear hb0
          by_cases hq : q < 8
          · obtain ⟨bx, hbx⟩ : ∃ z, bitI x q = z := ⟨_, rfl⟩
            obtain ⟨bY, hby⟩ : ∃ z, bitI y q = z := ⟨_, rfl⟩
            have Cx : Hid (∀ W : World, Calls Try.prog 53 #[.int .u8 (x.toNat : Int), .int .i64 (q : Int)] W fun e w' => e = .returned (.int .i64 bx) ∧ w' = W) := Lib.hid (fun W => hbx ▸ bit_any x q hq W)
            have Cy : Hid (∀ W : World, Calls Try.prog 53 #[.int .u8 (y.toNat : Int), .int .i64 (q : Int)] W fun e w' => e = .returned (.int .i64 bY) ∧ w' = W) := Lib.hid (fun W => hby ▸ bit_any y q hq W)
            have Hbx := Lib.hid hbx
            have Hby := Lib.hid hby
            clear hbx hby
            by_cases hgt : bx < bY
            · have Hf : Hid (canB l m = false) := Lib.hid (canB_false (l := l) (m := m) hlt (by
                rw [Hx.out, Hy.out]
                intro h0
                have := (bitI_le x y).2 h0 q hq
                rw [Hbx.out, Hby.out] at this
                omega))
              go_wp2_with fail
              go_quiet (first | (go_at_call_of 53 (Value.int .u8 (y.toNat : Int)); exact quiet_at Cy.out) | (go_at_call_of 53 (Value.int .u8 (x.toNat : Int)); exact quiet_at Cx.out))
              go_wp2_with fail
              go_ret
              exact ⟨by rw [Hf.out]; rfl, _, World.drewN_drewN _ _ _⟩
            · have hd : decide (bx < bY) = false := by simpa using hgt
              go_wp2_with fail
              go_quiet (first | (go_at_call_of 53 (Value.int .u8 (y.toNat : Int)); exact quiet_at Cy.out) | (go_at_call_of 53 (Value.int .u8 (x.toNat : Int)); exact quiet_at Cx.out))
              go_wp2_with fail
              go_roundw
              case rel =>
                refine ⟨q + 1, _, by omega, by go_num, rfl, fun j hj => ?_⟩
                by_cases e : j = q
                · subst e; rw [Hbx.out, Hby.out]; omega
                · exact HB.out j (by omega)
              case measure => simp [intOf]; omega
          · obtain rfl : q = 8 := by omega
            go_wp2_with fail
            go_roundw
            case rel =>
              refine ⟨k + 1, _, by omega, by go_num, rfl, fun j hj => ?_⟩
              by_cases e : j = k
              · subst e; rw [Hx.out, Hy.out]; exact (bitI_le x y).1 HB.out
              · exact HJ.out j (by omega)
            case measure => simp [intOf]; omega
      · have Hf : Hid (canB l m = true) := Lib.hid (canB_true Hlen.out (fun i hi => HJ.out i (by omega)))
        go_wp2
        go_ret
        exact ⟨by rw [Hf.out]; rfl, _, rfl⟩
  · have Hf : Hid (canB l m = false) := Lib.hid (canB_len hlen)
    have hb1 : ((l.length : Int) != (m.length : Int)) = true := by simp; omega
    go_enter Try.func46, Try.ntmps46
    go_wp2
    go_ret
    exact ⟨by rw [Hf.out]; rfl, 0, rfl⟩

theorem rcan_is {A1 A2 : Option Addr} {l m : List UInt8} {c1 c2 : Nat} {w : World} {b : Bool} (hb : Hid (canB l m = b)) (h1 : Bs w A1 l) (h2 : Bs w A2 m) (hl : l.length ≤ 2147483648) :
    Calls Try.prog 46 #[.slice A1 l.length c1, .slice A2 m.length c2] w fun e w' => e = .returned (.bool b) ∧ ∃ n, w' = w.drewN n :=
  (rcan_any A1 A2 l m c1 c2 w h1 h2 hl).mono fun _ _ ⟨he, hw⟩ => ⟨by rw [he, hb.out], hw⟩

section
variable {w W : World} {A1 A2 A3 : Option Addr} {l m p : List UInt8} {n1 n2 n3 c1 c2 c3 : Nat}

theorem rcan_in {b : Bool} (hb : Below w.heap.size w W) (H : Hid (canB l m = b)) (h1 : Bs W A1 l) (h2 : Bs W A2 m) (e1 : n1 = l.length) (e2 : n2 = m.length) (hl : n1 ≤ 65536) :
    Calls Try.prog 46 #[.slice A1 n1 c1, .slice A2 n2 c2] W (BoolIn w b) := by
  subst e1
  subst e2
  exact (rcan_is H h1 h2 (by omega)).mono fun e w' ⟨he, n, hw⟩ => boolIn_of hb e w' ⟨he, n, hw⟩
end
end Go.Proofs.Ytlnpfndjdilfhaa
