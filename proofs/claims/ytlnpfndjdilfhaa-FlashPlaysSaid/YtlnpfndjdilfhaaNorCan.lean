/- The contract of nor.Can. -/
import Derived.Test.YtlnpfndjdilfhaaWords
namespace Go.Proofs.Ytlnpfndjdilfhaa
open Go.RowKit
set_option linter.unusedVariables false

set_option maxHeartbeats 400000 in
theorem can_any (A1 A2 : Option Addr) (l m : List UInt8) (c1 c2 : Nat) (w : World) (h1 : Bs w A1 l) (h2 : Bs w A2 m) (hl : l.length ≤ 2147483648) :
    Calls Try.prog 43 #[.slice A1 l.length c1, .slice A2 m.length c2] w fun e w' => e = .returned (.bool (canB l m)) ∧ ∃ n, w' = w.drewN n := by
  by_cases hlen : l.length = m.length
  · have Hlen := Lib.hid hlen
    have hb1 : ((l.length : Int) != (m.length : Int)) = false := by simp [hlen]
    clear hlen
    go_enter Try.func43, Try.ntmps43
    go_wp2
    go_loopw [13] (fun i wr => ∃ k nd : Nat, k ≤ l.length ∧ i = .int .i64 k ∧ wr = w.drewN nd ∧ ∀ j, j < k → m.getD j 0 &&& ~~~(l.getD j 0) = 0) (fun i _ => l.length - (intOf i).toNat)
    case atStart => exact ⟨0, 0, Nat.zero_le _, rfl, rfl, fun j hj => absurd hj (by omega)⟩
    case round =>
      obtain ⟨k, nd, hk, rfl, rfl, hj0⟩ := hrel
      have HJ := Lib.hid hj0
      clear hj0
      by_cases hlt : k < l.length
      · have hlt2 : k < m.length := by rw [← Hlen.out]; exact hlt
        obtain ⟨b1, o1, rfl, hc1⟩ := h1.at_ hlt
        obtain ⟨b2, o2, rfl, hc2⟩ := h2.at_ hlt2
        obtain ⟨x, hx⟩ : ∃ x, l.getD k 0 = x := ⟨_, rfl⟩
        obtain ⟨y, hy⟩ : ∃ y, m.getD k 0 = y := ⟨_, rfl⟩
        rw [hx] at hc1
        rw [hy] at hc2
        have hand := u8_andNot' y x
        have Hx := Lib.hid hx
        have Hy := Lib.hid hy
        clear hx hy
        by_cases hz : y &&& ~~~x = 0
        · have hb2 : (bits BinOp.andNot IntKind.u8 ↑y.toNat ↑x.toNat != 0) = false := by rw [hand, u8_zero, hz]; rfl
          have Hz := Lib.hid hz
          have Hand := Lib.hid hand
          clear hz hand
          go_wp2
          go_quiet (fail)
          go_wp2
          go_roundw
          case rel =>
            refine ⟨k + 1, _, by omega, by go_num, rfl, fun j hj => ?_⟩
            by_cases e : j = k
            · subst e; rw [Hx.out, Hy.out]; exact Hz.out
            · exact HJ.out j (by omega)
          case measure => simp [intOf]; omega
        · have hb2 : (bits BinOp.andNot IntKind.u8 ↑y.toNat ↑x.toNat != 0) = true := by rw [hand, u8_zero]; simpa using hz
          have Hf : Hid (canB l m = false) := Lib.hid (canB_false (l := l) (m := m) hlt (by rw [Hx.out, Hy.out]; exact hz))
          clear hz hand
          go_wp2
          go_quiet (fail)
          go_wp2
          go_ret
          exact ⟨by rw [Hf.out]; rfl, _, World.drewN_drewN _ _ _⟩
      · have Hf : Hid (canB l m = true) := Lib.hid (canB_true Hlen.out (fun i hi => HJ.out i (by omega)))
        go_wp2
        go_ret
        exact ⟨by rw [Hf.out]; rfl, _, rfl⟩
  · have Hf : Hid (canB l m = false) := Lib.hid (canB_len hlen)
    have hb1 : ((l.length : Int) != (m.length : Int)) = true := by simp; omega
    go_enter Try.func43, Try.ntmps43
    go_wp2
    go_ret
    exact ⟨by rw [Hf.out]; rfl, 0, rfl⟩

theorem can_is {A1 A2 : Option Addr} {l m : List UInt8} {c1 c2 : Nat} {w : World} {b : Bool} (hb : Hid (canB l m = b)) (h1 : Bs w A1 l) (h2 : Bs w A2 m) (hl : l.length ≤ 2147483648) :
    Calls Try.prog 43 #[.slice A1 l.length c1, .slice A2 m.length c2] w fun e w' => e = .returned (.bool b) ∧ ∃ n, w' = w.drewN n :=
  (can_any A1 A2 l m c1 c2 w h1 h2 hl).mono fun _ _ ⟨he, hw⟩ => ⟨by rw [he, hb.out], hw⟩

section
variable {w W : World} {A1 A2 A3 : Option Addr} {l m p : List UInt8} {n1 n2 n3 c1 c2 c3 : Nat}

theorem can_in {b : Bool} (hb : Below w.heap.size w W) (H : Hid (canB l m = b)) (h1 : Bs W A1 l) (h2 : Bs W A2 m) (e1 : n1 = l.length) (e2 : n2 = m.length) (hl : n1 ≤ 65536) :
    Calls Try.prog 43 #[.slice A1 n1 c1, .slice A2 n2 c2] W (BoolIn w b) := by
  subst e1
  subst e2
  exact (can_is H h1 h2 (by omega)).mono fun e w' ⟨he, n, hw⟩ => boolIn_of hb e w' ⟨he, n, hw⟩
end
end Go.Proofs.Ytlnpfndjdilfhaa
