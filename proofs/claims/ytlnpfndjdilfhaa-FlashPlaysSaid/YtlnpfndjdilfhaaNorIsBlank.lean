/- The contract of nor.IsBlank. -/
import Derived.Test.YtlnpfndjdilfhaaWords
namespace Go.Proofs.Ytlnpfndjdilfhaa
open Go.RowKit
set_option linter.unusedVariables false

theorem isBlank_any (A : Option Addr) (l : List UInt8) (c : Nat) (w : World) (h : Bs w A l) (hl : l.length ≤ 2147483648) :
    Calls Try.prog 22 #[.slice A l.length c] w fun e w' => e = .returned (.bool (l.all (· == 255))) ∧ w = w' := by
  go_enter Try.func22, Try.ntmps22
  go_wp2
  go_loop [7] (fun i => ∃ k : Nat, k ≤ l.length ∧ i = .int .i64 k ∧ ∀ j, j < k → l.getD j 0 = 255) (fun i => l.length - (intOf i).toNat)
  case atStart => exact ⟨0, Nat.zero_le _, rfl, fun j hj => absurd hj (by omega)⟩
  case round =>
    obtain ⟨k, hk, rfl, hj0⟩ := hrel
    have HJ := Lib.hid hj0
    clear hj0
    by_cases hlt : k < l.length
    · obtain ⟨b1, o1, rfl, hc1⟩ := h.at_ hlt
      obtain ⟨x, hx⟩ : ∃ x, l.getD k 0 = x := ⟨_, rfl⟩
      rw [hx] at hc1
      have Hx := Lib.hid hx
      clear hx
      by_cases hz : x = 255
      · have hb2 : ((x.toNat : Int) != 255) = false := by subst hz; rfl
        have Hz := Lib.hid hz
        clear hz
        go_wp2
        go_round
        case rel =>
          refine ⟨k + 1, by omega, by go_num, fun j hj => ?_⟩
          by_cases e : j = k
          · subst e; rw [Hx.out]; exact Hz.out
          · exact HJ.out j (by omega)
        case measure => simp [intOf]; omega
      · have hb2 : ((x.toNat : Int) != 255) = true := by
          simp
          intro h'
          exact hz (UInt8.toNat_inj.1 (by simpa using (by omega : x.toNat = 255)))
        have Hf : Hid (l.all (· == 255) = false) := Lib.hid (by
          rw [List.all_eq_false]
          exact ⟨l[k], List.getElem_mem hlt, by rw [← Hx.out] at hz; simpa [List.getD, List.getElem?_eq_getElem hlt] using hz⟩)
        clear hz
        go_wp2
        go_ret
        exact ⟨by rw [Hf.out]; rfl, rfl⟩
    · have Hf : Hid (l.all (· == 255) = true) := Lib.hid (by
        rw [List.all_eq_true]
        intro x hx
        obtain ⟨i, hi, rfl⟩ := List.getElem_of_mem hx
        have := HJ.out i (by omega)
        simpa [List.getD, List.getElem?_eq_getElem hi] using this)
      go_wp2
      go_ret
      exact ⟨by rw [Hf.out]; rfl, rfl⟩

section
variable {w W : World} {A1 A2 A3 : Option Addr} {l m p : List UInt8} {n1 n2 n3 c1 c2 c3 : Nat}

theorem isBlank_in {b : Bool} (hb : Below w.heap.size w W) (H : Hid (l.all (· == 255) = b)) (h1 : Bs W A1 l) (e1 : n1 = l.length) (hl : n1 ≤ 65536) :
    Calls Try.prog 22 #[.slice A1 n1 c1] W (BoolIn w b) := by
  subst e1
  rw [← H.out]
  exact (isBlank_any A1 l c1 W h1 (by omega)).mono fun e w' ⟨he, hw⟩ => ⟨he, hw ▸ hb⟩
end
end Go.Proofs.Ytlnpfndjdilfhaa
