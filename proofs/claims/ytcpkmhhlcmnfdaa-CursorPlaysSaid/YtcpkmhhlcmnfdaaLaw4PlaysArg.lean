/- CursorPlays: whole; what its statement is made of. -/
import Derived.Test.YtcpkmhhlcmnfdaaLaw4Plays
import Derived.Test.YtcpkmhhlcmnfdaaActsArg4
namespace Go.Proofs.Ytcpkmhhlcmnfdaa
open Go.RowKit
set_option linter.unusedVariables false
set_option maxRecDepth 100000

set_option maxHeartbeats 3200000 in
theorem law4Plays (from_ : Int) (AFL : Option Addr) (fl : List UInt8) (cfl : Nat) (A0 : Option Addr) (L : List ActE) (c0 : Nat) (w : World) (h1 : Bs w AFL fl) (hL : Acts4 w A0 L) (hLm : L.length ≤ 9223372036854775807) (f1 : -9223372036854775808 ≤ from_) (f2 : from_ ≤ 9223372036854775807) :
    Calls Try.prog 3 #[.int .i64 from_, .slice AFL fl.length cfl, .slice A0 L.length c0] w fun e w' => e = .returned (.bool true) ∧ Below w.heap.size w w' := by
  by_cases hfew : fewE L = true
  · by_cases hz : fl.length ≤ 300
    · exact law4Plays_in from_ AFL fl cfl A0 L c0 w h1 hL hLm hfew hz f1 f2
    · have HFEW : Hid (∀ W, Below w.heap.size w W → Calls Try.prog 10 #[.slice A0 L.length c0] W fun e w' => e = .returned (.bool true) ∧ W = w') := Lib.hid (fun W hW => by rw [← hfew]; exact few4_any W A0 L c0 (hL.below hW) hLm)
      obtain ⟨zf, Hfl⟩ : ∃ zf : Nat, (fl.length = zf) := ⟨_, rfl⟩
      rw [Hfl] at hz ⊢
      have g1 : decide (300 < (zf : Int)) = true := decide_eq_true (by omega)
      clear hfew hL h1 Hfl hz
      go_enter Try.func3, Try.ntmps3
      go_wp2_with fail
      refine (alive4_any newOk _).mono ?_
      rintro e w1 ⟨rfl, hb1⟩
      have B1 := Lib.hid hb1
      clear hb1
      go_wp2_with fail
      refine (HFEW.out _ B1.out).mono ?_
      rintro e w' ⟨rfl, rfl⟩
      go_wp2_with fail
      go_ret
      exact ⟨rfl, B1.out⟩
  · have hf : fewE L = false := by simpa using hfew
    have HFEW : Hid (∀ W, Below w.heap.size w W → Calls Try.prog 10 #[.slice A0 L.length c0] W fun e w' => e = .returned (.bool false) ∧ W = w') := Lib.hid (fun W hW => by rw [← hf]; exact few4_any W A0 L c0 (hL.below hW) hLm)
    clear hfew hL h1 hf
    go_enter Try.func3, Try.ntmps3
    go_wp2_with fail
    refine (alive4_any newOk _).mono ?_
    rintro e w1 ⟨rfl, hb1⟩
    have B1 := Lib.hid hb1
    clear hb1
    go_wp2_with fail
    refine (HFEW.out _ B1.out).mono ?_
    rintro e w' ⟨rfl, rfl⟩
    go_wp2_with fail
    go_ret
    exact ⟨rfl, B1.out⟩
end Go.Proofs.Ytcpkmhhlcmnfdaa

