/- PressBits. -/
import Derived.Test.YtbbdiphicckpiaaLaw7Spec
namespace Go.Proofs.Ytbbdiphicckpiaa
open Go.RowKit
set_option linter.unusedVariables false
set_option maxRecDepth 100000

set_option maxHeartbeats 1600000 in
theorem law7Bits (P : PressC) (x y z : W64) (w : World) :
    Calls Try.prog 6 #[.int .u64 (x.toNat : Int), .int .u64 (y.toNat : Int), .int .u64 (z.toNat : Int)] w fun e w' => e = .returned (.bool true) ∧ Below w.heap.size w w' := by
  have HA := Lib.hid (alive7_any P w)
  have R1 := P.maj x y z
  have R2 := P.maj z x y
  have R3 := P.maj x x z
  have R4 := P.ch x y y
  have R5 := P.ch x y z
  have R6 := P.ch (~~~x) y z
  have R7 := P.ch (x ^^^ y) z y
  rw [← maj_turn] at R2
  rw [maj_same] at R3
  rw [ch_same] at R4
  rw [← maj_ch] at R7
  have e1 : bits .xor .u64 IntKind.u64.max (x.toNat : Int) = ((~~~x).toNat : Int) := not_w x
  have e2 := xor_w (chW x y z) (chW (~~~x) y z)
  rw [ch_not] at e2
  have e3 := xor_w y z
  have e4 := xor_w x y
  generalize majW x y z = m at *
  generalize chW x y z = c at *
  generalize ~~~x = nx at *
  generalize chW nx y z = d at *
  generalize y ^^^ z = yz at *
  generalize x ^^^ y = xy at *
  have HR1 := Lib.hid R1
  have HR2 := Lib.hid R2
  have HR3 := Lib.hid R3
  have HR4 := Lib.hid R4
  have HR5 := Lib.hid R5
  have HR6 := Lib.hid R6
  have HR7 := Lib.hid R7
  clear R1 R2 R3 R4 R5 R6 R7
  go_enter Try.func6, Try.ntmps6
  go_wp2_with fail
  with_reducible refine HA.out.mono ?_
  rintro e w0 ⟨rfl, hb0⟩
  have HB0 := Lib.hid hb0
  clear hb0 HA
  go_wp2_with fail
  with_reducible refine (HR1.out _).mono ?_
  rintro e w1 ⟨rfl, hb1⟩
  have HB1 := Lib.hid (below_next HB0.out hb1)
  clear hb1
  go_wp2_with fail
  with_reducible refine (HR2.out _).mono ?_
  rintro e w2 ⟨rfl, hb2⟩
  have HB2 := Lib.hid (below_next HB1.out hb2)
  clear hb2
  go_wp2_with fail
  with_reducible refine (HR3.out _).mono ?_
  rintro e w3 ⟨rfl, hb3⟩
  have HB3 := Lib.hid (below_next HB2.out hb3)
  clear hb3
  go_wp2_with fail
  with_reducible refine (HR4.out _).mono ?_
  rintro e w4 ⟨rfl, hb4⟩
  have HB4 := Lib.hid (below_next HB3.out hb4)
  clear hb4
  go_wp2_with fail
  with_reducible refine (HR5.out _).mono ?_
  rintro e w5 ⟨rfl, hb5⟩
  have HB5 := Lib.hid (below_next HB4.out hb5)
  clear hb5
  go_wp2_with fail
  with_reducible refine (HR6.out _).mono ?_
  rintro e w6 ⟨rfl, hb6⟩
  have HB6 := Lib.hid (below_next HB5.out hb6)
  clear hb6
  go_wp2_with fail
  with_reducible refine (HR1.out _).mono ?_
  rintro e w7 ⟨rfl, hb7⟩
  have HB7 := Lib.hid (below_next HB6.out hb7)
  clear hb7
  go_wp2_with fail
  with_reducible refine (HR7.out _).mono ?_
  rintro e w8 ⟨rfl, hb8⟩
  have HB8 := Lib.hid (below_next HB7.out hb8)
  clear hb8
  go_wp2_with fail
  go_ret
  exact ⟨rfl, HB8.out⟩
end Go.Proofs.Ytbbdiphicckpiaa

