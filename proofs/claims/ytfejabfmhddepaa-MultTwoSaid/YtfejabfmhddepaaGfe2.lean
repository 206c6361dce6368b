/- The contract of the developers' Mul. The contract of the developers' Square. -/
import Derived.Test.YtfejabfmhddepaaGfe1
import Derived.Test.YtfejabfmhddepaaGheld
namespace Go.Proofs.Ytfejabfmhddepaa
open Go.RowKit
set_option linter.unusedVariables false
set_option maxRecDepth 100000

theorem pb {x y : Nat} (hx : x < L51) (hy : y < L51) : x * y ≤ 5070602402093504723173315706881 := Nat.le_trans (Nat.mul_le_mul (Nat.le_of_lt_succ hx) (Nat.le_of_lt_succ hy)) (by decide)
theorem pb19 {x y f : Nat} (hx : x < L51) (hy : f < 42784196465000448) : x * f ≤ 96341445639776630272689649483777 := Nat.le_trans (Nat.mul_le_mul (Nat.le_of_lt_succ hx) (Nat.le_of_lt_succ hy)) (by decide)

set_option maxHeartbeats 6400000 in
theorem femul_any {c d : Array Value} {x y : Nat} (hx : feR c x) (hy : feR d y) (W : World) : Calls Try.prog 38 #[.agg c, .agg d] W (RetFe feR W ((x * y) % PP)) := by
  obtain ⟨a0, a1, a2, a3, a4, rfl, ha0, ha1, ha2, ha3, ha4, rfl⟩ := hx
  obtain ⟨b0, b1, b2, b3, b4, rfl, hb0, hb1, hb2, hb3, hb4, rfl⟩ := hy
  rw [← val5_mul]
  obtain ⟨f1, w1, hf1, e1⟩ : ∃ f : Nat, IntKind.u64.wrap (19 * (b1 : Int)) = (f : Int) ∧ f < 42784196465000448 ∧ 19 * b1 = f := ⟨19 * b1, by rw [IntKind.wrap_u64]; unfold L51 at hb1; omega, by unfold L51 at hb1; omega, rfl⟩
  obtain ⟨f2, w2, hf2, e2⟩ : ∃ f : Nat, IntKind.u64.wrap (19 * (b2 : Int)) = (f : Int) ∧ f < 42784196465000448 ∧ 19 * b2 = f := ⟨19 * b2, by rw [IntKind.wrap_u64]; unfold L51 at hb2; omega, by unfold L51 at hb2; omega, rfl⟩
  obtain ⟨f3, w3, hf3, e3⟩ : ∃ f : Nat, IntKind.u64.wrap (19 * (b3 : Int)) = (f : Int) ∧ f < 42784196465000448 ∧ 19 * b3 = f := ⟨19 * b3, by rw [IntKind.wrap_u64]; unfold L51 at hb3; omega, by unfold L51 at hb3; omega, rfl⟩
  obtain ⟨f4, w4, hf4, e4⟩ : ∃ f : Nat, IntKind.u64.wrap (19 * (b4 : Int)) = (f : Int) ∧ f < 42784196465000448 ∧ 19 * b4 = f := ⟨19 * b4, by rw [IntKind.wrap_u64]; unfold L51 at hb4; omega, by unfold L51 at hb4; omega, rfl⟩
  rw [e1, e2, e3, e4]
  have B0 : a0 * b0 + a1 * f4 + a2 * f3 + a3 * f2 + a4 * f1 < 1298074214633706907132624082305024 := by
    have p0 := pb (y := b0) (x := a0) ha0 hb0
    have p1 := pb19 (f := f4) (y := 0) (x := a1) ha1 hf4
    have p2 := pb19 (f := f3) (y := 0) (x := a2) ha2 hf3
    have p3 := pb19 (f := f2) (y := 0) (x := a3) ha3 hf2
    have p4 := pb19 (f := f1) (y := 0) (x := a4) ha4 hf1
    omega
  have B1 : a0 * b1 + a1 * b0 + a2 * f4 + a3 * f3 + a4 * f2 < 1298074214633706907132624082305024 := by
    have p0 := pb (y := b1) (x := a0) ha0 hb1
    have p1 := pb (y := b0) (x := a1) ha1 hb0
    have p2 := pb19 (f := f4) (y := 0) (x := a2) ha2 hf4
    have p3 := pb19 (f := f3) (y := 0) (x := a3) ha3 hf3
    have p4 := pb19 (f := f2) (y := 0) (x := a4) ha4 hf2
    omega
  have B2 : a0 * b2 + a1 * b1 + a2 * b0 + a3 * f4 + a4 * f3 < 1298074214633706907132624082305024 := by
    have p0 := pb (y := b2) (x := a0) ha0 hb2
    have p1 := pb (y := b1) (x := a1) ha1 hb1
    have p2 := pb (y := b0) (x := a2) ha2 hb0
    have p3 := pb19 (f := f4) (y := 0) (x := a3) ha3 hf4
    have p4 := pb19 (f := f3) (y := 0) (x := a4) ha4 hf3
    omega
  have B3 : a0 * b3 + a1 * b2 + a2 * b1 + a3 * b0 + a4 * f4 < 1298074214633706907132624082305024 := by
    have p0 := pb (y := b3) (x := a0) ha0 hb3
    have p1 := pb (y := b2) (x := a1) ha1 hb2
    have p2 := pb (y := b1) (x := a2) ha2 hb1
    have p3 := pb (y := b0) (x := a3) ha3 hb0
    have p4 := pb19 (f := f4) (y := 0) (x := a4) ha4 hf4
    omega
  have B4 : a0 * b4 + a1 * b3 + a2 * b2 + a3 * b1 + a4 * b0 < 1298074214633706907132624082305024 := by
    have p0 := pb (y := b4) (x := a0) ha0 hb4
    have p1 := pb (y := b3) (x := a1) ha1 hb3
    have p2 := pb (y := b2) (x := a2) ha2 hb2
    have p3 := pb (y := b1) (x := a3) ha3 hb1
    have p4 := pb (y := b0) (x := a4) ha4 hb0
    omega
  have HN : Hid (∀ W' : World, Calls Try.prog 77 #[.agg (wide2 (a0 * b0 + a1 * f4 + a2 * f3 + a3 * f2 + a4 * f1)), .agg (wide2 (a0 * b1 + a1 * b0 + a2 * f4 + a3 * f3 + a4 * f2)), .agg (wide2 (a0 * b2 + a1 * b1 + a2 * b0 + a3 * f4 + a4 * f3)), .agg (wide2 (a0 * b3 + a1 * b2 + a2 * b1 + a3 * b0 + a4 * f4)), .agg (wide2 (a0 * b4 + a1 * b3 + a2 * b2 + a3 * b1 + a4 * b0))] W' (RetFe feR W' (val5 (a0 * b0 + a1 * f4 + a2 * f3 + a3 * f2 + a4 * f1) (a0 * b1 + a1 * b0 + a2 * f4 + a3 * f3 + a4 * f2) (a0 * b2 + a1 * b1 + a2 * b0 + a3 * f4 + a4 * f3) (a0 * b3 + a1 * b2 + a2 * b1 + a3 * b0 + a4 * f4) (a0 * b4 + a1 * b3 + a2 * b2 + a3 * b1 + a4 * b0) % PP))) := Lib.hid fun W' => narrowed_any _ _ _ _ _ B0 B1 B2 B3 B4 W'
  unfold L51 at *
  have H0_0 : Hid (∀ W' : World, Calls Try.prog 75 #[.int .u64 (a0 : Int), .int .u64 (b0 : Int)] W' (RetV W' (.agg (wide2 (a0 * b0))))) := Lib.hid fun W' => product_any a0 b0 (by omega) (by omega) W'
  have H0_1 : Hid (∀ W' : World, Calls Try.prog 76 #[.agg (wide2 (a0 * b0)), .int .u64 (a1 : Int), .int .u64 (f4 : Int)] W' (RetV W' (.agg (wide2 (a0 * b0 + a1 * f4))))) := Lib.hid fun W' => plus_any (a0 * b0) a1 f4 (by omega) (by omega) (by have := B0; omega) W'
  have H0_2 : Hid (∀ W' : World, Calls Try.prog 76 #[.agg (wide2 (a0 * b0 + a1 * f4)), .int .u64 (a2 : Int), .int .u64 (f3 : Int)] W' (RetV W' (.agg (wide2 (a0 * b0 + a1 * f4 + a2 * f3))))) := Lib.hid fun W' => plus_any (a0 * b0 + a1 * f4) a2 f3 (by omega) (by omega) (by have := B0; omega) W'
  have H0_3 : Hid (∀ W' : World, Calls Try.prog 76 #[.agg (wide2 (a0 * b0 + a1 * f4 + a2 * f3)), .int .u64 (a3 : Int), .int .u64 (f2 : Int)] W' (RetV W' (.agg (wide2 (a0 * b0 + a1 * f4 + a2 * f3 + a3 * f2))))) := Lib.hid fun W' => plus_any (a0 * b0 + a1 * f4 + a2 * f3) a3 f2 (by omega) (by omega) (by have := B0; omega) W'
  have H0_4 : Hid (∀ W' : World, Calls Try.prog 76 #[.agg (wide2 (a0 * b0 + a1 * f4 + a2 * f3 + a3 * f2)), .int .u64 (a4 : Int), .int .u64 (f1 : Int)] W' (RetV W' (.agg (wide2 (a0 * b0 + a1 * f4 + a2 * f3 + a3 * f2 + a4 * f1))))) := Lib.hid fun W' => plus_any (a0 * b0 + a1 * f4 + a2 * f3 + a3 * f2) a4 f1 (by omega) (by omega) (by have := B0; omega) W'
  have H1_0 : Hid (∀ W' : World, Calls Try.prog 75 #[.int .u64 (a0 : Int), .int .u64 (b1 : Int)] W' (RetV W' (.agg (wide2 (a0 * b1))))) := Lib.hid fun W' => product_any a0 b1 (by omega) (by omega) W'
  have H1_1 : Hid (∀ W' : World, Calls Try.prog 76 #[.agg (wide2 (a0 * b1)), .int .u64 (a1 : Int), .int .u64 (b0 : Int)] W' (RetV W' (.agg (wide2 (a0 * b1 + a1 * b0))))) := Lib.hid fun W' => plus_any (a0 * b1) a1 b0 (by omega) (by omega) (by have := B1; omega) W'
  have H1_2 : Hid (∀ W' : World, Calls Try.prog 76 #[.agg (wide2 (a0 * b1 + a1 * b0)), .int .u64 (a2 : Int), .int .u64 (f4 : Int)] W' (RetV W' (.agg (wide2 (a0 * b1 + a1 * b0 + a2 * f4))))) := Lib.hid fun W' => plus_any (a0 * b1 + a1 * b0) a2 f4 (by omega) (by omega) (by have := B1; omega) W'
  have H1_3 : Hid (∀ W' : World, Calls Try.prog 76 #[.agg (wide2 (a0 * b1 + a1 * b0 + a2 * f4)), .int .u64 (a3 : Int), .int .u64 (f3 : Int)] W' (RetV W' (.agg (wide2 (a0 * b1 + a1 * b0 + a2 * f4 + a3 * f3))))) := Lib.hid fun W' => plus_any (a0 * b1 + a1 * b0 + a2 * f4) a3 f3 (by omega) (by omega) (by have := B1; omega) W'
  have H1_4 : Hid (∀ W' : World, Calls Try.prog 76 #[.agg (wide2 (a0 * b1 + a1 * b0 + a2 * f4 + a3 * f3)), .int .u64 (a4 : Int), .int .u64 (f2 : Int)] W' (RetV W' (.agg (wide2 (a0 * b1 + a1 * b0 + a2 * f4 + a3 * f3 + a4 * f2))))) := Lib.hid fun W' => plus_any (a0 * b1 + a1 * b0 + a2 * f4 + a3 * f3) a4 f2 (by omega) (by omega) (by have := B1; omega) W'
  have H2_0 : Hid (∀ W' : World, Calls Try.prog 75 #[.int .u64 (a0 : Int), .int .u64 (b2 : Int)] W' (RetV W' (.agg (wide2 (a0 * b2))))) := Lib.hid fun W' => product_any a0 b2 (by omega) (by omega) W'
  have H2_1 : Hid (∀ W' : World, Calls Try.prog 76 #[.agg (wide2 (a0 * b2)), .int .u64 (a1 : Int), .int .u64 (b1 : Int)] W' (RetV W' (.agg (wide2 (a0 * b2 + a1 * b1))))) := Lib.hid fun W' => plus_any (a0 * b2) a1 b1 (by omega) (by omega) (by have := B2; omega) W'
  have H2_2 : Hid (∀ W' : World, Calls Try.prog 76 #[.agg (wide2 (a0 * b2 + a1 * b1)), .int .u64 (a2 : Int), .int .u64 (b0 : Int)] W' (RetV W' (.agg (wide2 (a0 * b2 + a1 * b1 + a2 * b0))))) := Lib.hid fun W' => plus_any (a0 * b2 + a1 * b1) a2 b0 (by omega) (by omega) (by have := B2; omega) W'
  have H2_3 : Hid (∀ W' : World, Calls Try.prog 76 #[.agg (wide2 (a0 * b2 + a1 * b1 + a2 * b0)), .int .u64 (a3 : Int), .int .u64 (f4 : Int)] W' (RetV W' (.agg (wide2 (a0 * b2 + a1 * b1 + a2 * b0 + a3 * f4))))) := Lib.hid fun W' => plus_any (a0 * b2 + a1 * b1 + a2 * b0) a3 f4 (by omega) (by omega) (by have := B2; omega) W'
  have H2_4 : Hid (∀ W' : World, Calls Try.prog 76 #[.agg (wide2 (a0 * b2 + a1 * b1 + a2 * b0 + a3 * f4)), .int .u64 (a4 : Int), .int .u64 (f3 : Int)] W' (RetV W' (.agg (wide2 (a0 * b2 + a1 * b1 + a2 * b0 + a3 * f4 + a4 * f3))))) := Lib.hid fun W' => plus_any (a0 * b2 + a1 * b1 + a2 * b0 + a3 * f4) a4 f3 (by omega) (by omega) (by have := B2; omega) W'
  have H3_0 : Hid (∀ W' : World, Calls Try.prog 75 #[.int .u64 (a0 : Int), .int .u64 (b3 : Int)] W' (RetV W' (.agg (wide2 (a0 * b3))))) := Lib.hid fun W' => product_any a0 b3 (by omega) (by omega) W'
  have H3_1 : Hid (∀ W' : World, Calls Try.prog 76 #[.agg (wide2 (a0 * b3)), .int .u64 (a1 : Int), .int .u64 (b2 : Int)] W' (RetV W' (.agg (wide2 (a0 * b3 + a1 * b2))))) := Lib.hid fun W' => plus_any (a0 * b3) a1 b2 (by omega) (by omega) (by have := B3; omega) W'
  have H3_2 : Hid (∀ W' : World, Calls Try.prog 76 #[.agg (wide2 (a0 * b3 + a1 * b2)), .int .u64 (a2 : Int), .int .u64 (b1 : Int)] W' (RetV W' (.agg (wide2 (a0 * b3 + a1 * b2 + a2 * b1))))) := Lib.hid fun W' => plus_any (a0 * b3 + a1 * b2) a2 b1 (by omega) (by omega) (by have := B3; omega) W'
  have H3_3 : Hid (∀ W' : World, Calls Try.prog 76 #[.agg (wide2 (a0 * b3 + a1 * b2 + a2 * b1)), .int .u64 (a3 : Int), .int .u64 (b0 : Int)] W' (RetV W' (.agg (wide2 (a0 * b3 + a1 * b2 + a2 * b1 + a3 * b0))))) := Lib.hid fun W' => plus_any (a0 * b3 + a1 * b2 + a2 * b1) a3 b0 (by omega) (by omega) (by have := B3; omega) W'
  have H3_4 : Hid (∀ W' : World, Calls Try.prog 76 #[.agg (wide2 (a0 * b3 + a1 * b2 + a2 * b1 + a3 * b0)), .int .u64 (a4 : Int), .int .u64 (f4 : Int)] W' (RetV W' (.agg (wide2 (a0 * b3 + a1 * b2 + a2 * b1 + a3 * b0 + a4 * f4))))) := Lib.hid fun W' => plus_any (a0 * b3 + a1 * b2 + a2 * b1 + a3 * b0) a4 f4 (by omega) (by omega) (by have := B3; omega) W'
  have H4_0 : Hid (∀ W' : World, Calls Try.prog 75 #[.int .u64 (a0 : Int), .int .u64 (b4 : Int)] W' (RetV W' (.agg (wide2 (a0 * b4))))) := Lib.hid fun W' => product_any a0 b4 (by omega) (by omega) W'
  have H4_1 : Hid (∀ W' : World, Calls Try.prog 76 #[.agg (wide2 (a0 * b4)), .int .u64 (a1 : Int), .int .u64 (b3 : Int)] W' (RetV W' (.agg (wide2 (a0 * b4 + a1 * b3))))) := Lib.hid fun W' => plus_any (a0 * b4) a1 b3 (by omega) (by omega) (by have := B4; omega) W'
  have H4_2 : Hid (∀ W' : World, Calls Try.prog 76 #[.agg (wide2 (a0 * b4 + a1 * b3)), .int .u64 (a2 : Int), .int .u64 (b2 : Int)] W' (RetV W' (.agg (wide2 (a0 * b4 + a1 * b3 + a2 * b2))))) := Lib.hid fun W' => plus_any (a0 * b4 + a1 * b3) a2 b2 (by omega) (by omega) (by have := B4; omega) W'
  have H4_3 : Hid (∀ W' : World, Calls Try.prog 76 #[.agg (wide2 (a0 * b4 + a1 * b3 + a2 * b2)), .int .u64 (a3 : Int), .int .u64 (b1 : Int)] W' (RetV W' (.agg (wide2 (a0 * b4 + a1 * b3 + a2 * b2 + a3 * b1))))) := Lib.hid fun W' => plus_any (a0 * b4 + a1 * b3 + a2 * b2) a3 b1 (by omega) (by omega) (by have := B4; omega) W'
  have H4_4 : Hid (∀ W' : World, Calls Try.prog 76 #[.agg (wide2 (a0 * b4 + a1 * b3 + a2 * b2 + a3 * b1)), .int .u64 (a4 : Int), .int .u64 (b0 : Int)] W' (RetV W' (.agg (wide2 (a0 * b4 + a1 * b3 + a2 * b2 + a3 * b1 + a4 * b0))))) := Lib.hid fun W' => plus_any (a0 * b4 + a1 * b3 + a2 * b2 + a3 * b1) a4 b0 (by omega) (by omega) (by have := B4; omega) W'
  generalize val5 (a0 * b0 + a1 * f4 + a2 * f3 + a3 * f2 + a4 * f1) (a0 * b1 + a1 * b0 + a2 * f4 + a3 * f3 + a4 * f2) (a0 * b2 + a1 * b1 + a2 * b0 + a3 * f4 + a4 * f3) (a0 * b3 + a1 * b2 + a2 * b1 + a3 * b0 + a4 * f4) (a0 * b4 + a1 * b3 + a2 * b2 + a3 * b1 + a4 * b0) % PP = nn at *
  clear B0 B1 B2 B3 B4 e1 e2 e3 e4
  generalize wide2 (a0 * b0) = U0_0 at *
  generalize wide2 (a0 * b0 + a1 * f4) = U0_1 at *
  generalize wide2 (a0 * b0 + a1 * f4 + a2 * f3) = U0_2 at *
  generalize wide2 (a0 * b0 + a1 * f4 + a2 * f3 + a3 * f2) = U0_3 at *
  have i0 := wide2_info (a0 * b0 + a1 * f4 + a2 * f3 + a3 * f2 + a4 * f1)
  have on0 := wide2_one (a0 * b0 + a1 * f4 + a2 * f3 + a3 * f2 + a4 * f1)
  have sz0 : (#[.int .u64 0, .int .u64 0] : Array Value).size = (wide2 (a0 * b0 + a1 * f4 + a2 * f3 + a3 * f2 + a4 * f1)).size := rfl
  generalize wide2 (a0 * b0 + a1 * f4 + a2 * f3 + a3 * f2 + a4 * f1) = V0 at *
  generalize wide2 (a0 * b1) = U1_0 at *
  generalize wide2 (a0 * b1 + a1 * b0) = U1_1 at *
  generalize wide2 (a0 * b1 + a1 * b0 + a2 * f4) = U1_2 at *
  generalize wide2 (a0 * b1 + a1 * b0 + a2 * f4 + a3 * f3) = U1_3 at *
  have i1 := wide2_info (a0 * b1 + a1 * b0 + a2 * f4 + a3 * f3 + a4 * f2)
  have on1 := wide2_one (a0 * b1 + a1 * b0 + a2 * f4 + a3 * f3 + a4 * f2)
  have sz1 : (#[.int .u64 0, .int .u64 0] : Array Value).size = (wide2 (a0 * b1 + a1 * b0 + a2 * f4 + a3 * f3 + a4 * f2)).size := rfl
  generalize wide2 (a0 * b1 + a1 * b0 + a2 * f4 + a3 * f3 + a4 * f2) = V1 at *
  generalize wide2 (a0 * b2) = U2_0 at *
  generalize wide2 (a0 * b2 + a1 * b1) = U2_1 at *
  generalize wide2 (a0 * b2 + a1 * b1 + a2 * b0) = U2_2 at *
  generalize wide2 (a0 * b2 + a1 * b1 + a2 * b0 + a3 * f4) = U2_3 at *
  have i2 := wide2_info (a0 * b2 + a1 * b1 + a2 * b0 + a3 * f4 + a4 * f3)
  have on2 := wide2_one (a0 * b2 + a1 * b1 + a2 * b0 + a3 * f4 + a4 * f3)
  have sz2 : (#[.int .u64 0, .int .u64 0] : Array Value).size = (wide2 (a0 * b2 + a1 * b1 + a2 * b0 + a3 * f4 + a4 * f3)).size := rfl
  generalize wide2 (a0 * b2 + a1 * b1 + a2 * b0 + a3 * f4 + a4 * f3) = V2 at *
  generalize wide2 (a0 * b3) = U3_0 at *
  generalize wide2 (a0 * b3 + a1 * b2) = U3_1 at *
  generalize wide2 (a0 * b3 + a1 * b2 + a2 * b1) = U3_2 at *
  generalize wide2 (a0 * b3 + a1 * b2 + a2 * b1 + a3 * b0) = U3_3 at *
  have i3 := wide2_info (a0 * b3 + a1 * b2 + a2 * b1 + a3 * b0 + a4 * f4)
  have on3 := wide2_one (a0 * b3 + a1 * b2 + a2 * b1 + a3 * b0 + a4 * f4)
  have sz3 : (#[.int .u64 0, .int .u64 0] : Array Value).size = (wide2 (a0 * b3 + a1 * b2 + a2 * b1 + a3 * b0 + a4 * f4)).size := rfl
  generalize wide2 (a0 * b3 + a1 * b2 + a2 * b1 + a3 * b0 + a4 * f4) = V3 at *
  generalize wide2 (a0 * b4) = U4_0 at *
  generalize wide2 (a0 * b4 + a1 * b3) = U4_1 at *
  generalize wide2 (a0 * b4 + a1 * b3 + a2 * b2) = U4_2 at *
  generalize wide2 (a0 * b4 + a1 * b3 + a2 * b2 + a3 * b1) = U4_3 at *
  have i4 := wide2_info (a0 * b4 + a1 * b3 + a2 * b2 + a3 * b1 + a4 * b0)
  have on4 := wide2_one (a0 * b4 + a1 * b3 + a2 * b2 + a3 * b1 + a4 * b0)
  have sz4 : (#[.int .u64 0, .int .u64 0] : Array Value).size = (wide2 (a0 * b4 + a1 * b3 + a2 * b2 + a3 * b1 + a4 * b0)).size := rfl
  generalize wide2 (a0 * b4 + a1 * b3 + a2 * b2 + a3 * b1 + a4 * b0) = V4 at *
  have z1 : IntKind.u64.wrap (f1 : Int) = (f1 : Int) := by rw [IntKind.wrap_u64]; omega
  have z2 : IntKind.u64.wrap (f2 : Int) = (f2 : Int) := by rw [IntKind.wrap_u64]; omega
  have z3 : IntKind.u64.wrap (f3 : Int) = (f3 : Int) := by rw [IntKind.wrap_u64]; omega
  have z4 : IntKind.u64.wrap (f4 : Int) = (f4 : Int) := by rw [IntKind.wrap_u64]; omega
  clear ha0 hb0 ha1 hb1 ha2 hb2 ha3 hb3 ha4 hb4 hf1 hf2 hf3 hf4
  have hzw : ∀ u, (zeroValue 92).run Try.prog u = .ok (.agg #[.int .u64 0, .int .u64 0]) u := fun u => zero_arr 92 #[.int .u64 0, .int .u64 0] 2 (by kernel_rfl) u
  obtain ⟨La, hLa⟩ : ∃ L, limb5 a0 a1 a2 a3 a4 = L := ⟨_, rfl⟩
  rw [hLa]
  have HLa : Hid (La = limb5 a0 a1 a2 a3 a4) := Lib.hid hLa.symm
  clear hLa
  obtain ⟨Lb, hLb⟩ : ∃ L, limb5 b0 b1 b2 b3 b4 = L := ⟨_, rfl⟩
  rw [hLb]
  have HLb : Hid (Lb = limb5 b0 b1 b2 b3 b4) := Lib.hid hLb.symm
  clear hLb
  have hrr : RowsW (((W.alloc (.cells La 26)).alloc (.cells Lb 26)).alloc (.cells #[.int .u64 0, .int .u64 0, .int .u64 0, .int .u64 0, .int .u64 0] 26)) [(W.heap.size + 1 + 1, #[.int .u64 0, .int .u64 0, .int .u64 0, .int .u64 0, .int .u64 0], 26), (W.heap.size + 1, Lb, 26), (W.heap.size, La, 26)] := by have h := (RowsW.box (RowsW.box (RowsW.box (RowsW.nil W) La 26) Lb 26) #[.int .u64 0, .int .u64 0, .int .u64 0, .int .u64 0, .int .u64 0] 26); simp only [World.size_alloc] at h; exact h
  obtain ⟨W1, hW1⟩ : ∃ W1, (((W.alloc (.cells La 26)).alloc (.cells Lb 26)).alloc (.cells #[.int .u64 0, .int .u64 0, .int .u64 0, .int .u64 0, .int .u64 0] 26)) = W1 := ⟨_, rfl⟩
  rw [hW1] at hrr
  have hb1 : Below W.heap.size W W1 := by rw [← hW1]; exact below_alloc (below_alloc (below_alloc (Below.refl _ _) _) _) _
  have HR := Lib.hid hrr
  have HB1 := Lib.hid hb1
  have HW1 := Lib.hid hW1
  clear hrr hb1 hW1
  go_enter Try.func38, Try.ntmps38
  go_upto_region 1 with fail
  rw [HW1.out]
  have cb1 : W1.cell? ⟨W.heap.size + 1, 1, none⟩ = some (.int .u64 (b1 : Int)) := by rw [cell_of_row _ _ _ _ _ _ HR.out.tail.head, HLb.out]; rfl
  have cb2 : W1.cell? ⟨W.heap.size + 1, 2, none⟩ = some (.int .u64 (b2 : Int)) := by rw [cell_of_row _ _ _ _ _ _ HR.out.tail.head, HLb.out]; rfl
  have cb3 : W1.cell? ⟨W.heap.size + 1, 3, none⟩ = some (.int .u64 (b3 : Int)) := by rw [cell_of_row _ _ _ _ _ _ HR.out.tail.head, HLb.out]; rfl
  have cb4 : W1.cell? ⟨W.heap.size + 1, 4, none⟩ = some (.int .u64 (b4 : Int)) := by rw [cell_of_row _ _ _ _ _ _ HR.out.tail.head, HLb.out]; rfl
  go_quiet (fail)
  obtain ⟨Q0, hQ0⟩ : ∃ X, W1.drewN nq = X := ⟨_, rfl⟩
  have HRQ0 := Lib.hid (show RowsW Q0 [(W.heap.size + 1 + 1, #[.int .u64 0, .int .u64 0, .int .u64 0, .int .u64 0, .int .u64 0], 26), (W.heap.size + 1, Lb, 26), (W.heap.size, La, 26)] by rw [← hQ0]; exact HR.out.below (below_drewN' (Below.refl _ _) nq))
  have HBQ0 := Lib.hid (show Below W.heap.size W Q0 by rw [← hQ0]; exact below_drewN' HB1.out nq)
  rw [hQ0]
  clear hQ0 nq cb1 cb2 cb3 cb4
  go_upto_region 2 with fail
  refine wp_region_noPanic ?_
  refine wp_region_heldB 21 9 92 #[.int .u64 0, .int .u64 0] (by kernel_rfl) (by kernel_rfl) ⟨by kernel_rfl, by kernel_rfl, hzw, fun _ _ _ h => h⟩ (fun hA hS => ?_)
  refine' take_atB 0 hA rfl (by kernel_rfl) (by kernel_rfl) (by kernel_rfl) (by kernel_rfl) (by kernel_rfl) (by rfl) (by rfl) hS ?_ ?_ ?_
  rotate_left 2
  · intro W hSW; go_simp; try with_reducible rfl
  · simp only [List.set_cons_succ, List.set_cons_zero]; rfl
  refine' take_atB 1 hA rfl (by kernel_rfl) (by kernel_rfl) (by kernel_rfl) (by kernel_rfl) (by kernel_rfl) (by rfl) (by rfl) hS ?_ ?_ ?_
  rotate_left 2
  · intro X hSX; have hc : X.cell? ⟨W.heap.size, 0, none⟩ = some (.int .u64 (a0 : Int)) := by { rw [cell_of_row _ _ _ _ _ _ (HRQ0.out.below hSX).tail.tail.head, HLa.out]; rfl }; go_simp; try with_reducible rfl
  · simp only [List.set_cons_succ, List.set_cons_zero]; rfl
  refine' take_atB 2 hA rfl (by kernel_rfl) (by kernel_rfl) (by kernel_rfl) (by kernel_rfl) (by kernel_rfl) (by rfl) (by rfl) hS ?_ ?_ ?_
  rotate_left 2
  · intro W hSW; go_simp; try with_reducible rfl
  · simp only [List.set_cons_succ, List.set_cons_zero]; rfl
  refine' take_atB 3 hA rfl (by kernel_rfl) (by kernel_rfl) (by kernel_rfl) (by kernel_rfl) (by kernel_rfl) (by rfl) (by rfl) hS ?_ ?_ ?_
  rotate_left 2
  · intro X hSX; have hc : X.cell? ⟨W.heap.size + 1, 0, none⟩ = some (.int .u64 (b0 : Int)) := by { rw [cell_of_row _ _ _ _ _ _ (HRQ0.out.below hSX).tail.head, HLb.out]; rfl }; go_simp; try with_reducible rfl
  · simp only [List.set_cons_succ, List.set_cons_zero]; rfl
  refine' take_atB 5 hA rfl (by kernel_rfl) (by kernel_rfl) (by kernel_rfl) (by kernel_rfl) (by kernel_rfl) (by rfl) (by rfl) hS ?_ ?_ ?_
  rotate_left 2
  · intro W hSW; go_simp; try with_reducible rfl
  · simp only [List.set_cons_succ, List.set_cons_zero]; rfl
  refine' take_atB 6 hA rfl (by kernel_rfl) (by kernel_rfl) (by kernel_rfl) (by kernel_rfl) (by kernel_rfl) (by rfl) (by rfl) hS ?_ ?_ ?_
  rotate_left 2
  · intro X hSX; have hc : X.cell? ⟨W.heap.size, 1, none⟩ = some (.int .u64 (a1 : Int)) := by { rw [cell_of_row _ _ _ _ _ _ (HRQ0.out.below hSX).tail.tail.head, HLa.out]; rfl }; go_simp; try with_reducible rfl
  · simp only [List.set_cons_succ, List.set_cons_zero]; rfl
  refine' take_atB 7 hA rfl (by kernel_rfl) (by kernel_rfl) (by kernel_rfl) (by kernel_rfl) (by kernel_rfl) (by rfl) (by rfl) hS ?_ ?_ ?_
  rotate_left 2
  · intro W hSW; go_simp; try with_reducible rfl
  · simp only [List.set_cons_succ, List.set_cons_zero]; rfl
  refine' take_atB 9 hA rfl (by kernel_rfl) (by kernel_rfl) (by kernel_rfl) (by kernel_rfl) (by kernel_rfl) (by rfl) (by rfl) hS ?_ ?_ ?_
  rotate_left 2
  · intro W hSW; go_simp; try with_reducible rfl
  · simp only [List.set_cons_succ, List.set_cons_zero]; rfl
  refine' take_atB 10 hA rfl (by kernel_rfl) (by kernel_rfl) (by kernel_rfl) (by kernel_rfl) (by kernel_rfl) (by rfl) (by rfl) hS ?_ ?_ ?_
  rotate_left 2
  · intro X hSX; have hc : X.cell? ⟨W.heap.size, 2, none⟩ = some (.int .u64 (a2 : Int)) := by { rw [cell_of_row _ _ _ _ _ _ (HRQ0.out.below hSX).tail.tail.head, HLa.out]; rfl }; go_simp; try with_reducible rfl
  · simp only [List.set_cons_succ, List.set_cons_zero]; rfl
  refine' take_atB 11 hA rfl (by kernel_rfl) (by kernel_rfl) (by kernel_rfl) (by kernel_rfl) (by kernel_rfl) (by rfl) (by rfl) hS ?_ ?_ ?_
  rotate_left 2
  · intro W hSW; go_simp; try with_reducible rfl
  · simp only [List.set_cons_succ, List.set_cons_zero]; rfl
  refine' take_atB 13 hA rfl (by kernel_rfl) (by kernel_rfl) (by kernel_rfl) (by kernel_rfl) (by kernel_rfl) (by rfl) (by rfl) hS ?_ ?_ ?_
  rotate_left 2
  · intro W hSW; go_simp; try with_reducible rfl
  · simp only [List.set_cons_succ, List.set_cons_zero]; rfl
  refine' take_atB 14 hA rfl (by kernel_rfl) (by kernel_rfl) (by kernel_rfl) (by kernel_rfl) (by kernel_rfl) (by rfl) (by rfl) hS ?_ ?_ ?_
  rotate_left 2
  · intro X hSX; have hc : X.cell? ⟨W.heap.size, 3, none⟩ = some (.int .u64 (a3 : Int)) := by { rw [cell_of_row _ _ _ _ _ _ (HRQ0.out.below hSX).tail.tail.head, HLa.out]; rfl }; go_simp; try with_reducible rfl
  · simp only [List.set_cons_succ, List.set_cons_zero]; rfl
  refine' take_atB 15 hA rfl (by kernel_rfl) (by kernel_rfl) (by kernel_rfl) (by kernel_rfl) (by kernel_rfl) (by rfl) (by rfl) hS ?_ ?_ ?_
  rotate_left 2
  · intro W hSW; go_simp; try with_reducible rfl
  · simp only [List.set_cons_succ, List.set_cons_zero]; rfl
  refine' take_atB 17 hA rfl (by kernel_rfl) (by kernel_rfl) (by kernel_rfl) (by kernel_rfl) (by kernel_rfl) (by rfl) (by rfl) hS ?_ ?_ ?_
  rotate_left 2
  · intro W hSW; go_simp; try with_reducible rfl
  · simp only [List.set_cons_succ, List.set_cons_zero]; rfl
  refine' take_atB 18 hA rfl (by kernel_rfl) (by kernel_rfl) (by kernel_rfl) (by kernel_rfl) (by kernel_rfl) (by rfl) (by rfl) hS ?_ ?_ ?_
  rotate_left 2
  · intro X hSX; have hc : X.cell? ⟨W.heap.size, 4, none⟩ = some (.int .u64 (a4 : Int)) := by { rw [cell_of_row _ _ _ _ _ _ (HRQ0.out.below hSX).tail.tail.head, HLa.out]; rfl }; go_simp; try with_reducible rfl
  · simp only [List.set_cons_succ, List.set_cons_zero]; rfl
  refine' take_atB 19 hA rfl (by kernel_rfl) (by kernel_rfl) (by kernel_rfl) (by kernel_rfl) (by kernel_rfl) (by rfl) (by rfl) hS ?_ ?_ ?_
  rotate_left 2
  · intro W hSW; go_simp; try with_reducible rfl
  · simp only [List.set_cons_succ, List.set_cons_zero]; rfl
  refine call_atB 4 hA rfl (by kernel_rfl) (by kernel_rfl) (by kernel_rfl) (by kernel_rfl) (by rfl) (by rfl) hS (fun ok0 Wk0 hS K hK => ?_)
  go_simp
  with_reducible refine (H0_0.out Wk0).mono ?_
  rintro e uk0 ⟨rfl, hbk0⟩
  refine hK.out _ _ hbk0 (fun hS => ?_)
  clear hK K hbk0
  refine call_atB 8 hA rfl (by kernel_rfl) (by kernel_rfl) (by kernel_rfl) (by kernel_rfl) (by rfl) (by rfl) hS (fun ok0 Wk0 hS K hK => ?_)
  go_simp
  with_reducible refine (H0_1.out Wk0).mono ?_
  rintro e uk0 ⟨rfl, hbk0⟩
  refine hK.out _ _ hbk0 (fun hS => ?_)
  clear hK K hbk0
  refine call_atB 12 hA rfl (by kernel_rfl) (by kernel_rfl) (by kernel_rfl) (by kernel_rfl) (by rfl) (by rfl) hS (fun ok0 Wk0 hS K hK => ?_)
  go_simp
  with_reducible refine (H0_2.out Wk0).mono ?_
  rintro e uk0 ⟨rfl, hbk0⟩
  refine hK.out _ _ hbk0 (fun hS => ?_)
  clear hK K hbk0
  refine call_atB 16 hA rfl (by kernel_rfl) (by kernel_rfl) (by kernel_rfl) (by kernel_rfl) (by rfl) (by rfl) hS (fun ok0 Wk0 hS K hK => ?_)
  go_simp
  with_reducible refine (H0_3.out Wk0).mono ?_
  rintro e uk0 ⟨rfl, hbk0⟩
  refine hK.out _ _ hbk0 (fun hS => ?_)
  clear hK K hbk0
  refine call_atB 20 hA rfl (by kernel_rfl) (by kernel_rfl) (by kernel_rfl) (by kernel_rfl) (by rfl) (by rfl) hS (fun ok0 Wk0 hS K hK => ?_)
  go_simp
  with_reducible refine (H0_4.out Wk0).mono ?_
  rintro e uk0 ⟨rfl, hbk0⟩
  refine hK.out _ _ hbk0 (fun hS => ?_)
  clear hK K hbk0
  refine' store_atB 22 hA rfl (by kernel_rfl) (by kernel_rfl) (by kernel_rfl) hS (by kernel_rfl) rfl (by intro h; cases h) i0 sz0 on0 ?_ ?_
  rotate_left 1
  · intro g; simp only [List.set_cons_succ, List.set_cons_zero]; rfl
  intro gk0 Wk0 hgk0 hbk0 hrowk0
  clear hA hS
  refine wpAnyH_done (by kernel_rfl) ?_ _
  refine NoPanic.normal ?_
  (try simp only [Act.put])
  have HRk0 : Hid (RowsW Wk0 [(gk0, V0, 92), (W.heap.size + 1 + 1, #[.int .u64 0, .int .u64 0, .int .u64 0, .int .u64 0, .int .u64 0], 26), (W.heap.size + 1, Lb, 26), (W.heap.size, La, 26)]) := Lib.hid ⟨hrowk0, HRQ0.out.below hbk0⟩
  have HBk0 := Lib.hid (below_next HBQ0.out hbk0)
  clear hgk0 hbk0 hrowk0
  go_upto_region 3 with fail
  refine wp_region_noPanic ?_
  refine wp_region_heldB 22 10 92 #[.int .u64 0, .int .u64 0] (by kernel_rfl) (by kernel_rfl) ⟨by kernel_rfl, by kernel_rfl, hzw, fun _ _ _ h => h⟩ (fun hA hS => ?_)
  refine' take_atB 0 hA rfl (by kernel_rfl) (by kernel_rfl) (by kernel_rfl) (by kernel_rfl) (by kernel_rfl) (by rfl) (by rfl) hS ?_ ?_ ?_
  rotate_left 2
  · intro W hSW; go_simp; try with_reducible rfl
  · simp only [List.set_cons_succ, List.set_cons_zero]; rfl
  refine' take_atB 1 hA rfl (by kernel_rfl) (by kernel_rfl) (by kernel_rfl) (by kernel_rfl) (by kernel_rfl) (by rfl) (by rfl) hS ?_ ?_ ?_
  rotate_left 2
  · intro X hSX; have hc : X.cell? ⟨W.heap.size, 0, none⟩ = some (.int .u64 (a0 : Int)) := by { rw [cell_of_row _ _ _ _ _ _ (HRk0.out.below hSX).tail.tail.tail.head, HLa.out]; rfl }; go_simp; try with_reducible rfl
  · simp only [List.set_cons_succ, List.set_cons_zero]; rfl
  refine' take_atB 2 hA rfl (by kernel_rfl) (by kernel_rfl) (by kernel_rfl) (by kernel_rfl) (by kernel_rfl) (by rfl) (by rfl) hS ?_ ?_ ?_
  rotate_left 2
  · intro W hSW; go_simp; try with_reducible rfl
  · simp only [List.set_cons_succ, List.set_cons_zero]; rfl
  refine' take_atB 3 hA rfl (by kernel_rfl) (by kernel_rfl) (by kernel_rfl) (by kernel_rfl) (by kernel_rfl) (by rfl) (by rfl) hS ?_ ?_ ?_
  rotate_left 2
  · intro X hSX; have hc : X.cell? ⟨W.heap.size + 1, 1, none⟩ = some (.int .u64 (b1 : Int)) := by { rw [cell_of_row _ _ _ _ _ _ (HRk0.out.below hSX).tail.tail.head, HLb.out]; rfl }; go_simp; try with_reducible rfl
  · simp only [List.set_cons_succ, List.set_cons_zero]; rfl
  refine' take_atB 5 hA rfl (by kernel_rfl) (by kernel_rfl) (by kernel_rfl) (by kernel_rfl) (by kernel_rfl) (by rfl) (by rfl) hS ?_ ?_ ?_
  rotate_left 2
  · intro W hSW; go_simp; try with_reducible rfl
  · simp only [List.set_cons_succ, List.set_cons_zero]; rfl
  refine' take_atB 6 hA rfl (by kernel_rfl) (by kernel_rfl) (by kernel_rfl) (by kernel_rfl) (by kernel_rfl) (by rfl) (by rfl) hS ?_ ?_ ?_
  rotate_left 2
  · intro X hSX; have hc : X.cell? ⟨W.heap.size, 1, none⟩ = some (.int .u64 (a1 : Int)) := by { rw [cell_of_row _ _ _ _ _ _ (HRk0.out.below hSX).tail.tail.tail.head, HLa.out]; rfl }; go_simp; try with_reducible rfl
  · simp only [List.set_cons_succ, List.set_cons_zero]; rfl
  refine' take_atB 7 hA rfl (by kernel_rfl) (by kernel_rfl) (by kernel_rfl) (by kernel_rfl) (by kernel_rfl) (by rfl) (by rfl) hS ?_ ?_ ?_
  rotate_left 2
  · intro W hSW; go_simp; try with_reducible rfl
  · simp only [List.set_cons_succ, List.set_cons_zero]; rfl
  refine' take_atB 8 hA rfl (by kernel_rfl) (by kernel_rfl) (by kernel_rfl) (by kernel_rfl) (by kernel_rfl) (by rfl) (by rfl) hS ?_ ?_ ?_
  rotate_left 2
  · intro X hSX; have hc : X.cell? ⟨W.heap.size + 1, 0, none⟩ = some (.int .u64 (b0 : Int)) := by { rw [cell_of_row _ _ _ _ _ _ (HRk0.out.below hSX).tail.tail.head, HLb.out]; rfl }; go_simp; try with_reducible rfl
  · simp only [List.set_cons_succ, List.set_cons_zero]; rfl
  refine' take_atB 10 hA rfl (by kernel_rfl) (by kernel_rfl) (by kernel_rfl) (by kernel_rfl) (by kernel_rfl) (by rfl) (by rfl) hS ?_ ?_ ?_
  rotate_left 2
  · intro W hSW; go_simp; try with_reducible rfl
  · simp only [List.set_cons_succ, List.set_cons_zero]; rfl
  refine' take_atB 11 hA rfl (by kernel_rfl) (by kernel_rfl) (by kernel_rfl) (by kernel_rfl) (by kernel_rfl) (by rfl) (by rfl) hS ?_ ?_ ?_
  rotate_left 2
  · intro X hSX; have hc : X.cell? ⟨W.heap.size, 2, none⟩ = some (.int .u64 (a2 : Int)) := by { rw [cell_of_row _ _ _ _ _ _ (HRk0.out.below hSX).tail.tail.tail.head, HLa.out]; rfl }; go_simp; try with_reducible rfl
  · simp only [List.set_cons_succ, List.set_cons_zero]; rfl
  refine' take_atB 12 hA rfl (by kernel_rfl) (by kernel_rfl) (by kernel_rfl) (by kernel_rfl) (by kernel_rfl) (by rfl) (by rfl) hS ?_ ?_ ?_
  rotate_left 2
  · intro W hSW; go_simp; try with_reducible rfl
  · simp only [List.set_cons_succ, List.set_cons_zero]; rfl
  refine' take_atB 14 hA rfl (by kernel_rfl) (by kernel_rfl) (by kernel_rfl) (by kernel_rfl) (by kernel_rfl) (by rfl) (by rfl) hS ?_ ?_ ?_
  rotate_left 2
  · intro W hSW; go_simp; try with_reducible rfl
  · simp only [List.set_cons_succ, List.set_cons_zero]; rfl
  refine' take_atB 15 hA rfl (by kernel_rfl) (by kernel_rfl) (by kernel_rfl) (by kernel_rfl) (by kernel_rfl) (by rfl) (by rfl) hS ?_ ?_ ?_
  rotate_left 2
  · intro X hSX; have hc : X.cell? ⟨W.heap.size, 3, none⟩ = some (.int .u64 (a3 : Int)) := by { rw [cell_of_row _ _ _ _ _ _ (HRk0.out.below hSX).tail.tail.tail.head, HLa.out]; rfl }; go_simp; try with_reducible rfl
  · simp only [List.set_cons_succ, List.set_cons_zero]; rfl
  refine' take_atB 16 hA rfl (by kernel_rfl) (by kernel_rfl) (by kernel_rfl) (by kernel_rfl) (by kernel_rfl) (by rfl) (by rfl) hS ?_ ?_ ?_
  rotate_left 2
  · intro W hSW; go_simp; try with_reducible rfl
  · simp only [List.set_cons_succ, List.set_cons_zero]; rfl
  refine' take_atB 18 hA rfl (by kernel_rfl) (by kernel_rfl) (by kernel_rfl) (by kernel_rfl) (by kernel_rfl) (by rfl) (by rfl) hS ?_ ?_ ?_
  rotate_left 2
  · intro W hSW; go_simp; try with_reducible rfl
  · simp only [List.set_cons_succ, List.set_cons_zero]; rfl
  refine' take_atB 19 hA rfl (by kernel_rfl) (by kernel_rfl) (by kernel_rfl) (by kernel_rfl) (by kernel_rfl) (by rfl) (by rfl) hS ?_ ?_ ?_
  rotate_left 2
  · intro X hSX; have hc : X.cell? ⟨W.heap.size, 4, none⟩ = some (.int .u64 (a4 : Int)) := by { rw [cell_of_row _ _ _ _ _ _ (HRk0.out.below hSX).tail.tail.tail.head, HLa.out]; rfl }; go_simp; try with_reducible rfl
  · simp only [List.set_cons_succ, List.set_cons_zero]; rfl
  refine' take_atB 20 hA rfl (by kernel_rfl) (by kernel_rfl) (by kernel_rfl) (by kernel_rfl) (by kernel_rfl) (by rfl) (by rfl) hS ?_ ?_ ?_
  rotate_left 2
  · intro W hSW; go_simp; try with_reducible rfl
  · simp only [List.set_cons_succ, List.set_cons_zero]; rfl
  refine call_atB 4 hA rfl (by kernel_rfl) (by kernel_rfl) (by kernel_rfl) (by kernel_rfl) (by rfl) (by rfl) hS (fun ok1 Wk1 hS K hK => ?_)
  go_simp
  with_reducible refine (H1_0.out Wk1).mono ?_
  rintro e uk1 ⟨rfl, hbk1⟩
  refine hK.out _ _ hbk1 (fun hS => ?_)
  clear hK K hbk1
  refine call_atB 9 hA rfl (by kernel_rfl) (by kernel_rfl) (by kernel_rfl) (by kernel_rfl) (by rfl) (by rfl) hS (fun ok1 Wk1 hS K hK => ?_)
  go_simp
  with_reducible refine (H1_1.out Wk1).mono ?_
  rintro e uk1 ⟨rfl, hbk1⟩
  refine hK.out _ _ hbk1 (fun hS => ?_)
  clear hK K hbk1
  refine call_atB 13 hA rfl (by kernel_rfl) (by kernel_rfl) (by kernel_rfl) (by kernel_rfl) (by rfl) (by rfl) hS (fun ok1 Wk1 hS K hK => ?_)
  go_simp
  with_reducible refine (H1_2.out Wk1).mono ?_
  rintro e uk1 ⟨rfl, hbk1⟩
  refine hK.out _ _ hbk1 (fun hS => ?_)
  clear hK K hbk1
  refine call_atB 17 hA rfl (by kernel_rfl) (by kernel_rfl) (by kernel_rfl) (by kernel_rfl) (by rfl) (by rfl) hS (fun ok1 Wk1 hS K hK => ?_)
  go_simp
  with_reducible refine (H1_3.out Wk1).mono ?_
  rintro e uk1 ⟨rfl, hbk1⟩
  refine hK.out _ _ hbk1 (fun hS => ?_)
  clear hK K hbk1
  refine call_atB 21 hA rfl (by kernel_rfl) (by kernel_rfl) (by kernel_rfl) (by kernel_rfl) (by rfl) (by rfl) hS (fun ok1 Wk1 hS K hK => ?_)
  go_simp
  with_reducible refine (H1_4.out Wk1).mono ?_
  rintro e uk1 ⟨rfl, hbk1⟩
  refine hK.out _ _ hbk1 (fun hS => ?_)
  clear hK K hbk1
  refine' store_atB 23 hA rfl (by kernel_rfl) (by kernel_rfl) (by kernel_rfl) hS (by kernel_rfl) rfl (by intro h; cases h) i1 sz1 on1 ?_ ?_
  rotate_left 1
  · intro g; simp only [List.set_cons_succ, List.set_cons_zero]; rfl
  intro gk1 Wk1 hgk1 hbk1 hrowk1
  clear hA hS
  refine wpAnyH_done (by kernel_rfl) ?_ _
  refine NoPanic.normal ?_
  (try simp only [Act.put])
  have HRk1 : Hid (RowsW Wk1 [(gk1, V1, 92), (gk0, V0, 92), (W.heap.size + 1 + 1, #[.int .u64 0, .int .u64 0, .int .u64 0, .int .u64 0, .int .u64 0], 26), (W.heap.size + 1, Lb, 26), (W.heap.size, La, 26)]) := Lib.hid ⟨hrowk1, HRk0.out.below hbk1⟩
  have HBk1 := Lib.hid (below_next HBk0.out hbk1)
  clear hgk1 hbk1 hrowk1
  go_upto_region 4 with fail
  refine wp_region_noPanic ?_
  refine wp_region_heldB 23 11 92 #[.int .u64 0, .int .u64 0] (by kernel_rfl) (by kernel_rfl) ⟨by kernel_rfl, by kernel_rfl, hzw, fun _ _ _ h => h⟩ (fun hA hS => ?_)
  refine' take_atB 0 hA rfl (by kernel_rfl) (by kernel_rfl) (by kernel_rfl) (by kernel_rfl) (by kernel_rfl) (by rfl) (by rfl) hS ?_ ?_ ?_
  rotate_left 2
  · intro W hSW; go_simp; try with_reducible rfl
  · simp only [List.set_cons_succ, List.set_cons_zero]; rfl
  refine' take_atB 1 hA rfl (by kernel_rfl) (by kernel_rfl) (by kernel_rfl) (by kernel_rfl) (by kernel_rfl) (by rfl) (by rfl) hS ?_ ?_ ?_
  rotate_left 2
  · intro X hSX; have hc : X.cell? ⟨W.heap.size, 0, none⟩ = some (.int .u64 (a0 : Int)) := by { rw [cell_of_row _ _ _ _ _ _ (HRk1.out.below hSX).tail.tail.tail.tail.head, HLa.out]; rfl }; go_simp; try with_reducible rfl
  · simp only [List.set_cons_succ, List.set_cons_zero]; rfl
  refine' take_atB 2 hA rfl (by kernel_rfl) (by kernel_rfl) (by kernel_rfl) (by kernel_rfl) (by kernel_rfl) (by rfl) (by rfl) hS ?_ ?_ ?_
  rotate_left 2
  · intro W hSW; go_simp; try with_reducible rfl
  · simp only [List.set_cons_succ, List.set_cons_zero]; rfl
  refine' take_atB 3 hA rfl (by kernel_rfl) (by kernel_rfl) (by kernel_rfl) (by kernel_rfl) (by kernel_rfl) (by rfl) (by rfl) hS ?_ ?_ ?_
  rotate_left 2
  · intro X hSX; have hc : X.cell? ⟨W.heap.size + 1, 2, none⟩ = some (.int .u64 (b2 : Int)) := by { rw [cell_of_row _ _ _ _ _ _ (HRk1.out.below hSX).tail.tail.tail.head, HLb.out]; rfl }; go_simp; try with_reducible rfl
  · simp only [List.set_cons_succ, List.set_cons_zero]; rfl
  refine' take_atB 5 hA rfl (by kernel_rfl) (by kernel_rfl) (by kernel_rfl) (by kernel_rfl) (by kernel_rfl) (by rfl) (by rfl) hS ?_ ?_ ?_
  rotate_left 2
  · intro W hSW; go_simp; try with_reducible rfl
  · simp only [List.set_cons_succ, List.set_cons_zero]; rfl
  refine' take_atB 6 hA rfl (by kernel_rfl) (by kernel_rfl) (by kernel_rfl) (by kernel_rfl) (by kernel_rfl) (by rfl) (by rfl) hS ?_ ?_ ?_
  rotate_left 2
  · intro X hSX; have hc : X.cell? ⟨W.heap.size, 1, none⟩ = some (.int .u64 (a1 : Int)) := by { rw [cell_of_row _ _ _ _ _ _ (HRk1.out.below hSX).tail.tail.tail.tail.head, HLa.out]; rfl }; go_simp; try with_reducible rfl
  · simp only [List.set_cons_succ, List.set_cons_zero]; rfl
  refine' take_atB 7 hA rfl (by kernel_rfl) (by kernel_rfl) (by kernel_rfl) (by kernel_rfl) (by kernel_rfl) (by rfl) (by rfl) hS ?_ ?_ ?_
  rotate_left 2
  · intro W hSW; go_simp; try with_reducible rfl
  · simp only [List.set_cons_succ, List.set_cons_zero]; rfl
  refine' take_atB 8 hA rfl (by kernel_rfl) (by kernel_rfl) (by kernel_rfl) (by kernel_rfl) (by kernel_rfl) (by rfl) (by rfl) hS ?_ ?_ ?_
  rotate_left 2
  · intro X hSX; have hc : X.cell? ⟨W.heap.size + 1, 1, none⟩ = some (.int .u64 (b1 : Int)) := by { rw [cell_of_row _ _ _ _ _ _ (HRk1.out.below hSX).tail.tail.tail.head, HLb.out]; rfl }; go_simp; try with_reducible rfl
  · simp only [List.set_cons_succ, List.set_cons_zero]; rfl
  refine' take_atB 10 hA rfl (by kernel_rfl) (by kernel_rfl) (by kernel_rfl) (by kernel_rfl) (by kernel_rfl) (by rfl) (by rfl) hS ?_ ?_ ?_
  rotate_left 2
  · intro W hSW; go_simp; try with_reducible rfl
  · simp only [List.set_cons_succ, List.set_cons_zero]; rfl
  refine' take_atB 11 hA rfl (by kernel_rfl) (by kernel_rfl) (by kernel_rfl) (by kernel_rfl) (by kernel_rfl) (by rfl) (by rfl) hS ?_ ?_ ?_
  rotate_left 2
  · intro X hSX; have hc : X.cell? ⟨W.heap.size, 2, none⟩ = some (.int .u64 (a2 : Int)) := by { rw [cell_of_row _ _ _ _ _ _ (HRk1.out.below hSX).tail.tail.tail.tail.head, HLa.out]; rfl }; go_simp; try with_reducible rfl
  · simp only [List.set_cons_succ, List.set_cons_zero]; rfl
  refine' take_atB 12 hA rfl (by kernel_rfl) (by kernel_rfl) (by kernel_rfl) (by kernel_rfl) (by kernel_rfl) (by rfl) (by rfl) hS ?_ ?_ ?_
  rotate_left 2
  · intro W hSW; go_simp; try with_reducible rfl
  · simp only [List.set_cons_succ, List.set_cons_zero]; rfl
  refine' take_atB 13 hA rfl (by kernel_rfl) (by kernel_rfl) (by kernel_rfl) (by kernel_rfl) (by kernel_rfl) (by rfl) (by rfl) hS ?_ ?_ ?_
  rotate_left 2
  · intro X hSX; have hc : X.cell? ⟨W.heap.size + 1, 0, none⟩ = some (.int .u64 (b0 : Int)) := by { rw [cell_of_row _ _ _ _ _ _ (HRk1.out.below hSX).tail.tail.tail.head, HLb.out]; rfl }; go_simp; try with_reducible rfl
  · simp only [List.set_cons_succ, List.set_cons_zero]; rfl
  refine' take_atB 15 hA rfl (by kernel_rfl) (by kernel_rfl) (by kernel_rfl) (by kernel_rfl) (by kernel_rfl) (by rfl) (by rfl) hS ?_ ?_ ?_
  rotate_left 2
  · intro W hSW; go_simp; try with_reducible rfl
  · simp only [List.set_cons_succ, List.set_cons_zero]; rfl
  refine' take_atB 16 hA rfl (by kernel_rfl) (by kernel_rfl) (by kernel_rfl) (by kernel_rfl) (by kernel_rfl) (by rfl) (by rfl) hS ?_ ?_ ?_
  rotate_left 2
  · intro X hSX; have hc : X.cell? ⟨W.heap.size, 3, none⟩ = some (.int .u64 (a3 : Int)) := by { rw [cell_of_row _ _ _ _ _ _ (HRk1.out.below hSX).tail.tail.tail.tail.head, HLa.out]; rfl }; go_simp; try with_reducible rfl
  · simp only [List.set_cons_succ, List.set_cons_zero]; rfl
  refine' take_atB 17 hA rfl (by kernel_rfl) (by kernel_rfl) (by kernel_rfl) (by kernel_rfl) (by kernel_rfl) (by rfl) (by rfl) hS ?_ ?_ ?_
  rotate_left 2
  · intro W hSW; go_simp; try with_reducible rfl
  · simp only [List.set_cons_succ, List.set_cons_zero]; rfl
  refine' take_atB 19 hA rfl (by kernel_rfl) (by kernel_rfl) (by kernel_rfl) (by kernel_rfl) (by kernel_rfl) (by rfl) (by rfl) hS ?_ ?_ ?_
  rotate_left 2
  · intro W hSW; go_simp; try with_reducible rfl
  · simp only [List.set_cons_succ, List.set_cons_zero]; rfl
  refine' take_atB 20 hA rfl (by kernel_rfl) (by kernel_rfl) (by kernel_rfl) (by kernel_rfl) (by kernel_rfl) (by rfl) (by rfl) hS ?_ ?_ ?_
  rotate_left 2
  · intro X hSX; have hc : X.cell? ⟨W.heap.size, 4, none⟩ = some (.int .u64 (a4 : Int)) := by { rw [cell_of_row _ _ _ _ _ _ (HRk1.out.below hSX).tail.tail.tail.tail.head, HLa.out]; rfl }; go_simp; try with_reducible rfl
  · simp only [List.set_cons_succ, List.set_cons_zero]; rfl
  refine' take_atB 21 hA rfl (by kernel_rfl) (by kernel_rfl) (by kernel_rfl) (by kernel_rfl) (by kernel_rfl) (by rfl) (by rfl) hS ?_ ?_ ?_
  rotate_left 2
  · intro W hSW; go_simp; try with_reducible rfl
  · simp only [List.set_cons_succ, List.set_cons_zero]; rfl
  refine call_atB 4 hA rfl (by kernel_rfl) (by kernel_rfl) (by kernel_rfl) (by kernel_rfl) (by rfl) (by rfl) hS (fun ok2 Wk2 hS K hK => ?_)
  go_simp
  with_reducible refine (H2_0.out Wk2).mono ?_
  rintro e uk2 ⟨rfl, hbk2⟩
  refine hK.out _ _ hbk2 (fun hS => ?_)
  clear hK K hbk2
  refine call_atB 9 hA rfl (by kernel_rfl) (by kernel_rfl) (by kernel_rfl) (by kernel_rfl) (by rfl) (by rfl) hS (fun ok2 Wk2 hS K hK => ?_)
  go_simp
  with_reducible refine (H2_1.out Wk2).mono ?_
  rintro e uk2 ⟨rfl, hbk2⟩
  refine hK.out _ _ hbk2 (fun hS => ?_)
  clear hK K hbk2
  refine call_atB 14 hA rfl (by kernel_rfl) (by kernel_rfl) (by kernel_rfl) (by kernel_rfl) (by rfl) (by rfl) hS (fun ok2 Wk2 hS K hK => ?_)
  go_simp
  with_reducible refine (H2_2.out Wk2).mono ?_
  rintro e uk2 ⟨rfl, hbk2⟩
  refine hK.out _ _ hbk2 (fun hS => ?_)
  clear hK K hbk2
  refine call_atB 18 hA rfl (by kernel_rfl) (by kernel_rfl) (by kernel_rfl) (by kernel_rfl) (by rfl) (by rfl) hS (fun ok2 Wk2 hS K hK => ?_)
  go_simp
  with_reducible refine (H2_3.out Wk2).mono ?_
  rintro e uk2 ⟨rfl, hbk2⟩
  refine hK.out _ _ hbk2 (fun hS => ?_)
  clear hK K hbk2
  refine call_atB 22 hA rfl (by kernel_rfl) (by kernel_rfl) (by kernel_rfl) (by kernel_rfl) (by rfl) (by rfl) hS (fun ok2 Wk2 hS K hK => ?_)
  go_simp
  with_reducible refine (H2_4.out Wk2).mono ?_
  rintro e uk2 ⟨rfl, hbk2⟩
  refine hK.out _ _ hbk2 (fun hS => ?_)
  clear hK K hbk2
  refine' store_atB 24 hA rfl (by kernel_rfl) (by kernel_rfl) (by kernel_rfl) hS (by kernel_rfl) rfl (by intro h; cases h) i2 sz2 on2 ?_ ?_
  rotate_left 1
  · intro g; simp only [List.set_cons_succ, List.set_cons_zero]; rfl
  intro gk2 Wk2 hgk2 hbk2 hrowk2
  clear hA hS
  refine wpAnyH_done (by kernel_rfl) ?_ _
  refine NoPanic.normal ?_
  (try simp only [Act.put])
  have HRk2 : Hid (RowsW Wk2 [(gk2, V2, 92), (gk1, V1, 92), (gk0, V0, 92), (W.heap.size + 1 + 1, #[.int .u64 0, .int .u64 0, .int .u64 0, .int .u64 0, .int .u64 0], 26), (W.heap.size + 1, Lb, 26), (W.heap.size, La, 26)]) := Lib.hid ⟨hrowk2, HRk1.out.below hbk2⟩
  have HBk2 := Lib.hid (below_next HBk1.out hbk2)
  clear hgk2 hbk2 hrowk2
  go_upto_region 5 with fail
  refine wp_region_noPanic ?_
  refine wp_region_heldB 24 12 92 #[.int .u64 0, .int .u64 0] (by kernel_rfl) (by kernel_rfl) ⟨by kernel_rfl, by kernel_rfl, hzw, fun _ _ _ h => h⟩ (fun hA hS => ?_)
  refine' take_atB 0 hA rfl (by kernel_rfl) (by kernel_rfl) (by kernel_rfl) (by kernel_rfl) (by kernel_rfl) (by rfl) (by rfl) hS ?_ ?_ ?_
  rotate_left 2
  · intro W hSW; go_simp; try with_reducible rfl
  · simp only [List.set_cons_succ, List.set_cons_zero]; rfl
  refine' take_atB 1 hA rfl (by kernel_rfl) (by kernel_rfl) (by kernel_rfl) (by kernel_rfl) (by kernel_rfl) (by rfl) (by rfl) hS ?_ ?_ ?_
  rotate_left 2
  · intro X hSX; have hc : X.cell? ⟨W.heap.size, 0, none⟩ = some (.int .u64 (a0 : Int)) := by { rw [cell_of_row _ _ _ _ _ _ (HRk2.out.below hSX).tail.tail.tail.tail.tail.head, HLa.out]; rfl }; go_simp; try with_reducible rfl
  · simp only [List.set_cons_succ, List.set_cons_zero]; rfl
  refine' take_atB 2 hA rfl (by kernel_rfl) (by kernel_rfl) (by kernel_rfl) (by kernel_rfl) (by kernel_rfl) (by rfl) (by rfl) hS ?_ ?_ ?_
  rotate_left 2
  · intro W hSW; go_simp; try with_reducible rfl
  · simp only [List.set_cons_succ, List.set_cons_zero]; rfl
  refine' take_atB 3 hA rfl (by kernel_rfl) (by kernel_rfl) (by kernel_rfl) (by kernel_rfl) (by kernel_rfl) (by rfl) (by rfl) hS ?_ ?_ ?_
  rotate_left 2
  · intro X hSX; have hc : X.cell? ⟨W.heap.size + 1, 3, none⟩ = some (.int .u64 (b3 : Int)) := by { rw [cell_of_row _ _ _ _ _ _ (HRk2.out.below hSX).tail.tail.tail.tail.head, HLb.out]; rfl }; go_simp; try with_reducible rfl
  · simp only [List.set_cons_succ, List.set_cons_zero]; rfl
  refine' take_atB 5 hA rfl (by kernel_rfl) (by kernel_rfl) (by kernel_rfl) (by kernel_rfl) (by kernel_rfl) (by rfl) (by rfl) hS ?_ ?_ ?_
  rotate_left 2
  · intro W hSW; go_simp; try with_reducible rfl
  · simp only [List.set_cons_succ, List.set_cons_zero]; rfl
  refine' take_atB 6 hA rfl (by kernel_rfl) (by kernel_rfl) (by kernel_rfl) (by kernel_rfl) (by kernel_rfl) (by rfl) (by rfl) hS ?_ ?_ ?_
  rotate_left 2
  · intro X hSX; have hc : X.cell? ⟨W.heap.size, 1, none⟩ = some (.int .u64 (a1 : Int)) := by { rw [cell_of_row _ _ _ _ _ _ (HRk2.out.below hSX).tail.tail.tail.tail.tail.head, HLa.out]; rfl }; go_simp; try with_reducible rfl
  · simp only [List.set_cons_succ, List.set_cons_zero]; rfl
  refine' take_atB 7 hA rfl (by kernel_rfl) (by kernel_rfl) (by kernel_rfl) (by kernel_rfl) (by kernel_rfl) (by rfl) (by rfl) hS ?_ ?_ ?_
  rotate_left 2
  · intro W hSW; go_simp; try with_reducible rfl
  · simp only [List.set_cons_succ, List.set_cons_zero]; rfl
  refine' take_atB 8 hA rfl (by kernel_rfl) (by kernel_rfl) (by kernel_rfl) (by kernel_rfl) (by kernel_rfl) (by rfl) (by rfl) hS ?_ ?_ ?_
  rotate_left 2
  · intro X hSX; have hc : X.cell? ⟨W.heap.size + 1, 2, none⟩ = some (.int .u64 (b2 : Int)) := by { rw [cell_of_row _ _ _ _ _ _ (HRk2.out.below hSX).tail.tail.tail.tail.head, HLb.out]; rfl }; go_simp; try with_reducible rfl
  · simp only [List.set_cons_succ, List.set_cons_zero]; rfl
  refine' take_atB 10 hA rfl (by kernel_rfl) (by kernel_rfl) (by kernel_rfl) (by kernel_rfl) (by kernel_rfl) (by rfl) (by rfl) hS ?_ ?_ ?_
  rotate_left 2
  · intro W hSW; go_simp; try with_reducible rfl
  · simp only [List.set_cons_succ, List.set_cons_zero]; rfl
  refine' take_atB 11 hA rfl (by kernel_rfl) (by kernel_rfl) (by kernel_rfl) (by kernel_rfl) (by kernel_rfl) (by rfl) (by rfl) hS ?_ ?_ ?_
  rotate_left 2
  · intro X hSX; have hc : X.cell? ⟨W.heap.size, 2, none⟩ = some (.int .u64 (a2 : Int)) := by { rw [cell_of_row _ _ _ _ _ _ (HRk2.out.below hSX).tail.tail.tail.tail.tail.head, HLa.out]; rfl }; go_simp; try with_reducible rfl
  · simp only [List.set_cons_succ, List.set_cons_zero]; rfl
  refine' take_atB 12 hA rfl (by kernel_rfl) (by kernel_rfl) (by kernel_rfl) (by kernel_rfl) (by kernel_rfl) (by rfl) (by rfl) hS ?_ ?_ ?_
  rotate_left 2
  · intro W hSW; go_simp; try with_reducible rfl
  · simp only [List.set_cons_succ, List.set_cons_zero]; rfl
  refine' take_atB 13 hA rfl (by kernel_rfl) (by kernel_rfl) (by kernel_rfl) (by kernel_rfl) (by kernel_rfl) (by rfl) (by rfl) hS ?_ ?_ ?_
  rotate_left 2
  · intro X hSX; have hc : X.cell? ⟨W.heap.size + 1, 1, none⟩ = some (.int .u64 (b1 : Int)) := by { rw [cell_of_row _ _ _ _ _ _ (HRk2.out.below hSX).tail.tail.tail.tail.head, HLb.out]; rfl }; go_simp; try with_reducible rfl
  · simp only [List.set_cons_succ, List.set_cons_zero]; rfl
  refine' take_atB 15 hA rfl (by kernel_rfl) (by kernel_rfl) (by kernel_rfl) (by kernel_rfl) (by kernel_rfl) (by rfl) (by rfl) hS ?_ ?_ ?_
  rotate_left 2
  · intro W hSW; go_simp; try with_reducible rfl
  · simp only [List.set_cons_succ, List.set_cons_zero]; rfl
  refine' take_atB 16 hA rfl (by kernel_rfl) (by kernel_rfl) (by kernel_rfl) (by kernel_rfl) (by kernel_rfl) (by rfl) (by rfl) hS ?_ ?_ ?_
  rotate_left 2
  · intro X hSX; have hc : X.cell? ⟨W.heap.size, 3, none⟩ = some (.int .u64 (a3 : Int)) := by { rw [cell_of_row _ _ _ _ _ _ (HRk2.out.below hSX).tail.tail.tail.tail.tail.head, HLa.out]; rfl }; go_simp; try with_reducible rfl
  · simp only [List.set_cons_succ, List.set_cons_zero]; rfl
  refine' take_atB 17 hA rfl (by kernel_rfl) (by kernel_rfl) (by kernel_rfl) (by kernel_rfl) (by kernel_rfl) (by rfl) (by rfl) hS ?_ ?_ ?_
  rotate_left 2
  · intro W hSW; go_simp; try with_reducible rfl
  · simp only [List.set_cons_succ, List.set_cons_zero]; rfl
  refine' take_atB 18 hA rfl (by kernel_rfl) (by kernel_rfl) (by kernel_rfl) (by kernel_rfl) (by kernel_rfl) (by rfl) (by rfl) hS ?_ ?_ ?_
  rotate_left 2
  · intro X hSX; have hc : X.cell? ⟨W.heap.size + 1, 0, none⟩ = some (.int .u64 (b0 : Int)) := by { rw [cell_of_row _ _ _ _ _ _ (HRk2.out.below hSX).tail.tail.tail.tail.head, HLb.out]; rfl }; go_simp; try with_reducible rfl
  · simp only [List.set_cons_succ, List.set_cons_zero]; rfl
  refine' take_atB 20 hA rfl (by kernel_rfl) (by kernel_rfl) (by kernel_rfl) (by kernel_rfl) (by kernel_rfl) (by rfl) (by rfl) hS ?_ ?_ ?_
  rotate_left 2
  · intro W hSW; go_simp; try with_reducible rfl
  · simp only [List.set_cons_succ, List.set_cons_zero]; rfl
  refine' take_atB 21 hA rfl (by kernel_rfl) (by kernel_rfl) (by kernel_rfl) (by kernel_rfl) (by kernel_rfl) (by rfl) (by rfl) hS ?_ ?_ ?_
  rotate_left 2
  · intro X hSX; have hc : X.cell? ⟨W.heap.size, 4, none⟩ = some (.int .u64 (a4 : Int)) := by { rw [cell_of_row _ _ _ _ _ _ (HRk2.out.below hSX).tail.tail.tail.tail.tail.head, HLa.out]; rfl }; go_simp; try with_reducible rfl
  · simp only [List.set_cons_succ, List.set_cons_zero]; rfl
  refine' take_atB 22 hA rfl (by kernel_rfl) (by kernel_rfl) (by kernel_rfl) (by kernel_rfl) (by kernel_rfl) (by rfl) (by rfl) hS ?_ ?_ ?_
  rotate_left 2
  · intro W hSW; go_simp; try with_reducible rfl
  · simp only [List.set_cons_succ, List.set_cons_zero]; rfl
  refine call_atB 4 hA rfl (by kernel_rfl) (by kernel_rfl) (by kernel_rfl) (by kernel_rfl) (by rfl) (by rfl) hS (fun ok3 Wk3 hS K hK => ?_)
  go_simp
  with_reducible refine (H3_0.out Wk3).mono ?_
  rintro e uk3 ⟨rfl, hbk3⟩
  refine hK.out _ _ hbk3 (fun hS => ?_)
  clear hK K hbk3
  refine call_atB 9 hA rfl (by kernel_rfl) (by kernel_rfl) (by kernel_rfl) (by kernel_rfl) (by rfl) (by rfl) hS (fun ok3 Wk3 hS K hK => ?_)
  go_simp
  with_reducible refine (H3_1.out Wk3).mono ?_
  rintro e uk3 ⟨rfl, hbk3⟩
  refine hK.out _ _ hbk3 (fun hS => ?_)
  clear hK K hbk3
  refine call_atB 14 hA rfl (by kernel_rfl) (by kernel_rfl) (by kernel_rfl) (by kernel_rfl) (by rfl) (by rfl) hS (fun ok3 Wk3 hS K hK => ?_)
  go_simp
  with_reducible refine (H3_2.out Wk3).mono ?_
  rintro e uk3 ⟨rfl, hbk3⟩
  refine hK.out _ _ hbk3 (fun hS => ?_)
  clear hK K hbk3
  refine call_atB 19 hA rfl (by kernel_rfl) (by kernel_rfl) (by kernel_rfl) (by kernel_rfl) (by rfl) (by rfl) hS (fun ok3 Wk3 hS K hK => ?_)
  go_simp
  with_reducible refine (H3_3.out Wk3).mono ?_
  rintro e uk3 ⟨rfl, hbk3⟩
  refine hK.out _ _ hbk3 (fun hS => ?_)
  clear hK K hbk3
  refine call_atB 23 hA rfl (by kernel_rfl) (by kernel_rfl) (by kernel_rfl) (by kernel_rfl) (by rfl) (by rfl) hS (fun ok3 Wk3 hS K hK => ?_)
  go_simp
  with_reducible refine (H3_4.out Wk3).mono ?_
  rintro e uk3 ⟨rfl, hbk3⟩
  refine hK.out _ _ hbk3 (fun hS => ?_)
  clear hK K hbk3
  refine' store_atB 25 hA rfl (by kernel_rfl) (by kernel_rfl) (by kernel_rfl) hS (by kernel_rfl) rfl (by intro h; cases h) i3 sz3 on3 ?_ ?_
  rotate_left 1
  · intro g; simp only [List.set_cons_succ, List.set_cons_zero]; rfl
  intro gk3 Wk3 hgk3 hbk3 hrowk3
  clear hA hS
  refine wpAnyH_done (by kernel_rfl) ?_ _
  refine NoPanic.normal ?_
  (try simp only [Act.put])
  have HRk3 : Hid (RowsW Wk3 [(gk3, V3, 92), (gk2, V2, 92), (gk1, V1, 92), (gk0, V0, 92), (W.heap.size + 1 + 1, #[.int .u64 0, .int .u64 0, .int .u64 0, .int .u64 0, .int .u64 0], 26), (W.heap.size + 1, Lb, 26), (W.heap.size, La, 26)]) := Lib.hid ⟨hrowk3, HRk2.out.below hbk3⟩
  have HBk3 := Lib.hid (below_next HBk2.out hbk3)
  clear hgk3 hbk3 hrowk3
  go_upto_region 6 with fail
  refine wp_region_noPanic ?_
  refine wp_region_heldB 25 13 92 #[.int .u64 0, .int .u64 0] (by kernel_rfl) (by kernel_rfl) ⟨by kernel_rfl, by kernel_rfl, hzw, fun _ _ _ h => h⟩ (fun hA hS => ?_)
  refine' take_atB 0 hA rfl (by kernel_rfl) (by kernel_rfl) (by kernel_rfl) (by kernel_rfl) (by kernel_rfl) (by rfl) (by rfl) hS ?_ ?_ ?_
  rotate_left 2
  · intro W hSW; go_simp; try with_reducible rfl
  · simp only [List.set_cons_succ, List.set_cons_zero]; rfl
  refine' take_atB 1 hA rfl (by kernel_rfl) (by kernel_rfl) (by kernel_rfl) (by kernel_rfl) (by kernel_rfl) (by rfl) (by rfl) hS ?_ ?_ ?_
  rotate_left 2
  · intro X hSX; have hc : X.cell? ⟨W.heap.size, 0, none⟩ = some (.int .u64 (a0 : Int)) := by { rw [cell_of_row _ _ _ _ _ _ (HRk3.out.below hSX).tail.tail.tail.tail.tail.tail.head, HLa.out]; rfl }; go_simp; try with_reducible rfl
  · simp only [List.set_cons_succ, List.set_cons_zero]; rfl
  refine' take_atB 2 hA rfl (by kernel_rfl) (by kernel_rfl) (by kernel_rfl) (by kernel_rfl) (by kernel_rfl) (by rfl) (by rfl) hS ?_ ?_ ?_
  rotate_left 2
  · intro W hSW; go_simp; try with_reducible rfl
  · simp only [List.set_cons_succ, List.set_cons_zero]; rfl
  refine' take_atB 3 hA rfl (by kernel_rfl) (by kernel_rfl) (by kernel_rfl) (by kernel_rfl) (by kernel_rfl) (by rfl) (by rfl) hS ?_ ?_ ?_
  rotate_left 2
  · intro X hSX; have hc : X.cell? ⟨W.heap.size + 1, 4, none⟩ = some (.int .u64 (b4 : Int)) := by { rw [cell_of_row _ _ _ _ _ _ (HRk3.out.below hSX).tail.tail.tail.tail.tail.head, HLb.out]; rfl }; go_simp; try with_reducible rfl
  · simp only [List.set_cons_succ, List.set_cons_zero]; rfl
  refine' take_atB 5 hA rfl (by kernel_rfl) (by kernel_rfl) (by kernel_rfl) (by kernel_rfl) (by kernel_rfl) (by rfl) (by rfl) hS ?_ ?_ ?_
  rotate_left 2
  · intro W hSW; go_simp; try with_reducible rfl
  · simp only [List.set_cons_succ, List.set_cons_zero]; rfl
  refine' take_atB 6 hA rfl (by kernel_rfl) (by kernel_rfl) (by kernel_rfl) (by kernel_rfl) (by kernel_rfl) (by rfl) (by rfl) hS ?_ ?_ ?_
  rotate_left 2
  · intro X hSX; have hc : X.cell? ⟨W.heap.size, 1, none⟩ = some (.int .u64 (a1 : Int)) := by { rw [cell_of_row _ _ _ _ _ _ (HRk3.out.below hSX).tail.tail.tail.tail.tail.tail.head, HLa.out]; rfl }; go_simp; try with_reducible rfl
  · simp only [List.set_cons_succ, List.set_cons_zero]; rfl
  refine' take_atB 7 hA rfl (by kernel_rfl) (by kernel_rfl) (by kernel_rfl) (by kernel_rfl) (by kernel_rfl) (by rfl) (by rfl) hS ?_ ?_ ?_
  rotate_left 2
  · intro W hSW; go_simp; try with_reducible rfl
  · simp only [List.set_cons_succ, List.set_cons_zero]; rfl
  refine' take_atB 8 hA rfl (by kernel_rfl) (by kernel_rfl) (by kernel_rfl) (by kernel_rfl) (by kernel_rfl) (by rfl) (by rfl) hS ?_ ?_ ?_
  rotate_left 2
  · intro X hSX; have hc : X.cell? ⟨W.heap.size + 1, 3, none⟩ = some (.int .u64 (b3 : Int)) := by { rw [cell_of_row _ _ _ _ _ _ (HRk3.out.below hSX).tail.tail.tail.tail.tail.head, HLb.out]; rfl }; go_simp; try with_reducible rfl
  · simp only [List.set_cons_succ, List.set_cons_zero]; rfl
  refine' take_atB 10 hA rfl (by kernel_rfl) (by kernel_rfl) (by kernel_rfl) (by kernel_rfl) (by kernel_rfl) (by rfl) (by rfl) hS ?_ ?_ ?_
  rotate_left 2
  · intro W hSW; go_simp; try with_reducible rfl
  · simp only [List.set_cons_succ, List.set_cons_zero]; rfl
  refine' take_atB 11 hA rfl (by kernel_rfl) (by kernel_rfl) (by kernel_rfl) (by kernel_rfl) (by kernel_rfl) (by rfl) (by rfl) hS ?_ ?_ ?_
  rotate_left 2
  · intro X hSX; have hc : X.cell? ⟨W.heap.size, 2, none⟩ = some (.int .u64 (a2 : Int)) := by { rw [cell_of_row _ _ _ _ _ _ (HRk3.out.below hSX).tail.tail.tail.tail.tail.tail.head, HLa.out]; rfl }; go_simp; try with_reducible rfl
  · simp only [List.set_cons_succ, List.set_cons_zero]; rfl
  refine' take_atB 12 hA rfl (by kernel_rfl) (by kernel_rfl) (by kernel_rfl) (by kernel_rfl) (by kernel_rfl) (by rfl) (by rfl) hS ?_ ?_ ?_
  rotate_left 2
  · intro W hSW; go_simp; try with_reducible rfl
  · simp only [List.set_cons_succ, List.set_cons_zero]; rfl
  refine' take_atB 13 hA rfl (by kernel_rfl) (by kernel_rfl) (by kernel_rfl) (by kernel_rfl) (by kernel_rfl) (by rfl) (by rfl) hS ?_ ?_ ?_
  rotate_left 2
  · intro X hSX; have hc : X.cell? ⟨W.heap.size + 1, 2, none⟩ = some (.int .u64 (b2 : Int)) := by { rw [cell_of_row _ _ _ _ _ _ (HRk3.out.below hSX).tail.tail.tail.tail.tail.head, HLb.out]; rfl }; go_simp; try with_reducible rfl
  · simp only [List.set_cons_succ, List.set_cons_zero]; rfl
  refine' take_atB 15 hA rfl (by kernel_rfl) (by kernel_rfl) (by kernel_rfl) (by kernel_rfl) (by kernel_rfl) (by rfl) (by rfl) hS ?_ ?_ ?_
  rotate_left 2
  · intro W hSW; go_simp; try with_reducible rfl
  · simp only [List.set_cons_succ, List.set_cons_zero]; rfl
  refine' take_atB 16 hA rfl (by kernel_rfl) (by kernel_rfl) (by kernel_rfl) (by kernel_rfl) (by kernel_rfl) (by rfl) (by rfl) hS ?_ ?_ ?_
  rotate_left 2
  · intro X hSX; have hc : X.cell? ⟨W.heap.size, 3, none⟩ = some (.int .u64 (a3 : Int)) := by { rw [cell_of_row _ _ _ _ _ _ (HRk3.out.below hSX).tail.tail.tail.tail.tail.tail.head, HLa.out]; rfl }; go_simp; try with_reducible rfl
  · simp only [List.set_cons_succ, List.set_cons_zero]; rfl
  refine' take_atB 17 hA rfl (by kernel_rfl) (by kernel_rfl) (by kernel_rfl) (by kernel_rfl) (by kernel_rfl) (by rfl) (by rfl) hS ?_ ?_ ?_
  rotate_left 2
  · intro W hSW; go_simp; try with_reducible rfl
  · simp only [List.set_cons_succ, List.set_cons_zero]; rfl
  refine' take_atB 18 hA rfl (by kernel_rfl) (by kernel_rfl) (by kernel_rfl) (by kernel_rfl) (by kernel_rfl) (by rfl) (by rfl) hS ?_ ?_ ?_
  rotate_left 2
  · intro X hSX; have hc : X.cell? ⟨W.heap.size + 1, 1, none⟩ = some (.int .u64 (b1 : Int)) := by { rw [cell_of_row _ _ _ _ _ _ (HRk3.out.below hSX).tail.tail.tail.tail.tail.head, HLb.out]; rfl }; go_simp; try with_reducible rfl
  · simp only [List.set_cons_succ, List.set_cons_zero]; rfl
  refine' take_atB 20 hA rfl (by kernel_rfl) (by kernel_rfl) (by kernel_rfl) (by kernel_rfl) (by kernel_rfl) (by rfl) (by rfl) hS ?_ ?_ ?_
  rotate_left 2
  · intro W hSW; go_simp; try with_reducible rfl
  · simp only [List.set_cons_succ, List.set_cons_zero]; rfl
  refine' take_atB 21 hA rfl (by kernel_rfl) (by kernel_rfl) (by kernel_rfl) (by kernel_rfl) (by kernel_rfl) (by rfl) (by rfl) hS ?_ ?_ ?_
  rotate_left 2
  · intro X hSX; have hc : X.cell? ⟨W.heap.size, 4, none⟩ = some (.int .u64 (a4 : Int)) := by { rw [cell_of_row _ _ _ _ _ _ (HRk3.out.below hSX).tail.tail.tail.tail.tail.tail.head, HLa.out]; rfl }; go_simp; try with_reducible rfl
  · simp only [List.set_cons_succ, List.set_cons_zero]; rfl
  refine' take_atB 22 hA rfl (by kernel_rfl) (by kernel_rfl) (by kernel_rfl) (by kernel_rfl) (by kernel_rfl) (by rfl) (by rfl) hS ?_ ?_ ?_
  rotate_left 2
  · intro W hSW; go_simp; try with_reducible rfl
  · simp only [List.set_cons_succ, List.set_cons_zero]; rfl
  refine' take_atB 23 hA rfl (by kernel_rfl) (by kernel_rfl) (by kernel_rfl) (by kernel_rfl) (by kernel_rfl) (by rfl) (by rfl) hS ?_ ?_ ?_
  rotate_left 2
  · intro X hSX; have hc : X.cell? ⟨W.heap.size + 1, 0, none⟩ = some (.int .u64 (b0 : Int)) := by { rw [cell_of_row _ _ _ _ _ _ (HRk3.out.below hSX).tail.tail.tail.tail.tail.head, HLb.out]; rfl }; go_simp; try with_reducible rfl
  · simp only [List.set_cons_succ, List.set_cons_zero]; rfl
  refine call_atB 4 hA rfl (by kernel_rfl) (by kernel_rfl) (by kernel_rfl) (by kernel_rfl) (by rfl) (by rfl) hS (fun ok4 Wk4 hS K hK => ?_)
  go_simp
  with_reducible refine (H4_0.out Wk4).mono ?_
  rintro e uk4 ⟨rfl, hbk4⟩
  refine hK.out _ _ hbk4 (fun hS => ?_)
  clear hK K hbk4
  refine call_atB 9 hA rfl (by kernel_rfl) (by kernel_rfl) (by kernel_rfl) (by kernel_rfl) (by rfl) (by rfl) hS (fun ok4 Wk4 hS K hK => ?_)
  go_simp
  with_reducible refine (H4_1.out Wk4).mono ?_
  rintro e uk4 ⟨rfl, hbk4⟩
  refine hK.out _ _ hbk4 (fun hS => ?_)
  clear hK K hbk4
  refine call_atB 14 hA rfl (by kernel_rfl) (by kernel_rfl) (by kernel_rfl) (by kernel_rfl) (by rfl) (by rfl) hS (fun ok4 Wk4 hS K hK => ?_)
  go_simp
  with_reducible refine (H4_2.out Wk4).mono ?_
  rintro e uk4 ⟨rfl, hbk4⟩
  refine hK.out _ _ hbk4 (fun hS => ?_)
  clear hK K hbk4
  refine call_atB 19 hA rfl (by kernel_rfl) (by kernel_rfl) (by kernel_rfl) (by kernel_rfl) (by rfl) (by rfl) hS (fun ok4 Wk4 hS K hK => ?_)
  go_simp
  with_reducible refine (H4_3.out Wk4).mono ?_
  rintro e uk4 ⟨rfl, hbk4⟩
  refine hK.out _ _ hbk4 (fun hS => ?_)
  clear hK K hbk4
  refine call_atB 24 hA rfl (by kernel_rfl) (by kernel_rfl) (by kernel_rfl) (by kernel_rfl) (by rfl) (by rfl) hS (fun ok4 Wk4 hS K hK => ?_)
  go_simp
  with_reducible refine (H4_4.out Wk4).mono ?_
  rintro e uk4 ⟨rfl, hbk4⟩
  refine hK.out _ _ hbk4 (fun hS => ?_)
  clear hK K hbk4
  refine' store_atB 26 hA rfl (by kernel_rfl) (by kernel_rfl) (by kernel_rfl) hS (by kernel_rfl) rfl (by intro h; cases h) i4 sz4 on4 ?_ ?_
  rotate_left 1
  · intro g; simp only [List.set_cons_succ, List.set_cons_zero]; rfl
  intro gk4 Wk4 hgk4 hbk4 hrowk4
  clear hA hS
  refine wpAnyH_done (by kernel_rfl) ?_ _
  refine NoPanic.normal ?_
  (try simp only [Act.put])
  have HRk4 : Hid (RowsW Wk4 [(gk4, V4, 92), (gk3, V3, 92), (gk2, V2, 92), (gk1, V1, 92), (gk0, V0, 92), (W.heap.size + 1 + 1, #[.int .u64 0, .int .u64 0, .int .u64 0, .int .u64 0, .int .u64 0], 26), (W.heap.size + 1, Lb, 26), (W.heap.size, La, 26)]) := Lib.hid ⟨hrowk4, HRk3.out.below hbk4⟩
  have HBk4 := Lib.hid (below_next HBk3.out hbk4)
  clear hgk4 hbk4 hrowk4
  go_upto_region 7 with fail
  have l0 := HRk4.out.tail.tail.tail.tail.head
  have l1 := HRk4.out.tail.tail.tail.head
  have l2 := HRk4.out.tail.tail.head
  have l3 := HRk4.out.tail.head
  have l4 := HRk4.out.head
  go_wp2_with (first | (refine wpList_runsV (o := ⟨some 141, _, _, _, _, _⟩) rfl (.agg V0) (run_loadR rfl rfl l0 Try.underlying92 rfl i0) ?_) | (refine wpList_runsV (o := ⟨some 142, _, _, _, _, _⟩) rfl (.agg V1) (run_loadR rfl rfl l1 Try.underlying92 rfl i1) ?_) | (refine wpList_runsV (o := ⟨some 143, _, _, _, _, _⟩) rfl (.agg V2) (run_loadR rfl rfl l2 Try.underlying92 rfl i2) ?_) | (refine wpList_runsV (o := ⟨some 144, _, _, _, _, _⟩) rfl (.agg V3) (run_loadR rfl rfl l3 Try.underlying92 rfl i3) ?_) | (refine wpList_runsV (o := ⟨some 145, _, _, _, _, _⟩) rfl (.agg V4) (run_loadR rfl rfl l4 Try.underlying92 rfl i4) ?_))
  with_reducible refine (HN.out _).mono ?_
  rintro e w2 ⟨S, rfl, hR, hb2⟩
  have hr2 := (HRk4.out.below hb2).tail.tail.tail.tail.tail.head
  have iS := feR_info hR
  have sS := feR_size hR
  have oS := feR_one hR
  have HP : Hid (∀ w', Below W.heap.size W w' → RetFe feR W nn (.returned (.agg S)) w') := Lib.hid fun w' hb => ⟨S, rfl, hR, hb⟩
  have HE : Hid (Below W.heap.size W (w2.setRow (W.heap.size + 1 + 1) S)) := Lib.hid (below_row (below_next HBk4.out hb2) (by omega))
  clear hb2 hR
  go_wp2_with (refine wpList_store_row rfl 26 (.tmp 4) (.tmp 146) rfl (W.heap.size + 1 + 1) S rfl rfl 26 #[.int .u64 0, .int .u64 0, .int .u64 0, .int .u64 0, .int .u64 0] hr2 iS sS oS ?_)
  (try simp only [Exit.inBlock, Exit.then])
  refine bodyPost_ret (results_cell_row rfl _ _ (W.heap.size + 1 + 1) _ S _ _ rfl (setRow_heap w2 _ _ _ _ _ hr2) Try.underlying26 rfl iS) rfl ?_
  exact HP.out _ HE.out
end Go.Proofs.Ytfejabfmhddepaa

namespace Go.Proofs.Ytfejabfmhddepaa
open Go.RowKit
set_option linter.unusedVariables false
set_option maxRecDepth 100000

theorem val5_square (a0 a1 a2 a3 a4 : Nat) : val5 (a0 * a0 + (2 * a1) * (19 * a4) + (2 * a2) * (19 * a3)) ((2 * a0) * a1 + (2 * a2) * (19 * a4) + a3 * (19 * a3)) ((2 * a0) * a2 + a1 * a1 + (2 * a3) * (19 * a4)) ((2 * a0) * a3 + (2 * a1) * a2 + a4 * (19 * a4)) ((2 * a0) * a4 + (2 * a1) * a3 + a2 * a2) % PP = (val5 a0 a1 a2 a3 a4 % PP * (val5 a0 a1 a2 a3 a4 % PP)) % PP := by
  rw [← val5_mul]
  have h0 : a0 * a0 + (2 * a1) * (19 * a4) + (2 * a2) * (19 * a3) = a0 * a0 + a1 * (19 * a4) + a2 * (19 * a3) + a3 * (19 * a2) + a4 * (19 * a1) := by grind
  have h1 : (2 * a0) * a1 + (2 * a2) * (19 * a4) + a3 * (19 * a3) = a0 * a1 + a1 * a0 + a2 * (19 * a4) + a3 * (19 * a3) + a4 * (19 * a2) := by grind
  have h2 : (2 * a0) * a2 + a1 * a1 + (2 * a3) * (19 * a4) = a0 * a2 + a1 * a1 + a2 * a0 + a3 * (19 * a4) + a4 * (19 * a3) := by grind
  have h3 : (2 * a0) * a3 + (2 * a1) * a2 + a4 * (19 * a4) = a0 * a3 + a1 * a2 + a2 * a1 + a3 * a0 + a4 * (19 * a4) := by grind
  have h4 : (2 * a0) * a4 + (2 * a1) * a3 + a2 * a2 = a0 * a4 + a1 * a3 + a2 * a2 + a3 * a1 + a4 * a0 := by grind
  rw [h0, h1, h2, h3, h4]

set_option maxHeartbeats 6400000 in
theorem fesquare_any {c : Array Value} {x : Nat} (hx : feR c x) (W : World) : Calls Try.prog 66 #[.agg c] W (RetFe feR W ((x * x) % PP)) := by
  obtain ⟨a0, a1, a2, a3, a4, rfl, ha0, ha1, ha2, ha3, ha4, rfl⟩ := hx
  rw [← val5_square]
  obtain ⟨d0, wd0, hd0, ed0⟩ : ∃ f : Nat, IntKind.u64.wrap (2 * (a0 : Int)) = (f : Int) ∧ f < 4503599627894784 ∧ 2 * a0 = f := ⟨2 * a0, by rw [IntKind.wrap_u64]; unfold L51 at ha0; omega, by unfold L51 at ha0; omega, rfl⟩
  obtain ⟨d1, wd1, hd1, ed1⟩ : ∃ f : Nat, IntKind.u64.wrap (2 * (a1 : Int)) = (f : Int) ∧ f < 4503599627894784 ∧ 2 * a1 = f := ⟨2 * a1, by rw [IntKind.wrap_u64]; unfold L51 at ha1; omega, by unfold L51 at ha1; omega, rfl⟩
  obtain ⟨e2, we2, he2, ee2⟩ : ∃ f : Nat, IntKind.u64.wrap (2 * (a2 : Int)) = (f : Int) ∧ f < 4503599627894784 ∧ 2 * a2 = f := ⟨2 * a2, by rw [IntKind.wrap_u64]; unfold L51 at ha2; omega, by unfold L51 at ha2; omega, rfl⟩
  obtain ⟨e3, we3, he3, ee3⟩ : ∃ f : Nat, IntKind.u64.wrap (2 * (a3 : Int)) = (f : Int) ∧ f < 4503599627894784 ∧ 2 * a3 = f := ⟨2 * a3, by rw [IntKind.wrap_u64]; unfold L51 at ha3; omega, by unfold L51 at ha3; omega, rfl⟩
  obtain ⟨f3, wf3, hf3, ef3⟩ : ∃ f : Nat, IntKind.u64.wrap (19 * (a3 : Int)) = (f : Int) ∧ f < 42784196465000448 ∧ 19 * a3 = f := ⟨19 * a3, by rw [IntKind.wrap_u64]; unfold L51 at ha3; omega, by unfold L51 at ha3; omega, rfl⟩
  obtain ⟨f4, wf4, hf4, ef4⟩ : ∃ f : Nat, IntKind.u64.wrap (19 * (a4 : Int)) = (f : Int) ∧ f < 42784196465000448 ∧ 19 * a4 = f := ⟨19 * a4, by rw [IntKind.wrap_u64]; unfold L51 at ha4; omega, by unfold L51 at ha4; omega, rfl⟩
  rw [ed0, ed1, ee2, ee3, ef3, ef4]
  unfold L51 at *
  have B0 : a0 * a0 + d1 * f4 + e2 * f3 < 1298074214633706907132624082305024 := by
    have p0 : a0 * a0 ≤ 5070602402093504723173315706881 := Nat.le_trans (Nat.mul_le_mul (Nat.le_of_lt_succ ha0) (Nat.le_of_lt_succ ha0)) (by decide)
    have p1 : d1 * f4 ≤ 192682891279553303329575763968001 := Nat.le_trans (Nat.mul_le_mul (Nat.le_of_lt_succ hd1) (Nat.le_of_lt_succ hf4)) (by decide)
    have p2 : e2 * f3 ≤ 192682891279553303329575763968001 := Nat.le_trans (Nat.mul_le_mul (Nat.le_of_lt_succ he2) (Nat.le_of_lt_succ hf3)) (by decide)
    omega
  have B1 : d0 * a1 + e2 * f4 + a3 * f3 < 1298074214633706907132624082305024 := by
    have p0 : d0 * a1 ≤ 10141204804187011698146445361153 := Nat.le_trans (Nat.mul_le_mul (Nat.le_of_lt_succ hd0) (Nat.le_of_lt_succ ha1)) (by decide)
    have p1 : e2 * f4 ≤ 192682891279553303329575763968001 := Nat.le_trans (Nat.mul_le_mul (Nat.le_of_lt_succ he2) (Nat.le_of_lt_succ hf4)) (by decide)
    have p2 : a3 * f3 ≤ 96341445639776630272689649483777 := Nat.le_trans (Nat.mul_le_mul (Nat.le_of_lt_succ ha3) (Nat.le_of_lt_succ hf3)) (by decide)
    omega
  have B2 : d0 * a2 + a1 * a1 + e3 * f4 < 1298074214633706907132624082305024 := by
    have p0 : d0 * a2 ≤ 10141204804187011698146445361153 := Nat.le_trans (Nat.mul_le_mul (Nat.le_of_lt_succ hd0) (Nat.le_of_lt_succ ha2)) (by decide)
    have p1 : a1 * a1 ≤ 5070602402093504723173315706881 := Nat.le_trans (Nat.mul_le_mul (Nat.le_of_lt_succ ha1) (Nat.le_of_lt_succ ha1)) (by decide)
    have p2 : e3 * f4 ≤ 192682891279553303329575763968001 := Nat.le_trans (Nat.mul_le_mul (Nat.le_of_lt_succ he3) (Nat.le_of_lt_succ hf4)) (by decide)
    omega
  have B3 : d0 * a3 + d1 * a2 + a4 * f4 < 1298074214633706907132624082305024 := by
    have p0 : d0 * a3 ≤ 10141204804187011698146445361153 := Nat.le_trans (Nat.mul_le_mul (Nat.le_of_lt_succ hd0) (Nat.le_of_lt_succ ha3)) (by decide)
    have p1 : d1 * a2 ≤ 10141204804187011698146445361153 := Nat.le_trans (Nat.mul_le_mul (Nat.le_of_lt_succ hd1) (Nat.le_of_lt_succ ha2)) (by decide)
    have p2 : a4 * f4 ≤ 96341445639776630272689649483777 := Nat.le_trans (Nat.mul_le_mul (Nat.le_of_lt_succ ha4) (Nat.le_of_lt_succ hf4)) (by decide)
    omega
  have B4 : d0 * a4 + d1 * a3 + a2 * a2 < 1298074214633706907132624082305024 := by
    have p0 : d0 * a4 ≤ 10141204804187011698146445361153 := Nat.le_trans (Nat.mul_le_mul (Nat.le_of_lt_succ hd0) (Nat.le_of_lt_succ ha4)) (by decide)
    have p1 : d1 * a3 ≤ 10141204804187011698146445361153 := Nat.le_trans (Nat.mul_le_mul (Nat.le_of_lt_succ hd1) (Nat.le_of_lt_succ ha3)) (by decide)
    have p2 : a2 * a2 ≤ 5070602402093504723173315706881 := Nat.le_trans (Nat.mul_le_mul (Nat.le_of_lt_succ ha2) (Nat.le_of_lt_succ ha2)) (by decide)
    omega
  have HN : Hid (∀ W' : World, Calls Try.prog 77 #[.agg (wide2 (a0 * a0 + d1 * f4 + e2 * f3)), .agg (wide2 (d0 * a1 + e2 * f4 + a3 * f3)), .agg (wide2 (d0 * a2 + a1 * a1 + e3 * f4)), .agg (wide2 (d0 * a3 + d1 * a2 + a4 * f4)), .agg (wide2 (d0 * a4 + d1 * a3 + a2 * a2))] W' (RetFe feR W' (val5 (a0 * a0 + d1 * f4 + e2 * f3) (d0 * a1 + e2 * f4 + a3 * f3) (d0 * a2 + a1 * a1 + e3 * f4) (d0 * a3 + d1 * a2 + a4 * f4) (d0 * a4 + d1 * a3 + a2 * a2) % PP))) := Lib.hid fun W' => narrowed_any _ _ _ _ _ B0 B1 B2 B3 B4 W'
  have H0_0 : Hid (∀ W' : World, Calls Try.prog 75 #[.int .u64 (a0 : Int), .int .u64 (a0 : Int)] W' (RetV W' (.agg (wide2 (a0 * a0))))) := Lib.hid fun W' => product_any a0 a0 (by omega) (by omega) W'
  have H0_1 : Hid (∀ W' : World, Calls Try.prog 76 #[.agg (wide2 (a0 * a0)), .int .u64 (d1 : Int), .int .u64 (f4 : Int)] W' (RetV W' (.agg (wide2 (a0 * a0 + d1 * f4))))) := Lib.hid fun W' => plus_any (a0 * a0) d1 f4 (by omega) (by omega) (by have := B0; omega) W'
  have H0_2 : Hid (∀ W' : World, Calls Try.prog 76 #[.agg (wide2 (a0 * a0 + d1 * f4)), .int .u64 (e2 : Int), .int .u64 (f3 : Int)] W' (RetV W' (.agg (wide2 (a0 * a0 + d1 * f4 + e2 * f3))))) := Lib.hid fun W' => plus_any (a0 * a0 + d1 * f4) e2 f3 (by omega) (by omega) (by have := B0; omega) W'
  have H1_0 : Hid (∀ W' : World, Calls Try.prog 75 #[.int .u64 (d0 : Int), .int .u64 (a1 : Int)] W' (RetV W' (.agg (wide2 (d0 * a1))))) := Lib.hid fun W' => product_any d0 a1 (by omega) (by omega) W'
  have H1_1 : Hid (∀ W' : World, Calls Try.prog 76 #[.agg (wide2 (d0 * a1)), .int .u64 (e2 : Int), .int .u64 (f4 : Int)] W' (RetV W' (.agg (wide2 (d0 * a1 + e2 * f4))))) := Lib.hid fun W' => plus_any (d0 * a1) e2 f4 (by omega) (by omega) (by have := B1; omega) W'
  have H1_2 : Hid (∀ W' : World, Calls Try.prog 76 #[.agg (wide2 (d0 * a1 + e2 * f4)), .int .u64 (a3 : Int), .int .u64 (f3 : Int)] W' (RetV W' (.agg (wide2 (d0 * a1 + e2 * f4 + a3 * f3))))) := Lib.hid fun W' => plus_any (d0 * a1 + e2 * f4) a3 f3 (by omega) (by omega) (by have := B1; omega) W'
  have H2_0 : Hid (∀ W' : World, Calls Try.prog 75 #[.int .u64 (d0 : Int), .int .u64 (a2 : Int)] W' (RetV W' (.agg (wide2 (d0 * a2))))) := Lib.hid fun W' => product_any d0 a2 (by omega) (by omega) W'
  have H2_1 : Hid (∀ W' : World, Calls Try.prog 76 #[.agg (wide2 (d0 * a2)), .int .u64 (a1 : Int), .int .u64 (a1 : Int)] W' (RetV W' (.agg (wide2 (d0 * a2 + a1 * a1))))) := Lib.hid fun W' => plus_any (d0 * a2) a1 a1 (by omega) (by omega) (by have := B2; omega) W'
  have H2_2 : Hid (∀ W' : World, Calls Try.prog 76 #[.agg (wide2 (d0 * a2 + a1 * a1)), .int .u64 (e3 : Int), .int .u64 (f4 : Int)] W' (RetV W' (.agg (wide2 (d0 * a2 + a1 * a1 + e3 * f4))))) := Lib.hid fun W' => plus_any (d0 * a2 + a1 * a1) e3 f4 (by omega) (by omega) (by have := B2; omega) W'
  have H3_0 : Hid (∀ W' : World, Calls Try.prog 75 #[.int .u64 (d0 : Int), .int .u64 (a3 : Int)] W' (RetV W' (.agg (wide2 (d0 * a3))))) := Lib.hid fun W' => product_any d0 a3 (by omega) (by omega) W'
  have H3_1 : Hid (∀ W' : World, Calls Try.prog 76 #[.agg (wide2 (d0 * a3)), .int .u64 (d1 : Int), .int .u64 (a2 : Int)] W' (RetV W' (.agg (wide2 (d0 * a3 + d1 * a2))))) := Lib.hid fun W' => plus_any (d0 * a3) d1 a2 (by omega) (by omega) (by have := B3; omega) W'
  have H3_2 : Hid (∀ W' : World, Calls Try.prog 76 #[.agg (wide2 (d0 * a3 + d1 * a2)), .int .u64 (a4 : Int), .int .u64 (f4 : Int)] W' (RetV W' (.agg (wide2 (d0 * a3 + d1 * a2 + a4 * f4))))) := Lib.hid fun W' => plus_any (d0 * a3 + d1 * a2) a4 f4 (by omega) (by omega) (by have := B3; omega) W'
  have H4_0 : Hid (∀ W' : World, Calls Try.prog 75 #[.int .u64 (d0 : Int), .int .u64 (a4 : Int)] W' (RetV W' (.agg (wide2 (d0 * a4))))) := Lib.hid fun W' => product_any d0 a4 (by omega) (by omega) W'
  have H4_1 : Hid (∀ W' : World, Calls Try.prog 76 #[.agg (wide2 (d0 * a4)), .int .u64 (d1 : Int), .int .u64 (a3 : Int)] W' (RetV W' (.agg (wide2 (d0 * a4 + d1 * a3))))) := Lib.hid fun W' => plus_any (d0 * a4) d1 a3 (by omega) (by omega) (by have := B4; omega) W'
  have H4_2 : Hid (∀ W' : World, Calls Try.prog 76 #[.agg (wide2 (d0 * a4 + d1 * a3)), .int .u64 (a2 : Int), .int .u64 (a2 : Int)] W' (RetV W' (.agg (wide2 (d0 * a4 + d1 * a3 + a2 * a2))))) := Lib.hid fun W' => plus_any (d0 * a4 + d1 * a3) a2 a2 (by omega) (by omega) (by have := B4; omega) W'
  generalize val5 (a0 * a0 + d1 * f4 + e2 * f3) (d0 * a1 + e2 * f4 + a3 * f3) (d0 * a2 + a1 * a1 + e3 * f4) (d0 * a3 + d1 * a2 + a4 * f4) (d0 * a4 + d1 * a3 + a2 * a2) % PP = nn at *
  clear B0 B1 B2 B3 B4 ed0 ed1 ee2 ee3 ef3 ef4
  generalize wide2 (a0 * a0) = U0_0 at *
  generalize wide2 (a0 * a0 + d1 * f4) = U0_1 at *
  have i0 := wide2_info (a0 * a0 + d1 * f4 + e2 * f3)
  have on0 := wide2_one (a0 * a0 + d1 * f4 + e2 * f3)
  have sz0 : (#[.int .u64 0, .int .u64 0] : Array Value).size = (wide2 (a0 * a0 + d1 * f4 + e2 * f3)).size := rfl
  generalize wide2 (a0 * a0 + d1 * f4 + e2 * f3) = V0 at *
  generalize wide2 (d0 * a1) = U1_0 at *
  generalize wide2 (d0 * a1 + e2 * f4) = U1_1 at *
  have i1 := wide2_info (d0 * a1 + e2 * f4 + a3 * f3)
  have on1 := wide2_one (d0 * a1 + e2 * f4 + a3 * f3)
  have sz1 : (#[.int .u64 0, .int .u64 0] : Array Value).size = (wide2 (d0 * a1 + e2 * f4 + a3 * f3)).size := rfl
  generalize wide2 (d0 * a1 + e2 * f4 + a3 * f3) = V1 at *
  generalize wide2 (d0 * a2) = U2_0 at *
  generalize wide2 (d0 * a2 + a1 * a1) = U2_1 at *
  have i2 := wide2_info (d0 * a2 + a1 * a1 + e3 * f4)
  have on2 := wide2_one (d0 * a2 + a1 * a1 + e3 * f4)
  have sz2 : (#[.int .u64 0, .int .u64 0] : Array Value).size = (wide2 (d0 * a2 + a1 * a1 + e3 * f4)).size := rfl
  generalize wide2 (d0 * a2 + a1 * a1 + e3 * f4) = V2 at *
  generalize wide2 (d0 * a3) = U3_0 at *
  generalize wide2 (d0 * a3 + d1 * a2) = U3_1 at *
  have i3 := wide2_info (d0 * a3 + d1 * a2 + a4 * f4)
  have on3 := wide2_one (d0 * a3 + d1 * a2 + a4 * f4)
  have sz3 : (#[.int .u64 0, .int .u64 0] : Array Value).size = (wide2 (d0 * a3 + d1 * a2 + a4 * f4)).size := rfl
  generalize wide2 (d0 * a3 + d1 * a2 + a4 * f4) = V3 at *
  generalize wide2 (d0 * a4) = U4_0 at *
  generalize wide2 (d0 * a4 + d1 * a3) = U4_1 at *
  have i4 := wide2_info (d0 * a4 + d1 * a3 + a2 * a2)
  have on4 := wide2_one (d0 * a4 + d1 * a3 + a2 * a2)
  have sz4 : (#[.int .u64 0, .int .u64 0] : Array Value).size = (wide2 (d0 * a4 + d1 * a3 + a2 * a2)).size := rfl
  generalize wide2 (d0 * a4 + d1 * a3 + a2 * a2) = V4 at *
  have zd0 : IntKind.u64.wrap (d0 : Int) = (d0 : Int) := by rw [IntKind.wrap_u64]; omega
  have zd1 : IntKind.u64.wrap (d1 : Int) = (d1 : Int) := by rw [IntKind.wrap_u64]; omega
  have ze2 : IntKind.u64.wrap (e2 : Int) = (e2 : Int) := by rw [IntKind.wrap_u64]; omega
  have ze3 : IntKind.u64.wrap (e3 : Int) = (e3 : Int) := by rw [IntKind.wrap_u64]; omega
  have zf3 : IntKind.u64.wrap (f3 : Int) = (f3 : Int) := by rw [IntKind.wrap_u64]; omega
  have zf4 : IntKind.u64.wrap (f4 : Int) = (f4 : Int) := by rw [IntKind.wrap_u64]; omega
  clear ha0 ha1 ha2 ha3 ha4 hd0 hd1 he2 he3 hf3 hf4
  have hzw : ∀ u, (zeroValue 92).run Try.prog u = .ok (.agg #[.int .u64 0, .int .u64 0]) u := fun u => zero_arr 92 #[.int .u64 0, .int .u64 0] 2 (by kernel_rfl) u
  obtain ⟨La, hLa⟩ : ∃ L, limb5 a0 a1 a2 a3 a4 = L := ⟨_, rfl⟩
  rw [hLa]
  have HLa : Hid (La = limb5 a0 a1 a2 a3 a4) := Lib.hid hLa.symm
  clear hLa
  have hrr : RowsW ((W.alloc (.cells La 26)).alloc (.cells #[.int .u64 0, .int .u64 0, .int .u64 0, .int .u64 0, .int .u64 0] 26)) [(W.heap.size + 1, #[.int .u64 0, .int .u64 0, .int .u64 0, .int .u64 0, .int .u64 0], 26), (W.heap.size, La, 26)] := by have h := (RowsW.box (RowsW.box (RowsW.nil W) La 26) #[.int .u64 0, .int .u64 0, .int .u64 0, .int .u64 0, .int .u64 0] 26); simp only [World.size_alloc] at h; exact h
  obtain ⟨W1, hW1⟩ : ∃ W1, ((W.alloc (.cells La 26)).alloc (.cells #[.int .u64 0, .int .u64 0, .int .u64 0, .int .u64 0, .int .u64 0] 26)) = W1 := ⟨_, rfl⟩
  rw [hW1] at hrr
  have hb1 : Below W.heap.size W W1 := by rw [← hW1]; exact below_alloc (below_alloc (Below.refl _ _) _) _
  have HR := Lib.hid hrr
  have HB1 := Lib.hid hb1
  have HW1 := Lib.hid hW1
  clear hrr hb1 hW1
  go_enter Try.func66, Try.ntmps66
  go_upto_region 1 with fail
  rw [HW1.out]
  have ca0 : W1.cell? ⟨W.heap.size, 0, none⟩ = some (.int .u64 (a0 : Int)) := by rw [cell_of_row _ _ _ _ _ _ HR.out.tail.head, HLa.out]; rfl
  have ca1 : W1.cell? ⟨W.heap.size, 1, none⟩ = some (.int .u64 (a1 : Int)) := by rw [cell_of_row _ _ _ _ _ _ HR.out.tail.head, HLa.out]; rfl
  go_quiet (fail)
  obtain ⟨Q0, hQ0⟩ : ∃ X, W1.drewN nq = X := ⟨_, rfl⟩
  have HRQ0 := Lib.hid (show RowsW Q0 [(W.heap.size + 1, #[.int .u64 0, .int .u64 0, .int .u64 0, .int .u64 0, .int .u64 0], 26), (W.heap.size, La, 26)] by rw [← hQ0]; exact HR.out.below (below_drewN' (Below.refl _ _) nq))
  have HBQ0 := Lib.hid (show Below W.heap.size W Q0 by rw [← hQ0]; exact below_drewN' HB1.out nq)
  rw [hQ0]
  clear hQ0 nq ca0 ca1
  go_upto_region 2 with fail
  have ca3 : Q0.cell? ⟨W.heap.size, 3, none⟩ = some (.int .u64 (a3 : Int)) := by rw [cell_of_row _ _ _ _ _ _ HRQ0.out.tail.head, HLa.out]; rfl
  have ca4 : Q0.cell? ⟨W.heap.size, 4, none⟩ = some (.int .u64 (a4 : Int)) := by rw [cell_of_row _ _ _ _ _ _ HRQ0.out.tail.head, HLa.out]; rfl
  go_quiet (fail)
  obtain ⟨Q1, hQ1⟩ : ∃ X, Q0.drewN nq = X := ⟨_, rfl⟩
  have HRQ1 := Lib.hid (show RowsW Q1 [(W.heap.size + 1, #[.int .u64 0, .int .u64 0, .int .u64 0, .int .u64 0, .int .u64 0], 26), (W.heap.size, La, 26)] by rw [← hQ1]; exact HRQ0.out.below (below_drewN' (Below.refl _ _) nq))
  have HBQ1 := Lib.hid (show Below W.heap.size W Q1 by rw [← hQ1]; exact below_drewN' HBQ0.out nq)
  rw [hQ1]
  clear hQ1 nq ca3 ca4
  go_upto_region 3 with fail
  refine wp_region_noPanic ?_
  refine wp_region_heldB 13 7 92 #[.int .u64 0, .int .u64 0] (by kernel_rfl) (by kernel_rfl) ⟨by kernel_rfl, by kernel_rfl, hzw, fun _ _ _ h => h⟩ (fun hA hS => ?_)
  refine' take_atB 0 hA rfl (by kernel_rfl) (by kernel_rfl) (by kernel_rfl) (by kernel_rfl) (by kernel_rfl) (by rfl) (by rfl) hS ?_ ?_ ?_
  rotate_left 2
  · intro W hSW; go_simp; try with_reducible rfl
  · simp only [List.set_cons_succ, List.set_cons_zero]; rfl
  refine' take_atB 1 hA rfl (by kernel_rfl) (by kernel_rfl) (by kernel_rfl) (by kernel_rfl) (by kernel_rfl) (by rfl) (by rfl) hS ?_ ?_ ?_
  rotate_left 2
  · intro X hSX; have hc : X.cell? ⟨W.heap.size, 0, none⟩ = some (.int .u64 (a0 : Int)) := by { rw [cell_of_row _ _ _ _ _ _ (HRQ1.out.below hSX).tail.head, HLa.out]; rfl }; go_simp; try with_reducible rfl
  · simp only [List.set_cons_succ, List.set_cons_zero]; rfl
  refine' take_atB 2 hA rfl (by kernel_rfl) (by kernel_rfl) (by kernel_rfl) (by kernel_rfl) (by kernel_rfl) (by rfl) (by rfl) hS ?_ ?_ ?_
  rotate_left 2
  · intro W hSW; go_simp; try with_reducible rfl
  · simp only [List.set_cons_succ, List.set_cons_zero]; rfl
  refine' take_atB 3 hA rfl (by kernel_rfl) (by kernel_rfl) (by kernel_rfl) (by kernel_rfl) (by kernel_rfl) (by rfl) (by rfl) hS ?_ ?_ ?_
  rotate_left 2
  · intro X hSX; have hc : X.cell? ⟨W.heap.size, 0, none⟩ = some (.int .u64 (a0 : Int)) := by { rw [cell_of_row _ _ _ _ _ _ (HRQ1.out.below hSX).tail.head, HLa.out]; rfl }; go_simp; try with_reducible rfl
  · simp only [List.set_cons_succ, List.set_cons_zero]; rfl
  refine' take_atB 5 hA rfl (by kernel_rfl) (by kernel_rfl) (by kernel_rfl) (by kernel_rfl) (by kernel_rfl) (by rfl) (by rfl) hS ?_ ?_ ?_
  rotate_left 2
  · intro W hSW; go_simp; try with_reducible rfl
  · simp only [List.set_cons_succ, List.set_cons_zero]; rfl
  refine' take_atB 6 hA rfl (by kernel_rfl) (by kernel_rfl) (by kernel_rfl) (by kernel_rfl) (by kernel_rfl) (by rfl) (by rfl) hS ?_ ?_ ?_
  rotate_left 2
  · intro W hSW; go_simp; try with_reducible rfl
  · simp only [List.set_cons_succ, List.set_cons_zero]; rfl
  refine' take_atB 8 hA rfl (by kernel_rfl) (by kernel_rfl) (by kernel_rfl) (by kernel_rfl) (by kernel_rfl) (by rfl) (by rfl) hS ?_ ?_ ?_
  rotate_left 2
  · intro W hSW; go_simp; try with_reducible rfl
  · simp only [List.set_cons_succ, List.set_cons_zero]; rfl
  refine' take_atB 9 hA rfl (by kernel_rfl) (by kernel_rfl) (by kernel_rfl) (by kernel_rfl) (by kernel_rfl) (by rfl) (by rfl) hS ?_ ?_ ?_
  rotate_left 2
  · intro X hSX; have hc : X.cell? ⟨W.heap.size, 2, none⟩ = some (.int .u64 (a2 : Int)) := by { rw [cell_of_row _ _ _ _ _ _ (HRQ1.out.below hSX).tail.head, HLa.out]; rfl }; go_simp; try with_reducible rfl
  · simp only [List.set_cons_succ, List.set_cons_zero]; rfl
  refine' take_atB 10 hA rfl (by kernel_rfl) (by kernel_rfl) (by kernel_rfl) (by kernel_rfl) (by kernel_rfl) (by rfl) (by rfl) hS ?_ ?_ ?_
  rotate_left 2
  · intro W hSW; go_simp; try with_reducible rfl
  · simp only [List.set_cons_succ, List.set_cons_zero]; rfl
  refine' take_atB 11 hA rfl (by kernel_rfl) (by kernel_rfl) (by kernel_rfl) (by kernel_rfl) (by kernel_rfl) (by rfl) (by rfl) hS ?_ ?_ ?_
  rotate_left 2
  · intro W hSW; go_simp; try with_reducible rfl
  · simp only [List.set_cons_succ, List.set_cons_zero]; rfl
  refine call_atB 4 hA rfl (by kernel_rfl) (by kernel_rfl) (by kernel_rfl) (by kernel_rfl) (by rfl) (by rfl) hS (fun ok0 Wk0 hS K hK => ?_)
  go_simp
  with_reducible refine (H0_0.out Wk0).mono ?_
  rintro e uk0 ⟨rfl, hbk0⟩
  refine hK.out _ _ hbk0 (fun hS => ?_)
  clear hK K hbk0
  refine call_atB 7 hA rfl (by kernel_rfl) (by kernel_rfl) (by kernel_rfl) (by kernel_rfl) (by rfl) (by rfl) hS (fun ok0 Wk0 hS K hK => ?_)
  go_simp
  with_reducible refine (H0_1.out Wk0).mono ?_
  rintro e uk0 ⟨rfl, hbk0⟩
  refine hK.out _ _ hbk0 (fun hS => ?_)
  clear hK K hbk0
  refine call_atB 12 hA rfl (by kernel_rfl) (by kernel_rfl) (by kernel_rfl) (by kernel_rfl) (by rfl) (by rfl) hS (fun ok0 Wk0 hS K hK => ?_)
  go_simp
  with_reducible refine (H0_2.out Wk0).mono ?_
  rintro e uk0 ⟨rfl, hbk0⟩
  refine hK.out _ _ hbk0 (fun hS => ?_)
  clear hK K hbk0
  refine' store_atB 14 hA rfl (by kernel_rfl) (by kernel_rfl) (by kernel_rfl) hS (by kernel_rfl) rfl (by intro h; cases h) i0 sz0 on0 ?_ ?_
  rotate_left 1
  · intro g; simp only [List.set_cons_succ, List.set_cons_zero]; rfl
  intro gk0 Wk0 hgk0 hbk0 hrowk0
  clear hA hS
  refine wpAnyH_done (by kernel_rfl) ?_ _
  refine NoPanic.normal ?_
  (try simp only [Act.put])
  have HRk0 : Hid (RowsW Wk0 [(gk0, V0, 92), (W.heap.size + 1, #[.int .u64 0, .int .u64 0, .int .u64 0, .int .u64 0, .int .u64 0], 26), (W.heap.size, La, 26)]) := Lib.hid ⟨hrowk0, HRQ1.out.below hbk0⟩
  have HBk0 := Lib.hid (below_next HBQ1.out hbk0)
  clear hgk0 hbk0 hrowk0
  go_upto_region 4 with fail
  refine wp_region_noPanic ?_
  refine wp_region_heldB 13 8 92 #[.int .u64 0, .int .u64 0] (by kernel_rfl) (by kernel_rfl) ⟨by kernel_rfl, by kernel_rfl, hzw, fun _ _ _ h => h⟩ (fun hA hS => ?_)
  refine' take_atB 0 hA rfl (by kernel_rfl) (by kernel_rfl) (by kernel_rfl) (by kernel_rfl) (by kernel_rfl) (by rfl) (by rfl) hS ?_ ?_ ?_
  rotate_left 2
  · intro W hSW; go_simp; try with_reducible rfl
  · simp only [List.set_cons_succ, List.set_cons_zero]; rfl
  refine' take_atB 1 hA rfl (by kernel_rfl) (by kernel_rfl) (by kernel_rfl) (by kernel_rfl) (by kernel_rfl) (by rfl) (by rfl) hS ?_ ?_ ?_
  rotate_left 2
  · intro W hSW; go_simp; try with_reducible rfl
  · simp only [List.set_cons_succ, List.set_cons_zero]; rfl
  refine' take_atB 2 hA rfl (by kernel_rfl) (by kernel_rfl) (by kernel_rfl) (by kernel_rfl) (by kernel_rfl) (by rfl) (by rfl) hS ?_ ?_ ?_
  rotate_left 2
  · intro X hSX; have hc : X.cell? ⟨W.heap.size, 1, none⟩ = some (.int .u64 (a1 : Int)) := by { rw [cell_of_row _ _ _ _ _ _ (HRk0.out.below hSX).tail.tail.head, HLa.out]; rfl }; go_simp; try with_reducible rfl
  · simp only [List.set_cons_succ, List.set_cons_zero]; rfl
  refine' take_atB 4 hA rfl (by kernel_rfl) (by kernel_rfl) (by kernel_rfl) (by kernel_rfl) (by kernel_rfl) (by rfl) (by rfl) hS ?_ ?_ ?_
  rotate_left 2
  · intro W hSW; go_simp; try with_reducible rfl
  · simp only [List.set_cons_succ, List.set_cons_zero]; rfl
  refine' take_atB 5 hA rfl (by kernel_rfl) (by kernel_rfl) (by kernel_rfl) (by kernel_rfl) (by kernel_rfl) (by rfl) (by rfl) hS ?_ ?_ ?_
  rotate_left 2
  · intro X hSX; have hc : X.cell? ⟨W.heap.size, 2, none⟩ = some (.int .u64 (a2 : Int)) := by { rw [cell_of_row _ _ _ _ _ _ (HRk0.out.below hSX).tail.tail.head, HLa.out]; rfl }; go_simp; try with_reducible rfl
  · simp only [List.set_cons_succ, List.set_cons_zero]; rfl
  refine' take_atB 6 hA rfl (by kernel_rfl) (by kernel_rfl) (by kernel_rfl) (by kernel_rfl) (by kernel_rfl) (by rfl) (by rfl) hS ?_ ?_ ?_
  rotate_left 2
  · intro W hSW; go_simp; try with_reducible rfl
  · simp only [List.set_cons_succ, List.set_cons_zero]; rfl
  refine' take_atB 7 hA rfl (by kernel_rfl) (by kernel_rfl) (by kernel_rfl) (by kernel_rfl) (by kernel_rfl) (by rfl) (by rfl) hS ?_ ?_ ?_
  rotate_left 2
  · intro W hSW; go_simp; try with_reducible rfl
  · simp only [List.set_cons_succ, List.set_cons_zero]; rfl
  refine' take_atB 9 hA rfl (by kernel_rfl) (by kernel_rfl) (by kernel_rfl) (by kernel_rfl) (by kernel_rfl) (by rfl) (by rfl) hS ?_ ?_ ?_
  rotate_left 2
  · intro W hSW; go_simp; try with_reducible rfl
  · simp only [List.set_cons_succ, List.set_cons_zero]; rfl
  refine' take_atB 10 hA rfl (by kernel_rfl) (by kernel_rfl) (by kernel_rfl) (by kernel_rfl) (by kernel_rfl) (by rfl) (by rfl) hS ?_ ?_ ?_
  rotate_left 2
  · intro X hSX; have hc : X.cell? ⟨W.heap.size, 3, none⟩ = some (.int .u64 (a3 : Int)) := by { rw [cell_of_row _ _ _ _ _ _ (HRk0.out.below hSX).tail.tail.head, HLa.out]; rfl }; go_simp; try with_reducible rfl
  · simp only [List.set_cons_succ, List.set_cons_zero]; rfl
  refine' take_atB 11 hA rfl (by kernel_rfl) (by kernel_rfl) (by kernel_rfl) (by kernel_rfl) (by kernel_rfl) (by rfl) (by rfl) hS ?_ ?_ ?_
  rotate_left 2
  · intro W hSW; go_simp; try with_reducible rfl
  · simp only [List.set_cons_succ, List.set_cons_zero]; rfl
  refine call_atB 3 hA rfl (by kernel_rfl) (by kernel_rfl) (by kernel_rfl) (by kernel_rfl) (by rfl) (by rfl) hS (fun ok1 Wk1 hS K hK => ?_)
  go_simp
  with_reducible refine (H1_0.out Wk1).mono ?_
  rintro e uk1 ⟨rfl, hbk1⟩
  refine hK.out _ _ hbk1 (fun hS => ?_)
  clear hK K hbk1
  refine call_atB 8 hA rfl (by kernel_rfl) (by kernel_rfl) (by kernel_rfl) (by kernel_rfl) (by rfl) (by rfl) hS (fun ok1 Wk1 hS K hK => ?_)
  go_simp
  with_reducible refine (H1_1.out Wk1).mono ?_
  rintro e uk1 ⟨rfl, hbk1⟩
  refine hK.out _ _ hbk1 (fun hS => ?_)
  clear hK K hbk1
  refine call_atB 12 hA rfl (by kernel_rfl) (by kernel_rfl) (by kernel_rfl) (by kernel_rfl) (by rfl) (by rfl) hS (fun ok1 Wk1 hS K hK => ?_)
  go_simp
  with_reducible refine (H1_2.out Wk1).mono ?_
  rintro e uk1 ⟨rfl, hbk1⟩
  refine hK.out _ _ hbk1 (fun hS => ?_)
  clear hK K hbk1
  refine' store_atB 14 hA rfl (by kernel_rfl) (by kernel_rfl) (by kernel_rfl) hS (by kernel_rfl) rfl (by intro h; cases h) i1 sz1 on1 ?_ ?_
  rotate_left 1
  · intro g; simp only [List.set_cons_succ, List.set_cons_zero]; rfl
  intro gk1 Wk1 hgk1 hbk1 hrowk1
  clear hA hS
  refine wpAnyH_done (by kernel_rfl) ?_ _
  refine NoPanic.normal ?_
  (try simp only [Act.put])
  have HRk1 : Hid (RowsW Wk1 [(gk1, V1, 92), (gk0, V0, 92), (W.heap.size + 1, #[.int .u64 0, .int .u64 0, .int .u64 0, .int .u64 0, .int .u64 0], 26), (W.heap.size, La, 26)]) := Lib.hid ⟨hrowk1, HRk0.out.below hbk1⟩
  have HBk1 := Lib.hid (below_next HBk0.out hbk1)
  clear hgk1 hbk1 hrowk1
  go_upto_region 5 with fail
  refine wp_region_noPanic ?_
  refine wp_region_heldB 14 9 92 #[.int .u64 0, .int .u64 0] (by kernel_rfl) (by kernel_rfl) ⟨by kernel_rfl, by kernel_rfl, hzw, fun _ _ _ h => h⟩ (fun hA hS => ?_)
  refine' take_atB 0 hA rfl (by kernel_rfl) (by kernel_rfl) (by kernel_rfl) (by kernel_rfl) (by kernel_rfl) (by rfl) (by rfl) hS ?_ ?_ ?_
  rotate_left 2
  · intro W hSW; go_simp; try with_reducible rfl
  · simp only [List.set_cons_succ, List.set_cons_zero]; rfl
  refine' take_atB 1 hA rfl (by kernel_rfl) (by kernel_rfl) (by kernel_rfl) (by kernel_rfl) (by kernel_rfl) (by rfl) (by rfl) hS ?_ ?_ ?_
  rotate_left 2
  · intro W hSW; go_simp; try with_reducible rfl
  · simp only [List.set_cons_succ, List.set_cons_zero]; rfl
  refine' take_atB 2 hA rfl (by kernel_rfl) (by kernel_rfl) (by kernel_rfl) (by kernel_rfl) (by kernel_rfl) (by rfl) (by rfl) hS ?_ ?_ ?_
  rotate_left 2
  · intro X hSX; have hc : X.cell? ⟨W.heap.size, 2, none⟩ = some (.int .u64 (a2 : Int)) := by { rw [cell_of_row _ _ _ _ _ _ (HRk1.out.below hSX).tail.tail.tail.head, HLa.out]; rfl }; go_simp; try with_reducible rfl
  · simp only [List.set_cons_succ, List.set_cons_zero]; rfl
  refine' take_atB 4 hA rfl (by kernel_rfl) (by kernel_rfl) (by kernel_rfl) (by kernel_rfl) (by kernel_rfl) (by rfl) (by rfl) hS ?_ ?_ ?_
  rotate_left 2
  · intro W hSW; go_simp; try with_reducible rfl
  · simp only [List.set_cons_succ, List.set_cons_zero]; rfl
  refine' take_atB 5 hA rfl (by kernel_rfl) (by kernel_rfl) (by kernel_rfl) (by kernel_rfl) (by kernel_rfl) (by rfl) (by rfl) hS ?_ ?_ ?_
  rotate_left 2
  · intro X hSX; have hc : X.cell? ⟨W.heap.size, 1, none⟩ = some (.int .u64 (a1 : Int)) := by { rw [cell_of_row _ _ _ _ _ _ (HRk1.out.below hSX).tail.tail.tail.head, HLa.out]; rfl }; go_simp; try with_reducible rfl
  · simp only [List.set_cons_succ, List.set_cons_zero]; rfl
  refine' take_atB 6 hA rfl (by kernel_rfl) (by kernel_rfl) (by kernel_rfl) (by kernel_rfl) (by kernel_rfl) (by rfl) (by rfl) hS ?_ ?_ ?_
  rotate_left 2
  · intro W hSW; go_simp; try with_reducible rfl
  · simp only [List.set_cons_succ, List.set_cons_zero]; rfl
  refine' take_atB 7 hA rfl (by kernel_rfl) (by kernel_rfl) (by kernel_rfl) (by kernel_rfl) (by kernel_rfl) (by rfl) (by rfl) hS ?_ ?_ ?_
  rotate_left 2
  · intro X hSX; have hc : X.cell? ⟨W.heap.size, 1, none⟩ = some (.int .u64 (a1 : Int)) := by { rw [cell_of_row _ _ _ _ _ _ (HRk1.out.below hSX).tail.tail.tail.head, HLa.out]; rfl }; go_simp; try with_reducible rfl
  · simp only [List.set_cons_succ, List.set_cons_zero]; rfl
  refine' take_atB 9 hA rfl (by kernel_rfl) (by kernel_rfl) (by kernel_rfl) (by kernel_rfl) (by kernel_rfl) (by rfl) (by rfl) hS ?_ ?_ ?_
  rotate_left 2
  · intro W hSW; go_simp; try with_reducible rfl
  · simp only [List.set_cons_succ, List.set_cons_zero]; rfl
  refine' take_atB 10 hA rfl (by kernel_rfl) (by kernel_rfl) (by kernel_rfl) (by kernel_rfl) (by kernel_rfl) (by rfl) (by rfl) hS ?_ ?_ ?_
  rotate_left 2
  · intro X hSX; have hc : X.cell? ⟨W.heap.size, 3, none⟩ = some (.int .u64 (a3 : Int)) := by { rw [cell_of_row _ _ _ _ _ _ (HRk1.out.below hSX).tail.tail.tail.head, HLa.out]; rfl }; go_simp; try with_reducible rfl
  · simp only [List.set_cons_succ, List.set_cons_zero]; rfl
  refine' take_atB 11 hA rfl (by kernel_rfl) (by kernel_rfl) (by kernel_rfl) (by kernel_rfl) (by kernel_rfl) (by rfl) (by rfl) hS ?_ ?_ ?_
  rotate_left 2
  · intro W hSW; go_simp; try with_reducible rfl
  · simp only [List.set_cons_succ, List.set_cons_zero]; rfl
  refine' take_atB 12 hA rfl (by kernel_rfl) (by kernel_rfl) (by kernel_rfl) (by kernel_rfl) (by kernel_rfl) (by rfl) (by rfl) hS ?_ ?_ ?_
  rotate_left 2
  · intro W hSW; go_simp; try with_reducible rfl
  · simp only [List.set_cons_succ, List.set_cons_zero]; rfl
  refine call_atB 3 hA rfl (by kernel_rfl) (by kernel_rfl) (by kernel_rfl) (by kernel_rfl) (by rfl) (by rfl) hS (fun ok2 Wk2 hS K hK => ?_)
  go_simp
  with_reducible refine (H2_0.out Wk2).mono ?_
  rintro e uk2 ⟨rfl, hbk2⟩
  refine hK.out _ _ hbk2 (fun hS => ?_)
  clear hK K hbk2
  refine call_atB 8 hA rfl (by kernel_rfl) (by kernel_rfl) (by kernel_rfl) (by kernel_rfl) (by rfl) (by rfl) hS (fun ok2 Wk2 hS K hK => ?_)
  go_simp
  with_reducible refine (H2_1.out Wk2).mono ?_
  rintro e uk2 ⟨rfl, hbk2⟩
  refine hK.out _ _ hbk2 (fun hS => ?_)
  clear hK K hbk2
  refine call_atB 13 hA rfl (by kernel_rfl) (by kernel_rfl) (by kernel_rfl) (by kernel_rfl) (by rfl) (by rfl) hS (fun ok2 Wk2 hS K hK => ?_)
  go_simp
  with_reducible refine (H2_2.out Wk2).mono ?_
  rintro e uk2 ⟨rfl, hbk2⟩
  refine hK.out _ _ hbk2 (fun hS => ?_)
  clear hK K hbk2
  refine' store_atB 15 hA rfl (by kernel_rfl) (by kernel_rfl) (by kernel_rfl) hS (by kernel_rfl) rfl (by intro h; cases h) i2 sz2 on2 ?_ ?_
  rotate_left 1
  · intro g; simp only [List.set_cons_succ, List.set_cons_zero]; rfl
  intro gk2 Wk2 hgk2 hbk2 hrowk2
  clear hA hS
  refine wpAnyH_done (by kernel_rfl) ?_ _
  refine NoPanic.normal ?_
  (try simp only [Act.put])
  have HRk2 : Hid (RowsW Wk2 [(gk2, V2, 92), (gk1, V1, 92), (gk0, V0, 92), (W.heap.size + 1, #[.int .u64 0, .int .u64 0, .int .u64 0, .int .u64 0, .int .u64 0], 26), (W.heap.size, La, 26)]) := Lib.hid ⟨hrowk2, HRk1.out.below hbk2⟩
  have HBk2 := Lib.hid (below_next HBk1.out hbk2)
  clear hgk2 hbk2 hrowk2
  go_upto_region 6 with fail
  refine wp_region_noPanic ?_
  refine wp_region_heldB 12 10 92 #[.int .u64 0, .int .u64 0] (by kernel_rfl) (by kernel_rfl) ⟨by kernel_rfl, by kernel_rfl, hzw, fun _ _ _ h => h⟩ (fun hA hS => ?_)
  refine' take_atB 0 hA rfl (by kernel_rfl) (by kernel_rfl) (by kernel_rfl) (by kernel_rfl) (by kernel_rfl) (by rfl) (by rfl) hS ?_ ?_ ?_
  rotate_left 2
  · intro W hSW; go_simp; try with_reducible rfl
  · simp only [List.set_cons_succ, List.set_cons_zero]; rfl
  refine' take_atB 1 hA rfl (by kernel_rfl) (by kernel_rfl) (by kernel_rfl) (by kernel_rfl) (by kernel_rfl) (by rfl) (by rfl) hS ?_ ?_ ?_
  rotate_left 2
  · intro W hSW; go_simp; try with_reducible rfl
  · simp only [List.set_cons_succ, List.set_cons_zero]; rfl
  refine' take_atB 2 hA rfl (by kernel_rfl) (by kernel_rfl) (by kernel_rfl) (by kernel_rfl) (by kernel_rfl) (by rfl) (by rfl) hS ?_ ?_ ?_
  rotate_left 2
  · intro X hSX; have hc : X.cell? ⟨W.heap.size, 3, none⟩ = some (.int .u64 (a3 : Int)) := by { rw [cell_of_row _ _ _ _ _ _ (HRk2.out.below hSX).tail.tail.tail.tail.head, HLa.out]; rfl }; go_simp; try with_reducible rfl
  · simp only [List.set_cons_succ, List.set_cons_zero]; rfl
  refine' take_atB 4 hA rfl (by kernel_rfl) (by kernel_rfl) (by kernel_rfl) (by kernel_rfl) (by kernel_rfl) (by rfl) (by rfl) hS ?_ ?_ ?_
  rotate_left 2
  · intro W hSW; go_simp; try with_reducible rfl
  · simp only [List.set_cons_succ, List.set_cons_zero]; rfl
  refine' take_atB 5 hA rfl (by kernel_rfl) (by kernel_rfl) (by kernel_rfl) (by kernel_rfl) (by kernel_rfl) (by rfl) (by rfl) hS ?_ ?_ ?_
  rotate_left 2
  · intro W hSW; go_simp; try with_reducible rfl
  · simp only [List.set_cons_succ, List.set_cons_zero]; rfl
  refine' take_atB 6 hA rfl (by kernel_rfl) (by kernel_rfl) (by kernel_rfl) (by kernel_rfl) (by kernel_rfl) (by rfl) (by rfl) hS ?_ ?_ ?_
  rotate_left 2
  · intro X hSX; have hc : X.cell? ⟨W.heap.size, 2, none⟩ = some (.int .u64 (a2 : Int)) := by { rw [cell_of_row _ _ _ _ _ _ (HRk2.out.below hSX).tail.tail.tail.tail.head, HLa.out]; rfl }; go_simp; try with_reducible rfl
  · simp only [List.set_cons_succ, List.set_cons_zero]; rfl
  refine' take_atB 8 hA rfl (by kernel_rfl) (by kernel_rfl) (by kernel_rfl) (by kernel_rfl) (by kernel_rfl) (by rfl) (by rfl) hS ?_ ?_ ?_
  rotate_left 2
  · intro W hSW; go_simp; try with_reducible rfl
  · simp only [List.set_cons_succ, List.set_cons_zero]; rfl
  refine' take_atB 9 hA rfl (by kernel_rfl) (by kernel_rfl) (by kernel_rfl) (by kernel_rfl) (by kernel_rfl) (by rfl) (by rfl) hS ?_ ?_ ?_
  rotate_left 2
  · intro X hSX; have hc : X.cell? ⟨W.heap.size, 4, none⟩ = some (.int .u64 (a4 : Int)) := by { rw [cell_of_row _ _ _ _ _ _ (HRk2.out.below hSX).tail.tail.tail.tail.head, HLa.out]; rfl }; go_simp; try with_reducible rfl
  · simp only [List.set_cons_succ, List.set_cons_zero]; rfl
  refine' take_atB 10 hA rfl (by kernel_rfl) (by kernel_rfl) (by kernel_rfl) (by kernel_rfl) (by kernel_rfl) (by rfl) (by rfl) hS ?_ ?_ ?_
  rotate_left 2
  · intro W hSW; go_simp; try with_reducible rfl
  · simp only [List.set_cons_succ, List.set_cons_zero]; rfl
  refine call_atB 3 hA rfl (by kernel_rfl) (by kernel_rfl) (by kernel_rfl) (by kernel_rfl) (by rfl) (by rfl) hS (fun ok3 Wk3 hS K hK => ?_)
  go_simp
  with_reducible refine (H3_0.out Wk3).mono ?_
  rintro e uk3 ⟨rfl, hbk3⟩
  refine hK.out _ _ hbk3 (fun hS => ?_)
  clear hK K hbk3
  refine call_atB 7 hA rfl (by kernel_rfl) (by kernel_rfl) (by kernel_rfl) (by kernel_rfl) (by rfl) (by rfl) hS (fun ok3 Wk3 hS K hK => ?_)
  go_simp
  with_reducible refine (H3_1.out Wk3).mono ?_
  rintro e uk3 ⟨rfl, hbk3⟩
  refine hK.out _ _ hbk3 (fun hS => ?_)
  clear hK K hbk3
  refine call_atB 11 hA rfl (by kernel_rfl) (by kernel_rfl) (by kernel_rfl) (by kernel_rfl) (by rfl) (by rfl) hS (fun ok3 Wk3 hS K hK => ?_)
  go_simp
  with_reducible refine (H3_2.out Wk3).mono ?_
  rintro e uk3 ⟨rfl, hbk3⟩
  refine hK.out _ _ hbk3 (fun hS => ?_)
  clear hK K hbk3
  refine' store_atB 13 hA rfl (by kernel_rfl) (by kernel_rfl) (by kernel_rfl) hS (by kernel_rfl) rfl (by intro h; cases h) i3 sz3 on3 ?_ ?_
  rotate_left 1
  · intro g; simp only [List.set_cons_succ, List.set_cons_zero]; rfl
  intro gk3 Wk3 hgk3 hbk3 hrowk3
  clear hA hS
  refine wpAnyH_done (by kernel_rfl) ?_ _
  refine NoPanic.normal ?_
  (try simp only [Act.put])
  have HRk3 : Hid (RowsW Wk3 [(gk3, V3, 92), (gk2, V2, 92), (gk1, V1, 92), (gk0, V0, 92), (W.heap.size + 1, #[.int .u64 0, .int .u64 0, .int .u64 0, .int .u64 0, .int .u64 0], 26), (W.heap.size, La, 26)]) := Lib.hid ⟨hrowk3, HRk2.out.below hbk3⟩
  have HBk3 := Lib.hid (below_next HBk2.out hbk3)
  clear hgk3 hbk3 hrowk3
  go_upto_region 7 with fail
  refine wp_region_noPanic ?_
  refine wp_region_heldB 13 11 92 #[.int .u64 0, .int .u64 0] (by kernel_rfl) (by kernel_rfl) ⟨by kernel_rfl, by kernel_rfl, hzw, fun _ _ _ h => h⟩ (fun hA hS => ?_)
  refine' take_atB 0 hA rfl (by kernel_rfl) (by kernel_rfl) (by kernel_rfl) (by kernel_rfl) (by kernel_rfl) (by rfl) (by rfl) hS ?_ ?_ ?_
  rotate_left 2
  · intro W hSW; go_simp; try with_reducible rfl
  · simp only [List.set_cons_succ, List.set_cons_zero]; rfl
  refine' take_atB 1 hA rfl (by kernel_rfl) (by kernel_rfl) (by kernel_rfl) (by kernel_rfl) (by kernel_rfl) (by rfl) (by rfl) hS ?_ ?_ ?_
  rotate_left 2
  · intro W hSW; go_simp; try with_reducible rfl
  · simp only [List.set_cons_succ, List.set_cons_zero]; rfl
  refine' take_atB 2 hA rfl (by kernel_rfl) (by kernel_rfl) (by kernel_rfl) (by kernel_rfl) (by kernel_rfl) (by rfl) (by rfl) hS ?_ ?_ ?_
  rotate_left 2
  · intro X hSX; have hc : X.cell? ⟨W.heap.size, 4, none⟩ = some (.int .u64 (a4 : Int)) := by { rw [cell_of_row _ _ _ _ _ _ (HRk3.out.below hSX).tail.tail.tail.tail.tail.head, HLa.out]; rfl }; go_simp; try with_reducible rfl
  · simp only [List.set_cons_succ, List.set_cons_zero]; rfl
  refine' take_atB 4 hA rfl (by kernel_rfl) (by kernel_rfl) (by kernel_rfl) (by kernel_rfl) (by kernel_rfl) (by rfl) (by rfl) hS ?_ ?_ ?_
  rotate_left 2
  · intro W hSW; go_simp; try with_reducible rfl
  · simp only [List.set_cons_succ, List.set_cons_zero]; rfl
  refine' take_atB 5 hA rfl (by kernel_rfl) (by kernel_rfl) (by kernel_rfl) (by kernel_rfl) (by kernel_rfl) (by rfl) (by rfl) hS ?_ ?_ ?_
  rotate_left 2
  · intro W hSW; go_simp; try with_reducible rfl
  · simp only [List.set_cons_succ, List.set_cons_zero]; rfl
  refine' take_atB 6 hA rfl (by kernel_rfl) (by kernel_rfl) (by kernel_rfl) (by kernel_rfl) (by kernel_rfl) (by rfl) (by rfl) hS ?_ ?_ ?_
  rotate_left 2
  · intro X hSX; have hc : X.cell? ⟨W.heap.size, 3, none⟩ = some (.int .u64 (a3 : Int)) := by { rw [cell_of_row _ _ _ _ _ _ (HRk3.out.below hSX).tail.tail.tail.tail.tail.head, HLa.out]; rfl }; go_simp; try with_reducible rfl
  · simp only [List.set_cons_succ, List.set_cons_zero]; rfl
  refine' take_atB 8 hA rfl (by kernel_rfl) (by kernel_rfl) (by kernel_rfl) (by kernel_rfl) (by kernel_rfl) (by rfl) (by rfl) hS ?_ ?_ ?_
  rotate_left 2
  · intro W hSW; go_simp; try with_reducible rfl
  · simp only [List.set_cons_succ, List.set_cons_zero]; rfl
  refine' take_atB 9 hA rfl (by kernel_rfl) (by kernel_rfl) (by kernel_rfl) (by kernel_rfl) (by kernel_rfl) (by rfl) (by rfl) hS ?_ ?_ ?_
  rotate_left 2
  · intro X hSX; have hc : X.cell? ⟨W.heap.size, 2, none⟩ = some (.int .u64 (a2 : Int)) := by { rw [cell_of_row _ _ _ _ _ _ (HRk3.out.below hSX).tail.tail.tail.tail.tail.head, HLa.out]; rfl }; go_simp; try with_reducible rfl
  · simp only [List.set_cons_succ, List.set_cons_zero]; rfl
  refine' take_atB 10 hA rfl (by kernel_rfl) (by kernel_rfl) (by kernel_rfl) (by kernel_rfl) (by kernel_rfl) (by rfl) (by rfl) hS ?_ ?_ ?_
  rotate_left 2
  · intro W hSW; go_simp; try with_reducible rfl
  · simp only [List.set_cons_succ, List.set_cons_zero]; rfl
  refine' take_atB 11 hA rfl (by kernel_rfl) (by kernel_rfl) (by kernel_rfl) (by kernel_rfl) (by kernel_rfl) (by rfl) (by rfl) hS ?_ ?_ ?_
  rotate_left 2
  · intro X hSX; have hc : X.cell? ⟨W.heap.size, 2, none⟩ = some (.int .u64 (a2 : Int)) := by { rw [cell_of_row _ _ _ _ _ _ (HRk3.out.below hSX).tail.tail.tail.tail.tail.head, HLa.out]; rfl }; go_simp; try with_reducible rfl
  · simp only [List.set_cons_succ, List.set_cons_zero]; rfl
  refine call_atB 3 hA rfl (by kernel_rfl) (by kernel_rfl) (by kernel_rfl) (by kernel_rfl) (by rfl) (by rfl) hS (fun ok4 Wk4 hS K hK => ?_)
  go_simp
  with_reducible refine (H4_0.out Wk4).mono ?_
  rintro e uk4 ⟨rfl, hbk4⟩
  refine hK.out _ _ hbk4 (fun hS => ?_)
  clear hK K hbk4
  refine call_atB 7 hA rfl (by kernel_rfl) (by kernel_rfl) (by kernel_rfl) (by kernel_rfl) (by rfl) (by rfl) hS (fun ok4 Wk4 hS K hK => ?_)
  go_simp
  with_reducible refine (H4_1.out Wk4).mono ?_
  rintro e uk4 ⟨rfl, hbk4⟩
  refine hK.out _ _ hbk4 (fun hS => ?_)
  clear hK K hbk4
  refine call_atB 12 hA rfl (by kernel_rfl) (by kernel_rfl) (by kernel_rfl) (by kernel_rfl) (by rfl) (by rfl) hS (fun ok4 Wk4 hS K hK => ?_)
  go_simp
  with_reducible refine (H4_2.out Wk4).mono ?_
  rintro e uk4 ⟨rfl, hbk4⟩
  refine hK.out _ _ hbk4 (fun hS => ?_)
  clear hK K hbk4
  refine' store_atB 14 hA rfl (by kernel_rfl) (by kernel_rfl) (by kernel_rfl) hS (by kernel_rfl) rfl (by intro h; cases h) i4 sz4 on4 ?_ ?_
  rotate_left 1
  · intro g; simp only [List.set_cons_succ, List.set_cons_zero]; rfl
  intro gk4 Wk4 hgk4 hbk4 hrowk4
  clear hA hS
  refine wpAnyH_done (by kernel_rfl) ?_ _
  refine NoPanic.normal ?_
  (try simp only [Act.put])
  have HRk4 : Hid (RowsW Wk4 [(gk4, V4, 92), (gk3, V3, 92), (gk2, V2, 92), (gk1, V1, 92), (gk0, V0, 92), (W.heap.size + 1, #[.int .u64 0, .int .u64 0, .int .u64 0, .int .u64 0, .int .u64 0], 26), (W.heap.size, La, 26)]) := Lib.hid ⟨hrowk4, HRk3.out.below hbk4⟩
  have HBk4 := Lib.hid (below_next HBk3.out hbk4)
  clear hgk4 hbk4 hrowk4
  go_upto_region 8 with fail
  have l0 := HRk4.out.tail.tail.tail.tail.head
  have l1 := HRk4.out.tail.tail.tail.head
  have l2 := HRk4.out.tail.tail.head
  have l3 := HRk4.out.tail.head
  have l4 := HRk4.out.head
  go_wp2_with (first | (refine wpList_runsV (o := ⟨some 89, _, _, _, _, _⟩) rfl (.agg V0) (run_loadR rfl rfl l0 Try.underlying92 rfl i0) ?_) | (refine wpList_runsV (o := ⟨some 90, _, _, _, _, _⟩) rfl (.agg V1) (run_loadR rfl rfl l1 Try.underlying92 rfl i1) ?_) | (refine wpList_runsV (o := ⟨some 91, _, _, _, _, _⟩) rfl (.agg V2) (run_loadR rfl rfl l2 Try.underlying92 rfl i2) ?_) | (refine wpList_runsV (o := ⟨some 92, _, _, _, _, _⟩) rfl (.agg V3) (run_loadR rfl rfl l3 Try.underlying92 rfl i3) ?_) | (refine wpList_runsV (o := ⟨some 93, _, _, _, _, _⟩) rfl (.agg V4) (run_loadR rfl rfl l4 Try.underlying92 rfl i4) ?_))
  with_reducible refine (HN.out _).mono ?_
  rintro e w2 ⟨S, rfl, hR, hb2⟩
  have hr2 := (HRk4.out.below hb2).tail.tail.tail.tail.tail.head
  have iS := feR_info hR
  have sS := feR_size hR
  have oS := feR_one hR
  have HP : Hid (∀ w', Below W.heap.size W w' → RetFe feR W nn (.returned (.agg S)) w') := Lib.hid fun w' hb => ⟨S, rfl, hR, hb⟩
  have HE : Hid (Below W.heap.size W (w2.setRow (W.heap.size + 1) S)) := Lib.hid (below_row (below_next HBk4.out hb2) (by omega))
  clear hb2 hR
  go_wp2_with (refine wpList_store_row rfl 26 (.tmp 2) (.tmp 94) rfl (W.heap.size + 1) S rfl rfl 26 #[.int .u64 0, .int .u64 0, .int .u64 0, .int .u64 0, .int .u64 0] hr2 iS sS oS ?_)
  (try simp only [Exit.inBlock, Exit.then])
  refine bodyPost_ret (results_cell_row rfl _ _ (W.heap.size + 1) _ S _ _ rfl (setRow_heap w2 _ _ _ _ _ hr2) Try.underlying26 rfl iS) rfl ?_
  exact HP.out _ HE.out
end Go.Proofs.Ytfejabfmhddepaa

