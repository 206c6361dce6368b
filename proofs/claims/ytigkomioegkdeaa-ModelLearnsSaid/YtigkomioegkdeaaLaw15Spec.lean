/- What layer 15's walks ask of package model; the document's example. -/
import Derived.Test.YtigkomioegkdeaaRefMdl2
import Derived.Test.YtigkomioegkdeaaRetV
namespace Go.Proofs.Ytigkomioegkdeaa
open Go.RowKit
set_option linter.unusedVariables false
set_option maxRecDepth 100000

/-- 'T W g t F': at block g lies the tree t, within the blocks F -/
abbrev TrP := World → Nat → Tm → (Nat → Prop) → Prop
abbrev HoldC : Prop := ∀ p : Int, -9223372036854775808 ≤ p → p ≤ 9223372036854775807 → ∀ W : World, Calls Try.prog 13 #[.int .i64 p] W (RetV W (.int .i64 (holdI p : Int)))
abbrev AdaptC : Prop := ∀ p bit : Int, -9223372036854775808 ≤ p → p ≤ 9223372036854775807 → -9223372036854775808 ≤ bit → bit ≤ 9223372036854775807 → ∀ W : World, Calls Try.prog 14 #[.int .i64 p, .int .i64 bit] W (RetV W (.int .i64 (adI p bit : Int)))
/-- what a tree is -/
structure TrB (T : TrP) : Prop where
  ok : ∀ {W g t F}, T W g t F → t.ok
  lt : ∀ {W g t F}, T W g t F → ∀ j, F j → j < W.heap.size
  keep : ∀ {W W' g t F} (Q : Nat → Prop), T W g t F → Only Q W W' → (∀ j, F j → ¬ Q j) → T W' g t F
abbrev TrNewC (T : TrP) : Prop := ∀ b : Int, -9223372036854775808 ≤ b → b ≤ 9223372036854775807 → ∀ W : World, Calls Try.prog 7 #[.int .i64 b] W fun e w' => ∃ g F, e = .returned (.pointer (some ⟨g, 0, none⟩)) ∧ T w' g (Tm.new b) F ∧ (∀ j, F j → W.heap.size ≤ j) ∧ Below W.heap.size W w'
abbrev TrAtC (T : TrP) : Prop := ∀ {W : World} {g : Nat} {t : Tm} {F : Nat → Prop}, T W g t F → ∀ n : Int, -9223372036854775808 ≤ n → n ≤ 9223372036854775807 → Calls Try.prog 11 #[.pointer (some ⟨g, 0, none⟩), .int .i64 n] W (RetV W (.int .i64 (t.at_ n : Int)))
abbrev TrTurnC (T : TrP) : Prop := ∀ {W : World} {g : Nat} {t : Tm} {F : Nat → Prop}, T W g t F → ∀ n bit : Int, -9223372036854775808 ≤ n → n ≤ 9223372036854775807 → -9223372036854775808 ≤ bit → bit ≤ 9223372036854775807 →
  Calls Try.prog 9 #[.pointer (some ⟨g, 0, none⟩), .int .i64 n, .int .i64 bit] W fun e w' => e = .returned (.tuple #[]) ∧ ∃ F', T w' g (t.turn n bit) F' ∧ (∀ j, F' j → F j ∨ W.heap.size ≤ j) ∧ Only F W w'
theorem TrB.below {T : TrP} (B : TrB T) {W W' : World} {g : Nat} {t : Tm} {F : Nat → Prop} (h : T W g t F) (hb : Below W.heap.size W W') : T W' g t F :=
  B.keep (fun _ => False) h (Only.of_below hb) (fun _ _ h => h)
/-- package model -/
structure MdC (T : TrP) : Prop where
  base : TrB T
  hold : HoldC
  adapt : AdaptC
  new : TrNewC T
  at_ : TrAtC T
  turn : TrTurnC T

set_option maxHeartbeats 800000 in
theorem alive15_any {T : TrP} (D : MdC T) (w : World) : Calls Try.prog 6 #[] w fun e w' => e = .returned (.bool true) ∧ Below w.heap.size w w' := by
  have HN := Lib.hid (fun W : World => D.new 2 (by omega) (by omega) W)
  have HA0 : Hid (∀ W : World, Calls Try.prog 14 #[.int .i64 1024, .int .i64 0] W (RetV W (.int .i64 1056))) := Lib.hid fun W => D.adapt 1024 0 (by omega) (by omega) (by omega) (by omega) W
  have HA1 : Hid (∀ W : World, Calls Try.prog 14 #[.int .i64 1024, .int .i64 1] W (RetV W (.int .i64 992))) := Lib.hid fun W => D.adapt 1024 1 (by omega) (by omega) (by omega) (by omega) W
  go_enter Try.func6, Try.ntmps6
  go_wp2_with fail
  with_reducible refine (HN.out _).mono ?_
  rintro e v1 ⟨g, F, rfl, hT, hF, hb1⟩
  have HT1 := Lib.hid hT
  have HB1 := Lib.hid hb1
  clear hT hF hb1
  go_wp2_with fail
  with_reducible refine (HA0.out _).mono ?_
  rintro e v2 ⟨rfl, hb2⟩
  have HT2 := Lib.hid (D.base.below HT1.out hb2)
  have HB2 := Lib.hid (below_then HB1.out hb2)
  clear hb2 HT1 HB1
  go_wp2_with fail
  with_reducible refine (HA1.out _).mono ?_
  rintro e v3 ⟨rfl, hb3⟩
  have HT3 := Lib.hid (D.base.below HT2.out hb3)
  have HB3 := Lib.hid (below_then HB2.out hb3)
  clear hb3 HT2 HB2
  go_wp2_with fail
  have HQ1 : Hid (Calls Try.prog 11 #[.pointer (some ⟨g, 0, none⟩), .int .i64 1] v3 (RetV v3 (.int .i64 1024))) := Lib.hid (D.at_ HT3.out 1 (by omega) (by omega))
  with_reducible refine HQ1.out.mono ?_
  rintro e v4 ⟨rfl, hb4⟩
  have HT4 := Lib.hid (D.base.below HT3.out hb4)
  have HB4 := Lib.hid (below_then HB3.out hb4)
  clear hb4 HT3 HB3 HQ1
  go_wp2_with fail
  have HQ2 : Hid (Calls Try.prog 11 #[.pointer (some ⟨g, 0, none⟩), .int .i64 3] v4 (RetV v4 (.int .i64 1024))) := Lib.hid (D.at_ HT4.out 3 (by omega) (by omega))
  with_reducible refine HQ2.out.mono ?_
  rintro e v5 ⟨rfl, hb5⟩
  have HB5 := Lib.hid (below_then HB4.out hb5)
  clear hb5 HT4 HB4 HQ2
  go_wp2_with fail
  go_ret
  exact ⟨rfl, HB5.out⟩
end Go.Proofs.Ytigkomioegkdeaa

