/- What layer 15's walks ask of package model; the document's example. -/
import Derived.Test.YtlbkpmcccipfhaaRefMdl2
import Derived.Test.YtlbkpmcccipfhaaRetV
namespace Go.Proofs.Ytlbkpmcccipfhaa
open Go.RowKit
set_option linter.unusedVariables false
set_option maxRecDepth 100000

/-- 'T W g t F': at block g lies the tree t, within the blocks F -/
abbrev TrP := World → Nat → Tm → (Nat → Prop) → Prop
abbrev HoldC : Prop := ∀ p : Int, -9223372036854775808 ≤ p → p ≤ 9223372036854775807 → ∀ W : World, Calls Try.prog 27 #[.int .i64 p] W (RetV W (.int .i64 (holdI p : Int)))
abbrev AdaptC : Prop := ∀ p bit : Int, -9223372036854775808 ≤ p → p ≤ 9223372036854775807 → -9223372036854775808 ≤ bit → bit ≤ 9223372036854775807 → ∀ W : World, Calls Try.prog 23 #[.int .i64 p, .int .i64 bit] W (RetV W (.int .i64 (adI p bit : Int)))
/-- what a tree is -/
structure TrB (T : TrP) : Prop where
  ok : ∀ {W g t F}, T W g t F → t.ok
  lt : ∀ {W g t F}, T W g t F → ∀ j, F j → j < W.heap.size
  keep : ∀ {W W' g t F} (Q : Nat → Prop), T W g t F → Only Q W W' → (∀ j, F j → ¬ Q j) → T W' g t F
abbrev TrNewC (T : TrP) : Prop := ∀ b : Int, -9223372036854775808 ≤ b → b ≤ 9223372036854775807 → ∀ W : World, Calls Try.prog 11 #[.int .i64 b] W fun e w' => ∃ g F, e = .returned (.pointer (some ⟨g, 0, none⟩)) ∧ T w' g (Tm.new b) F ∧ (∀ j, F j → W.heap.size ≤ j) ∧ Below W.heap.size W w'
abbrev TrAtC (T : TrP) : Prop := ∀ {W : World} {g : Nat} {t : Tm} {F : Nat → Prop}, T W g t F → ∀ n : Int, -9223372036854775808 ≤ n → n ≤ 9223372036854775807 → Calls Try.prog 20 #[.pointer (some ⟨g, 0, none⟩), .int .i64 n] W (RetV W (.int .i64 (t.at_ n : Int)))
abbrev TrTurnC (T : TrP) : Prop := ∀ {W : World} {g : Nat} {t : Tm} {F : Nat → Prop}, T W g t F → ∀ n bit : Int, -9223372036854775808 ≤ n → n ≤ 9223372036854775807 → -9223372036854775808 ≤ bit → bit ≤ 9223372036854775807 →
  Calls Try.prog 24 #[.pointer (some ⟨g, 0, none⟩), .int .i64 n, .int .i64 bit] W fun e w' => e = .returned (.tuple #[]) ∧ ∃ F', T w' g (t.turn n bit) F' ∧ (∀ j, F' j → F j ∨ W.heap.size ≤ j) ∧ Only F W w'
theorem TrB.below {T : TrP} (B : TrB T) {W W' : World} {g : Nat} {t : Tm} {F : Nat → Prop} (h : T W g t F) (hb : Below W.heap.size W W') : T W' g t F :=
  B.keep (fun _ => False) h (Only.of_below hb) (fun _ _ h => h)
/-- package model -/
structure MdC (T : TrP) : Prop where
  base : TrB T
  hold : HoldC
  adapt : AdaptC
  new : TrNewC T
  at_ : TrAtC T
  turn : TrTurnC T

end Go.Proofs.Ytlbkpmcccipfhaa

