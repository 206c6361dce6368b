/- What layer 16's walks ask of package coder; the document's example. -/
import Derived.Test.YtlbkpmcccipfhaaLaw15Spec
import Derived.Test.YtlbkpmcccipfhaaRefCod3
namespace Go.Proofs.Ytlbkpmcccipfhaa
open Go.RowKit
set_option linter.unusedVariables false
set_option maxRecDepth 100000

/-- 'C W g c F': at block g lies a coder in state c, within the blocks F -/
abbrev CoP := World → Nat → Cd → (Nat → Prop) → Prop
structure CoB (C : CoP) : Prop where
  ok : ∀ {W g c F}, C W g c F → c.ok
  lt : ∀ {W g c F}, C W g c F → ∀ j, F j → j < W.heap.size
  keep : ∀ {W W' g c F} (Q : Nat → Prop), C W g c F → Only Q W W' → (∀ j, F j → ¬ Q j) → C W' g c F
theorem CoB.below {C : CoP} (B : CoB C) {W W' : World} {g : Nat} {c : Cd} {F : Nat → Prop} (h : C W g c F) (hb : Below W.heap.size W W') : C W' g c F :=
  B.keep (fun _ => False) h (Only.of_below hb) (fun _ _ h => h)
abbrev CoNewC (C : CoP) : Prop := ∀ W : World, Calls Try.prog 9 #[] W fun e w' => ∃ g F, e = .returned (.pointer (some ⟨g, 0, none⟩)) ∧ C w' g Cd.new F ∧ (∀ j, F j → W.heap.size ≤ j) ∧ Below W.heap.size W w'
/-- what a call leaves of a coder -/
def CoPost (C : CoP) (W : World) (g : Nat) (c' : Cd) (F : Nat → Prop) (w' : World) : Prop := ∃ F', C w' g c' F' ∧ (∀ j, F' j → F j ∨ W.heap.size ≤ j) ∧ Only F W w'
abbrev CoBitC (C : CoP) : Prop := ∀ {W : World} {g : Nat} {c : Cd} {F : Nat → Prop}, C W g c F → c.k ≤ 80000 → ∀ p bit : Int, -9223372036854775808 ≤ p → p ≤ 9223372036854775807 → -9223372036854775808 ≤ bit → bit ≤ 9223372036854775807 →
  Calls Try.prog 13 #[.pointer (some ⟨g, 0, none⟩), .int .i64 p, .int .i64 bit] W fun e w' => e = .returned (.int .i64 (adI p bit : Int)) ∧ CoPost C W g (c.bit p (decide (bit = 0))) F w'
abbrev CoHalfC (C : CoP) : Prop := ∀ {W : World} {g : Nat} {c : Cd} {F : Nat → Prop}, C W g c F → c.k ≤ 80000 → ∀ bit : Int, -9223372036854775808 ≤ bit → bit ≤ 9223372036854775807 →
  Calls Try.prog 15 #[.pointer (some ⟨g, 0, none⟩), .int .i64 bit] W fun e w' => e = .returned (.tuple #[]) ∧ CoPost C W g (c.half (decide (bit = 0))) F w'
abbrev CoDoneC (C : CoP) : Prop := ∀ {W : World} {g : Nat} {c : Cd} {F : Nat → Prop}, C W g c F → c.k ≤ 90000 → Calls Try.prog 19 #[.pointer (some ⟨g, 0, none⟩)] W (RetOb 5 W c.out)
abbrev CoTreeC (C : CoP) (T : TrP) : Prop := ∀ {W : World} {g tg : Nat} {c : Cd} {t : Tm} {F G : Nat → Prop}, C W g c F → T W tg t G → (∀ j, F j → ¬ G j) → c.k ≤ 80000 → ∀ v : Int, -9223372036854775808 ≤ v → v ≤ 9223372036854775807 →
  Calls Try.prog 17 #[.pointer (some ⟨g, 0, none⟩), .pointer (some ⟨tg, 0, none⟩), .int .i64 v] W fun e w' => e = .returned (.tuple #[]) ∧ ∃ F' G', C w' g (c.tree t v).1 F' ∧ T w' tg (c.tree t v).2 G' ∧
    (∀ j, F' j → F j ∨ W.heap.size ≤ j) ∧ (∀ j, G' j → G j ∨ W.heap.size ≤ j) ∧ (∀ j, F' j → ¬ G' j) ∧ Only (fun j => F j ∨ G j) W w'
abbrev CoBitNo : Prop := ∀ (p bit : Int) (W : World), -9223372036854775808 ≤ p → p ≤ 9223372036854775807 → -9223372036854775808 ≤ bit → bit ≤ 9223372036854775807 → Calls Try.prog 13 #[.pointer none, .int .i64 p, .int .i64 bit] W (RetV W (.int .i64 0))
abbrev CoHalfNo : Prop := ∀ (bit : Int) (W : World), -9223372036854775808 ≤ bit → bit ≤ 9223372036854775807 → Calls Try.prog 15 #[.pointer none, .int .i64 bit] W (RetV W (.tuple #[]))
abbrev CoDoneNo : Prop := ∀ W : World, Calls Try.prog 19 #[.pointer none] W (RetOb 5 W [])
abbrev CoTreeNo (T : TrP) : Prop := ∀ {W : World} {tg : Nat} {t : Tm} {G : Nat → Prop}, T W tg t G → ∀ v : Int, -9223372036854775808 ≤ v → v ≤ 9223372036854775807 → Calls Try.prog 17 #[.pointer none, .pointer (some ⟨tg, 0, none⟩), .int .i64 v] W (RetV W (.tuple #[]))
abbrev CoTreeNil (C : CoP) : Prop := ∀ {W : World} {g : Nat} {c : Cd} {F : Nat → Prop}, C W g c F → ∀ v : Int, -9223372036854775808 ≤ v → v ≤ 9223372036854775807 → Calls Try.prog 17 #[.pointer (some ⟨g, 0, none⟩), .pointer none, .int .i64 v] W (RetV W (.tuple #[]))
/-- packages model and coder, as layer 16's laws call them -/
structure Cd16 (C : CoP) (T : TrP) : Prop where
  base : CoB C
  tb : TrB T
  adapt : AdaptC
  tnew : TrNewC T
  tat : TrAtC T
  tturn : TrTurnC T
  new : CoNewC C
  bit : CoBitC C
  half : CoHalfC C
  done : CoDoneC C
  tree : CoTreeC C T
  bitNo : CoBitNo
  halfNo : CoHalfNo
  doneNo : CoDoneNo
  treeNo : CoTreeNo T
  treeNil : CoTreeNil C

theorem Ob.form16 {E : TypeId} {w : World} {base n : Nat} {v : Value} {l : List UInt8} (h : Ob E w base v l) (hn : l.length = n) : ∃ A c, v = .slice A n c ∧ Bs w A l := by
  subst hn
  obtain ⟨A, c, e, hb, _⟩ := h.form
  exact ⟨A, c, e, hb⟩
theorem conv16 {W : World} {A : Option Addr} {l : List UInt8} {n c : Nat} (h : Bs W A l) (hn : l.length = n) : (convert 38 9 (.slice A n c)).run Try.prog W = .ok (.string (strB l)) W :=
  run_conv_bs W _ 5 _ Try.underlying38 Try.underlying5 Try.underlying9 A l c n h hn.symm
theorem new_out : Cd.new.out = [0, 0, 0, 0] := by decide
theorem half_out : (Cd.new.half false).out = [127, 255, 255, 255] := by decide +kernel
theorem half_k : (Cd.new.half false).k = 0 := by decide +kernel

set_option maxHeartbeats 1600000 in
theorem alive16_any {C : CoP} {T : TrP} (D : Cd16 C T) (w : World) : Calls Try.prog 8 #[] w fun e w' => e = .returned (.bool true) ∧ Below w.heap.size w w' := by
  have HN := Lib.hid D.new
  go_enter Try.func8, Try.ntmps8
  go_wp2_with fail
  with_reducible refine (HN.out _).mono ?_
  rintro e v1 ⟨g, F, rfl, hc1, hF1, hb1⟩
  have HC1 := Lib.hid hc1
  have HF1 := Lib.hid hF1
  have HB1 := Lib.hid hb1
  clear hc1 hF1 hb1
  go_wp2_with fail
  with_reducible refine (HN.out _).mono ?_
  rintro e v2 ⟨g2, F2, rfl, hc2, hF2, hb2⟩
  have HC2 := Lib.hid hc2
  have HF2 := Lib.hid hF2
  have HC1' := Lib.hid (D.base.below HC1.out hb2)
  have HB2 := Lib.hid (below_then HB1.out hb2)
  have HSZ := Lib.hid hb2.size
  have HLT := Lib.hid (D.base.lt HC1.out)
  have HDI : Hid (∀ j, F j → ¬ F2 j) := Lib.hid fun j h1 h2 => by have := D.base.lt HC1.out j h1; have := HF2.out j h2; omega
  have HB1S : Hid (w.heap.size ≤ v1.heap.size) := Lib.hid HB1.out.size
  clear hc2 hF2 hb2 HB1 HC1
  have HHA : Hid (Calls Try.prog 15 #[.pointer (some ⟨g2, 0, none⟩), .int .i64 1] v2 fun e w' => e = .returned (.tuple #[]) ∧ CoPost C v2 g2 (Cd.new.half false) F2 w') := Lib.hid (D.half HC2.out (by decide) 1 (by omega) (by omega))
  go_wp2_with fail
  with_reducible refine HHA.out.mono ?_
  rintro e v3 ⟨rfl, F3, hc3, hF3, ho3⟩
  have HC3 := Lib.hid hc3
  have HCX : Hid (C v3 g Cd.new F) := Lib.hid (D.base.keep F2 HC1'.out ho3 HDI.out)
  have HB3 : Hid (Below w.heap.size w v3) := Lib.hid (HB2.out.trans (ho3.below HB2.out.size (fun k hk hf => by have h1 := HF2.out k hf; have h2 := HB1S.out; omega)))
  have HDJ : Hid (∀ j, F j → ¬ F3 j) := Lib.hid fun j h1 h2 => by
    rcases hF3 j h2 with a | a
    · exact HDI.out j h1 a
    · have h3 := HLT.out j h1
      have h4 := HSZ.out
      omega
  clear hc3 hF3 ho3 HHA HC2 HC1' HDI HB2 HF2
  go_wp2_with fail
  with_reducible refine (D.done HCX.out (by decide)).mono ?_
  rintro e v4 ⟨x4, rfl, ho4, hb4⟩
  rw [new_out] at ho4
  obtain ⟨A4, c4, rfl, hbs4⟩ := ho4.form16 (n := 4) rfl
  have cv4 : (convert 38 9 (.slice A4 4 c4)).run Try.prog v4 = .ok (.string { data := #[0, 0, 0, 0] }) v4 := conv16 hbs4 rfl
  have HC4 := Lib.hid (D.base.below HC3.out hb4)
  have HX4 := Lib.hid (D.base.below HCX.out hb4)
  have HB4 := Lib.hid (below_then HB3.out hb4)
  clear ho4 hb4 hbs4 HC3 HCX HB3
  go_wp2_with fail
  have HD4 := Lib.hid (D.done HC4.out (by rw [half_k]; decide))
  rw [half_out] at HD4
  with_reducible refine HD4.out.mono ?_
  rintro e v5 ⟨x5, rfl, ho5, hb5⟩
  obtain ⟨A5, c5, rfl, hbs5⟩ := ho5.form16 (n := 4) rfl
  have cv5 : (convert 38 9 (.slice A5 4 c5)).run Try.prog v5 = .ok (.string { data := #[127, 255, 255, 255] }) v5 := conv16 hbs5 rfl
  have HX5 := Lib.hid (D.base.below HX4.out hb5)
  have HB5 := Lib.hid (below_then HB4.out hb5)
  clear ho5 hb5 hbs5 HC4 HX4 HB4 cv4 HD4
  go_wp2_with fail
  have HBT : Hid (Calls Try.prog 13 #[.pointer (some ⟨g, 0, none⟩), .int .i64 1024, .int .i64 0] v5 fun e w' => e = .returned (.int .i64 1056) ∧ CoPost C v5 g (Cd.new.bit 1024 true) F w') := Lib.hid (D.bit HX5.out (by decide) 1024 0 (by omega) (by omega) (by omega) (by omega))
  with_reducible refine HBT.out.mono ?_
  rintro e v6 ⟨rfl, F6, hc6, hF6, ho6⟩
  have HE : Hid (Below w.heap.size w v6) := Lib.hid (HB5.out.trans (ho6.below HB5.out.size (fun k hk hf => by have := HF1.out k hf; omega)))
  clear hc6 hF6 ho6 HBT HX5 HB5 cv5
  go_wp2_with fail
  go_ret
  exact ⟨rfl, HE.out⟩
end Go.Proofs.Ytlbkpmcccipfhaa

