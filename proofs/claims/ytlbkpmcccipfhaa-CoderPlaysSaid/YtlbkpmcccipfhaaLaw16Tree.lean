/- CoderTree walked, over whatever the program's coder and tree are. -/
import Derived.Test.YtlbkpmcccipfhaaFour
import Derived.Test.YtlbkpmcccipfhaaRowsArg
import Derived.Test.YtlbkpmcccipfhaaGbase
namespace Go.Proofs.Ytlbkpmcccipfhaa
open Go.RowKit
set_option linter.unusedVariables false
set_option maxRecDepth 100000

theorem mask16_1 (n : Int) : bits .and .i64 n 1 = n % 2 := by
  have hm : (BitVec.ofInt 64 1).toNat = 2 ^ 1 - 1 := by decide
  have key : (BitVec.ofInt 64 n &&& BitVec.ofInt 64 1).toNat = (n % ((2 ^ 64 : Nat) : Int)).toNat % 2 ^ 1 := by
    rw [BitVec.toNat_and, hm, Nat.and_two_pow_sub_one_eq_mod, BitVec.toNat_ofInt]
  show IntKind.i64.wrap ((BitVec.ofInt 64 n &&& BitVec.ofInt 64 1).toNat : Nat) = n % 2
  rw [key, IntKind.wrap_i64]
  omega
theorem mask16_2 (n : Int) : bits .and .i64 n 3 = n % 4 := by
  have hm : (BitVec.ofInt 64 3).toNat = 2 ^ 2 - 1 := by decide
  have key : (BitVec.ofInt 64 n &&& BitVec.ofInt 64 3).toNat = (n % ((2 ^ 64 : Nat) : Int)).toNat % 2 ^ 2 := by
    rw [BitVec.toNat_and, hm, Nat.and_two_pow_sub_one_eq_mod, BitVec.toNat_ofInt]
  show IntKind.i64.wrap ((BitVec.ofInt 64 n &&& BitVec.ofInt 64 3).toNat : Nat) = n % 4
  rw [key, IntKind.wrap_i64]
  omega
theorem mask16_3 (n : Int) : bits .and .i64 n 7 = n % 8 := by
  have hm : (BitVec.ofInt 64 7).toNat = 2 ^ 3 - 1 := by decide
  have key : (BitVec.ofInt 64 n &&& BitVec.ofInt 64 7).toNat = (n % ((2 ^ 64 : Nat) : Int)).toNat % 2 ^ 3 := by
    rw [BitVec.toNat_and, hm, Nat.and_two_pow_sub_one_eq_mod, BitVec.toNat_ofInt]
  show IntKind.i64.wrap ((BitVec.ofInt 64 n &&& BitVec.ofInt 64 7).toNat : Nat) = n % 8
  rw [key, IntKind.wrap_i64]
  omega
theorem mask16_4 (n : Int) : bits .and .i64 n 15 = n % 16 := by
  have hm : (BitVec.ofInt 64 15).toNat = 2 ^ 4 - 1 := by decide
  have key : (BitVec.ofInt 64 n &&& BitVec.ofInt 64 15).toNat = (n % ((2 ^ 64 : Nat) : Int)).toNat % 2 ^ 4 := by
    rw [BitVec.toNat_and, hm, Nat.and_two_pow_sub_one_eq_mod, BitVec.toNat_ofInt]
  show IntKind.i64.wrap ((BitVec.ofInt 64 n &&& BitVec.ofInt 64 15).toNat : Nat) = n % 16
  rw [key, IntKind.wrap_i64]
  omega
theorem mask16_5 (n : Int) : bits .and .i64 n 31 = n % 32 := by
  have hm : (BitVec.ofInt 64 31).toNat = 2 ^ 5 - 1 := by decide
  have key : (BitVec.ofInt 64 n &&& BitVec.ofInt 64 31).toNat = (n % ((2 ^ 64 : Nat) : Int)).toNat % 2 ^ 5 := by
    rw [BitVec.toNat_and, hm, Nat.and_two_pow_sub_one_eq_mod, BitVec.toNat_ofInt]
  show IntKind.i64.wrap ((BitVec.ofInt 64 n &&& BitVec.ofInt 64 31).toNat : Nat) = n % 32
  rw [key, IntKind.wrap_i64]
  omega
theorem mask16_6 (n : Int) : bits .and .i64 n 63 = n % 64 := by
  have hm : (BitVec.ofInt 64 63).toNat = 2 ^ 6 - 1 := by decide
  have key : (BitVec.ofInt 64 n &&& BitVec.ofInt 64 63).toNat = (n % ((2 ^ 64 : Nat) : Int)).toNat % 2 ^ 6 := by
    rw [BitVec.toNat_and, hm, Nat.and_two_pow_sub_one_eq_mod, BitVec.toNat_ofInt]
  show IntKind.i64.wrap ((BitVec.ofInt 64 n &&& BitVec.ofInt 64 63).toNat : Nat) = n % 64
  rw [key, IntKind.wrap_i64]
  omega
theorem mask16_7 (n : Int) : bits .and .i64 n 127 = n % 128 := by
  have hm : (BitVec.ofInt 64 127).toNat = 2 ^ 7 - 1 := by decide
  have key : (BitVec.ofInt 64 n &&& BitVec.ofInt 64 127).toNat = (n % ((2 ^ 64 : Nat) : Int)).toNat % 2 ^ 7 := by
    rw [BitVec.toNat_and, hm, Nat.and_two_pow_sub_one_eq_mod, BitVec.toNat_ofInt]
  show IntKind.i64.wrap ((BitVec.ofInt 64 n &&& BitVec.ofInt 64 127).toNat : Nat) = n % 128
  rw [key, IntKind.wrap_i64]
  omega
theorem mask16_8 (n : Int) : bits .and .i64 n 255 = n % 256 := by
  have hm : (BitVec.ofInt 64 255).toNat = 2 ^ 8 - 1 := by decide
  have key : (BitVec.ofInt 64 n &&& BitVec.ofInt 64 255).toNat = (n % ((2 ^ 64 : Nat) : Int)).toNat % 2 ^ 8 := by
    rw [BitVec.toNat_and, hm, Nat.and_two_pow_sub_one_eq_mod, BitVec.toNat_ofInt]
  show IntKind.i64.wrap ((BitVec.ofInt 64 n &&& BitVec.ofInt 64 255).toNat : Nat) = n % 256
  rw [key, IntKind.wrap_i64]
  omega
theorem mask16 (n : Int) (b m : Nat) (h1 : 1 ≤ b) (h2 : b ≤ 8) (hm : 2 ^ b = m) : ∃ y : Nat, y < m ∧ bits .and .i64 n ((m : Int) - 1) = (y : Int) := by
  have h8 : b = 1 ∨ b = 2 ∨ b = 3 ∨ b = 4 ∨ b = 5 ∨ b = 6 ∨ b = 7 ∨ b = 8 := by omega
  rcases h8 with rfl | rfl | rfl | rfl | rfl | rfl | rfl | rfl
  · have e : m = 2 := by rw [← hm]
    subst e
    exact ⟨(n % 2).toNat, by omega, by rw [show (((2 : Nat) : Int) - 1) = 1 by decide, mask16_1]; omega⟩
  · have e : m = 4 := by rw [← hm]
    subst e
    exact ⟨(n % 4).toNat, by omega, by rw [show (((4 : Nat) : Int) - 1) = 3 by decide, mask16_2]; omega⟩
  · have e : m = 8 := by rw [← hm]
    subst e
    exact ⟨(n % 8).toNat, by omega, by rw [show (((8 : Nat) : Int) - 1) = 7 by decide, mask16_3]; omega⟩
  · have e : m = 16 := by rw [← hm]
    subst e
    exact ⟨(n % 16).toNat, by omega, by rw [show (((16 : Nat) : Int) - 1) = 15 by decide, mask16_4]; omega⟩
  · have e : m = 32 := by rw [← hm]
    subst e
    exact ⟨(n % 32).toNat, by omega, by rw [show (((32 : Nat) : Int) - 1) = 31 by decide, mask16_5]; omega⟩
  · have e : m = 64 := by rw [← hm]
    subst e
    exact ⟨(n % 64).toNat, by omega, by rw [show (((64 : Nat) : Int) - 1) = 63 by decide, mask16_6]; omega⟩
  · have e : m = 128 := by rw [← hm]
    subst e
    exact ⟨(n % 128).toNat, by omega, by rw [show (((128 : Nat) : Int) - 1) = 127 by decide, mask16_7]; omega⟩
  · have e : m = 256 := by rw [← hm]
    subst e
    exact ⟨(n % 256).toNat, by omega, by rw [show (((256 : Nat) : Int) - 1) = 255 by decide, mask16_8]; omega⟩
/-- two of the program's coders and two of its trees -/
structure P4 (C : CoP) (T : TrP) (w W : World) (g h tg ug : Nat) (c d : Cd) (t u : Tm) (F R G S : Nat → Prop) : Prop where
  co : C W g c F
  c2 : C W h d R
  tr : T W tg t G
  t2 : T W ug u S
  ap : Ap4 w.heap.size W.heap.size F R G S
  below : Below w.heap.size w W
section
variable {C : CoP} {T : TrP} {w W W' : World} {g h tg ug : Nat} {c d : Cd} {t u : Tm} {F R G S : Nat → Prop}
theorem P4.low (x : P4 C T w W g h tg ug c d t u F R G S) (B : CoB C) (E : TrB T) (hb : Below W.heap.size W W') : P4 C T w W' g h tg ug c d t u F R G S :=
  ⟨B.below x.co hb, B.below x.c2 hb, E.below x.tr hb, E.below x.t2 hb, x.ap.grow hb.size, below_then x.below hb⟩
theorem P4.tree (x : P4 C T w W g h tg ug c d t u F R G S) (B : CoB C) (E : TrB T) {c' : Cd} {t' : Tm} {F' G' : Nat → Prop} (h1 : C W' g c' F') (h2 : T W' tg t' G') (h3 : ∀ j, F' j → F j ∨ W.heap.size ≤ j) (h4 : ∀ j, G' j → G j ∨ W.heap.size ≤ j) (h5 : ∀ j, F' j → ¬ G' j) (h6 : Only (fun j => F j ∨ G j) W W') :
    P4 C T w W' g h tg ug c' d t' u F' R G' S := by
  have ap := x.ap
  exact ⟨h1, B.keep _ x.c2 h6 (fun j a e => by rcases e with e | e; exact ap.fr _ e a; exact ap.rg _ a e), h2, E.keep _ x.t2 h6 (fun j a e => by rcases e with e | e; exact ap.fs _ e a; exact ap.gs _ e a),
    ap.both x.below.size h6.size h3 h4 h5 (B.lt h1) (E.lt h2), Only.low x.below h6 (fun j a => by rcases a with a | a; exact (ap.f j a).1; exact (ap.g j a).1)⟩
theorem P4.bit (x : P4 C T w W g h tg ug c d t u F R G S) (B : CoB C) (E : TrB T) {d' : Cd} (hp : CoPost C W h d' R W') : ∃ R', P4 C T w W' g h tg ug c d' t u F R' G S := by
  obtain ⟨R', h1, h2, h3⟩ := hp
  have ap := x.ap
  exact ⟨R', B.keep R x.co h3 (fun j a e => ap.fr j a e), h1, E.keep R x.tr h3 (fun j a e => ap.rg j e a), E.keep R x.t2 h3 (fun j a e => ap.rs j e a), ap.two x.below.size h3.size h2 (B.lt h1), Only.low x.below h3 (fun j a => (ap.r j a).1)⟩
theorem P4.turn (x : P4 C T w W g h tg ug c d t u F R G S) (B : CoB C) (E : TrB T) {u' : Tm} {S' : Nat → Prop} (h1 : T W' ug u' S') (h2 : ∀ j, S' j → S j ∨ W.heap.size ≤ j) (h3 : Only S W W') : P4 C T w W' g h tg ug c d t u' F R G S' := by
  have ap := x.ap
  exact ⟨B.keep S x.co h3 (fun j a e => ap.fs j a e), B.keep S x.c2 h3 (fun j a e => ap.rs j a e), E.keep S x.tr h3 (fun j a e => ap.gs j a e), h1, (ap.turn.three x.below.size h3.size h2 (E.lt h1)).turn.turn.turn, Only.low x.below h3 (fun j a => (ap.s j a).1)⟩
end

set_option maxHeartbeats 12800000 in
theorem law16Tree {C : CoP} {T : TrP} (D : Cd16 C T) (w : World) (wd : Int) (hw1 : -9223372036854775808 ≤ wd) (hw2 : wd ≤ 9223372036854775807) (A : Option Addr) (L : List Int) (n c : Nat) (hn : L.length = n) (hL : IntRow w A L) : Calls Try.prog 6 #[.int .i64 wd, .slice A n c] w fun e w' => e = .returned (.bool true) ∧ Below w.heap.size w w' := by
  have HAL := Lib.hid (fun W : World => alive16_any D W)
  have HL := Lib.hid hL
  have HN := Lib.hid hn
  clear hL hn
  go_enter Try.func6, Try.ntmps6
  go_wp2_with fail
  with_reducible refine (HAL.out _).mono ?_
  rintro e v1 ⟨rfl, hb1⟩
  have HB1 := Lib.hid hb1
  clear hb1
  by_cases ha : wd < 1
  · have d1 : decide (wd < 1) = true := decide_eq_true ha
    go_wp2_with fail
    go_ret
    exact ⟨rfl, HB1.out⟩
  · have d1 : decide (wd < 1) = false := decide_eq_false ha
    by_cases hb : 8 < wd
    · have d2 : decide (8 < wd) = true := decide_eq_true hb
      go_wp2_with fail
      go_ret
      exact ⟨rfl, HB1.out⟩
    · have d2 : decide (8 < wd) = false := decide_eq_false hb
      obtain ⟨b, rfl⟩ : ∃ b : Nat, wd = (b : Int) := ⟨wd.toNat, by omega⟩
      by_cases hc : 60 < n
      · have d3 : decide ((60 : Int) < (n : Int)) = true := decide_eq_true (by omega)
        have d3' : decide (60 < n) = true := decide_eq_true hc
        go_wp2_with fail
        go_ret
        exact ⟨rfl, HB1.out⟩
      · have d3 : decide ((60 : Int) < (n : Int)) = false := decide_eq_false (by omega)
        have d3' : decide (60 < n) = false := decide_eq_false hc
        have hb1 : 1 ≤ b := by omega
        have hb8 : b ≤ 8 := by omega
        have HTN := Lib.hid (fun W : World => D.tnew (b : Int) (by omega) (by omega) W)
        have HCB : Hid (capT (b : Int) = b) := Lib.hid (by unfold capT; rw [if_neg (by omega), if_neg (by omega)]; omega)
        obtain ⟨m, hm⟩ : ∃ m, 2 ^ b = m := ⟨_, rfl⟩
        have hml : 2 ≤ m := by rw [← hm]; exact Nat.pow_le_pow_right (n := 2) (by decide) hb1
        have hmh : m ≤ 256 := by rw [← hm]; exact Nat.pow_le_pow_right (n := 2) (by decide) hb8
        have f1 : IntKind.u64.wrap (b : Int) = (b : Int) := by rw [IntKind.wrap_u64]; omega
        have f2 : wrap64 (2 ^ min b 64) = (m : Int) := by
          have h8 : b = 1 ∨ b = 2 ∨ b = 3 ∨ b = 4 ∨ b = 5 ∨ b = 6 ∨ b = 7 ∨ b = 8 := by omega
          rw [← hm]
          rcases h8 with rfl | rfl | rfl | rfl | rfl | rfl | rfl | rfl <;> decide +kernel
        have f3 : IntKind.i64.wrap ((m : Int) - 1) = (m : Int) - 1 := by rw [IntKind.wrap_i64]; omega
        have f4 : IntKind.i64.wrap ((b : Int) - 1) = (b : Int) - 1 := by rw [IntKind.wrap_i64]; omega
        have b0 : 0 ≤ (b : Int) := by omega
        have HM := Lib.hid hm
        have HML : Hid (2 ≤ m ∧ m ≤ 256 ∧ 1 ≤ b ∧ b ≤ 8 ∧ n ≤ 60) := Lib.hid ⟨hml, hmh, hb1, hb8, by omega⟩
        clear ha hb hc hw1 hw2 hm hml hmh hb1 hb8
        go_wp2_with fail
        with_reducible refine (D.new _).mono ?_
        rintro e v2 ⟨g, F, rfl, hc2, hF2, hb2⟩
        have HC2 := Lib.hid hc2
        have HF2 := Lib.hid hF2
        have HB2 := Lib.hid (below_then HB1.out hb2)
        have HS2 := Lib.hid HB1.out.size
        clear hc2 hF2 hb2 HB1
        go_wp2_with fail
        with_reducible refine (D.new _).mono ?_
        rintro e v3 ⟨h, R, rfl, hc3, hF3, hb3⟩
        have HC3 := Lib.hid (D.base.below HC2.out hb3)
        have HD3 := Lib.hid hc3
        have HR3 := Lib.hid hF3
        have HL2 := Lib.hid (D.base.lt HC2.out)
        have HS3 := Lib.hid HB2.out.size
        have HZ2 : Hid (v2.heap.size ≤ v3.heap.size) := Lib.hid hb3.size
        have HB3 := Lib.hid (below_then HB2.out hb3)
        clear hc3 hF3 hb3 HB2 HC2
        go_wp2_with fail
        with_reducible refine (HTN.out _).mono ?_
        rintro e v4 ⟨tg, G, rfl, ht4, hG4, hb4⟩
        have HC4 := Lib.hid (D.base.below HC3.out hb4)
        have HD4 := Lib.hid (D.base.below HD3.out hb4)
        have HT4 := Lib.hid ht4
        have HG4 := Lib.hid hG4
        have HL3 := Lib.hid (D.base.lt HD3.out)
        have HS4 : Hid (w.heap.size ≤ v3.heap.size) := Lib.hid HB3.out.size
        have HZ3 : Hid (v3.heap.size ≤ v4.heap.size) := Lib.hid hb4.size
        have HB4 := Lib.hid (below_then HB3.out hb4)
        clear ht4 hG4 hb4 HC3 HD3 HB3
        go_wp2_with fail
        with_reducible refine (HTN.out _).mono ?_
        rintro e v5 ⟨ug, S, rfl, ht5, hS5, hb5⟩
        have HI : Hid (P4 C T w v5 g h tg ug Cd.new Cd.new (Tm.new (b : Int)) (Tm.new (b : Int)) F R G S) := Lib.hid (by
          have e1 := HS2.out
          have e2 := HS3.out
          have e3 := HS4.out
          have e4 := HZ3.out
          have e5 := hb5.size
          have L4 := D.tb.lt HT4.out
          have L5 := D.tb.lt ht5
          refine ⟨D.base.below HC4.out hb5, D.base.below HD4.out hb5, D.tb.below HT4.out hb5, ht5, ⟨fun j a => ?_, fun j a => ?_, fun j a => ?_, fun j a => ?_, fun j a x => ?_, fun j a x => ?_, fun j a x => ?_, fun j a x => ?_, fun j a x => ?_, fun j a x => ?_⟩, below_then HB4.out hb5⟩
          · have := HF2.out j a; have := HL2.out j a; have := HL3.out; have := D.base.lt HC4.out j a; omega
          · have := HR3.out j a; have := HL3.out j a; omega
          · have := HG4.out j a; have := L4 j a; omega
          · have := hS5 j a; have := L5 j a; omega
          · have := HL2.out j a; have := HR3.out j x; omega
          · have := D.base.lt HC4.out j a; have := HL2.out j a; have := HG4.out j x; have := HR3.out; have h7 : v2.heap.size ≤ v3.heap.size := HZ2.out; omega
          · have := D.base.lt HC4.out j a; have := hS5 j x; omega
          · have := HL3.out j a; have := HG4.out j x; omega
          · have := HL3.out j a; have := hS5 j x; omega
          · have := L4 j a; have := hS5 j x; omega)
        have HBT : Hid ((Tm.new (b : Int)).bits = b) := HCB
        clear ht5 hS5 hb5 HC4 HD4 HT4 HG4 HB4 HF2 HL2 HR3 HL3 HS2 HS3 HS4 HZ3 HTN HCB HZ2
        generalize Tm.new (b : Int) = t0 at *
        go_wp2_with fail
        go_loopw [10] (fun i_ wr => ∃ (k : Nat) (c : Cd) (t : Tm) (F R G S : Nat → Prop), k ≤ n ∧ i_ = .int .i64 (k : Int) ∧ Hid (c.k ≤ 8 * k) ∧ Hid (t.bits = b) ∧ Hid (P4 C T w wr g h tg ug c c t t F R G S)) (fun i_ _ => n - (intOf i_).toNat)
        case atStart => exact ⟨0, Cd.new, t0, F, R, G, S, by omega, rfl, Lib.hid (by decide), HBT, HI⟩
        case round =>
          clear HI HBT
          obtain ⟨k, c, t, F, R, G, S, hk, rfl, HK, HBT, HI⟩ := hrel
          by_cases hlt : k < n
          · have d4 : decide ((k : Int) < (n : Int)) = true := decide_eq_true (by omega)
            have d4' : decide (k < n) = true := decide_eq_true hlt
            obtain ⟨ga, oa, rfl, hcs⟩ := HL.out.below HI.out.below (by rw [HN.out]; omega)
            have hcx := (hcs k (by rw [HN.out]; exact hlt)).1
            obtain ⟨x, hx⟩ : ∃ x, L.getD k 0 = x := ⟨_, rfl⟩
            rw [hx] at hcx
            obtain ⟨y, hy, hyb⟩ := mask16 x b m HML.out.2.2.1 HML.out.2.2.2.1 HM.out
            have b1 : 0 ≤ (k : Int) := by omega
            have b2 : (k : Int) < (n : Int) := by omega
            have HKL : Hid (c.k ≤ 80000) := Lib.hid (by have := HK.out; have := HML.out.2.2.2.2; omega)
            have n5 : IntKind.i64.wrap ((k : Int) + 1) = (k : Int) + 1 := by rw [IntKind.wrap_i64]; have := HML.out.2.2.2.2; omega
            have HLT := Lib.hid hlt
            have HTE := Lib.hid (D.tree HI.out.co HI.out.tr HI.out.ap.fg HKL.out (y : Int) (by omega) (by have := HML.out.2.1; omega))
            have HTT : Hid (c.tree t (y : Int) = codT y b c t 1) := Lib.hid (by unfold Cd.tree; rw [HBT.out, HM.out, if_pos (by omega)]; rfl)
            have HYM : Hid (y < m ∧ y < 256) := Lib.hid ⟨hy, by have := HML.out.2.1; omega⟩
            clear hcs hx hy hlt hk
            go_wp2_with fail
            with_reducible refine HTE.out.mono ?_
            rintro e w2 ⟨rfl, F2, G2, p1, p2, p3, p4, p5, p6⟩
            rw [HTT.out] at p1 p2
            have HQ := Lib.hid (HI.out.tree D.base D.tb p1 p2 p3 p4 p5 p6)
            have HCO : Hid (c.ok ∧ t.ok) := Lib.hid ⟨D.base.ok HI.out.co, D.tb.ok HI.out.tr⟩
            clear p1 p2 p3 p4 p5 p6 HTE HTT HI hcx
            go_wp2_with fail
            go_loopw [12, 13] (fun n_ j_ wr => ∃ (r node : Nat) (d : Cd) (u : Tm) (R S : Nat → Prop), r ≤ b ∧ n_ = .int .i64 (node : Int) ∧ j_ = .int .i64 ((r : Int) - 1) ∧ Hid (2 ^ (b - r) ≤ node) ∧ Hid (node < 2 ^ (b - r + 1)) ∧ Hid (codT y r d u node = codT y b c t 1) ∧ Hid (u.bits = b) ∧ Hid (d.k + r ≤ c.k + b) ∧ Hid (P4 C T w wr g h tg ug (codT y b c t 1).1 d (codT y b c t 1).2 u F2 R G2 S)) (fun _ j_ _ => (intOf j_ + 1).toNat)
            case atStart => exact ⟨b, 1, c, t, R, S, Nat.le_refl _, rfl, rfl, Lib.hid (by rw [Nat.sub_self]; decide), Lib.hid (by rw [Nat.sub_self]; decide), Lib.hid rfl, HBT, Lib.hid (Nat.le_refl _), HQ⟩
            case round =>
              clear HQ
              obtain ⟨r, node, d, u, R, S, hr, rfl, rfl, HN1, HN2, HCT, HBU, HKK, HQ⟩ := hrel
              by_cases hr0 : 0 < r
              · obtain ⟨i, rfl⟩ : ∃ i, r = i + 1 := ⟨r - 1, by omega⟩
                have ei : ((i + 1 : Nat) : Int) - 1 = (i : Int) := by omega
                rw [ei]
                have hnode : node < m := by rw [← HM.out]; exact node_lt hr0 hr HN2.out
                have hnode1 : 1 ≤ node := Nat.le_trans (Nat.one_le_two_pow) HN1.out
                have hbb := HML.out
                have hi8 : i < 8 := by omega
                obtain ⟨q, hq⟩ : ∃ q, y / 2 ^ i = q := ⟨_, rfl⟩
                have hql : q < 256 := by rw [← hq]; exact Nat.lt_of_le_of_lt (Nat.div_le_self _ _) HYM.out.2
                obtain ⟨z, hz⟩ : ∃ z, q % 2 = z := ⟨_, rfl⟩
                have hz2 : z < 2 := by omega
                have t1 : IntKind.u64.wrap (i : Int) = (i : Int) := by rw [IntKind.wrap_u64]; omega
                have t2 : (y : Int) / 2 ^ i = (q : Int) := by rw [← hq]; simp
                have t3 : bits .and .i64 (q : Int) 1 = (z : Int) := by rw [i64_and1 q hql, hz]
                have hct := HCT.out
                rw [codT, hq, hz] at hct
                have HCT2 := Lib.hid hct
                have HZD : Hid (decide ((z : Int) = 0) = decide (z = 0)) := Lib.hid (by
                  by_cases h0 : z = 0
                  · subst h0; rfl
                  · rw [decide_eq_false h0, decide_eq_false (by omega)])
                have uok := D.tb.ok HQ.out.t2
                have hat : u.at_ (node : Int) = u.p node := Tm.at_in uok hnode1 (by rw [HBU.out, HM.out]; exact hnode)
                obtain ⟨pr, hpr⟩ : ∃ x, u.p node = x := ⟨_, rfl⟩
                rw [hpr] at hat HCT2
                have hprl : pr ≤ 2017 := by rw [← hpr]; exact uok.hi node
                have hrange : (node : Int) ≤ 9223372036854775807 := by omega
                have HATC : Hid (∀ W : World, T W ug u S → Calls Try.prog 20 #[.pointer (some ⟨ug, 0, none⟩), .int .i64 (node : Int)] W (RetV W (.int .i64 (pr : Int)))) := Lib.hid (fun W ht => by
                  have := D.tat ht (node : Int) (by omega) (by omega)
                  rwa [hat] at this)
                have HBTC : Hid (∀ W : World, C W h d R → Calls Try.prog 13 #[.pointer (some ⟨h, 0, none⟩), .int .i64 (pr : Int), .int .i64 (z : Int)] W fun e w' => e = .returned (.int .i64 (adI (pr : Int) (z : Int) : Int)) ∧ CoPost C W h (d.bit (pr : Int) (decide (z = 0))) R w') := Lib.hid (fun W ht => by
                  have := D.bit ht (by have := HKK.out; have := HKL.out; have := HML.out.2.2.2.1; have := HK.out; have := HLT.out; omega) (pr : Int) (z : Int) (by omega) (by omega) (by omega) (by omega)
                  rwa [HZD.out] at this)
                have HADC : Hid (∀ W : World, Calls Try.prog 23 #[.int .i64 (pr : Int), .int .i64 (z : Int)] W (RetV W (.int .i64 (adI (pr : Int) (z : Int) : Int)))) := Lib.hid fun W => D.adapt (pr : Int) (z : Int) (by omega) (by omega) (by omega) (by omega) W
                obtain ⟨av, hav⟩ : ∃ x, adI (pr : Int) (z : Int) = x := ⟨_, rfl⟩
                rw [hav] at HBTC HADC
                have HTUC : Hid (∀ W : World, T W ug u S → Calls Try.prog 24 #[.pointer (some ⟨ug, 0, none⟩), .int .i64 (node : Int), .int .i64 (z : Int)] W fun e w' => e = .returned (.tuple #[]) ∧ ∃ F', T w' ug (u.turn (node : Int) (z : Int)) F' ∧ (∀ j, F' j → S j ∨ W.heap.size ≤ j) ∧ Only S W w') := Lib.hid (fun W ht => D.tturn ht (node : Int) (z : Int) (by omega) (by omega) (by omega) (by omega))
                have n1 : IntKind.i64.wrap (2 * (node : Int)) = ((2 * node : Nat) : Int) := by rw [IntKind.wrap_i64]; omega
                have n2 : IntKind.i64.wrap (((2 * node : Nat) : Int) + (z : Int)) = ((2 * node + z : Nat) : Int) := by rw [IntKind.wrap_i64]; omega
                obtain ⟨n2x, hn2x⟩ : ∃ y, 2 * node = y := ⟨_, rfl⟩
                obtain ⟨nn, hnn⟩ : ∃ y, n2x + z = y := ⟨_, rfl⟩
                rw [hn2x] at n1 n2 HCT2
                rw [hnn] at n2 HCT2
                have HNA : Hid (2 ^ (b - i) ≤ nn ∧ nn < 2 ^ (b - i + 1)) := Lib.hid (by
                  have a1 := HN1.out
                  have a2 := HN2.out
                  have e1 : b - i = b - (i + 1) + 1 := by omega
                  rw [e1, Nat.pow_succ (m := b - (i + 1) + 1), Nat.pow_succ]
                  rw [Nat.pow_succ] at a2
                  omega)
                have n3 : IntKind.i64.wrap ((i : Int) - 1) = (i : Int) - 1 := by rw [IntKind.wrap_i64]; omega
                have d5 : decide (0 ≤ (i : Int)) = true := decide_eq_true (by omega)
                have b3 : 0 ≤ (i : Int) := by omega
                have HI8 : Hid (i ≤ b) := Lib.hid (by omega)
                have HKN : Hid ((d.bit (pr : Int) (decide (z = 0))).k + i ≤ c.k + b) := Lib.hid (by have := Cd.bit_k d (pr : Int) (decide (z = 0)); have := HKK.out; omega)
                have HBN : Hid ((u.turn (node : Int) (z : Int)).bits = b) := Lib.hid (by rw [Tm.turn_bits]; exact HBU.out)
                clear HN1 HN2 HCT HKK HBU hct hq hz hql hz2 uok hat hpr hprl hrange hav hn2x hnn hbb hnode hnode1 hr hr0
                go_wp2_with fail
                with_reducible refine (HATC.out _ HQ.out.t2).mono ?_
                rintro e w3 ⟨rfl, hb3⟩
                have HQ3 := Lib.hid (HQ.out.low D.base D.tb hb3)
                clear hb3 HQ
                go_wp2_with fail
                with_reducible refine (HBTC.out _ HQ3.out.c2).mono ?_
                rintro e w4 ⟨rfl, hp4⟩
                obtain ⟨R4, hq4⟩ := HQ3.out.bit D.base D.tb hp4
                have HQ4 := Lib.hid hq4
                clear hp4 hq4 HQ3
                go_wp2_with fail
                with_reducible refine (HATC.out _ HQ4.out.t2).mono ?_
                rintro e w5 ⟨rfl, hb5⟩
                have HQ5 := Lib.hid (HQ4.out.low D.base D.tb hb5)
                clear hb5 HQ4
                go_wp2_with fail
                with_reducible refine (HADC.out _).mono ?_
                rintro e w6 ⟨rfl, hb6⟩
                have HQ6 := Lib.hid (HQ5.out.low D.base D.tb hb6)
                clear hb6 HQ5
                go_wp2_with fail
                with_reducible refine (HTUC.out _ HQ6.out.t2).mono ?_
                rintro e w7 ⟨rfl, S7, q1, q2, q3⟩
                have HQ7 := Lib.hid (HQ6.out.turn D.base D.tb q1 q2 q3)
                clear q1 q2 q3 HQ6
                go_wp2_with fail
                go_roundw
                case rel => exact ⟨i, nn, _, _, R4, S7, HI8.out, rfl, rfl, Lib.hid HNA.out.1, Lib.hid HNA.out.2, HCT2, HBN, HKN, HQ7⟩
                case measure => simp [intOf] <;> omega
              · have hr00 : r = 0 := by omega
                subst hr00
                have d5 : decide (0 ≤ ((0 : Nat) : Int) - 1) = false := by decide
                have hct := HCT.out
                rw [codT] at hct
                have h1 := congrArg Prod.fst hct
                have h2 := congrArg Prod.snd hct
                simp only at h1 h2
                have HQN : Hid (P4 C T w wr g h tg ug d d u u F2 R G2 S) := Lib.hid (by have := HQ.out; rw [← h1, ← h2] at this; exact this)
                have HKN : Hid (d.k ≤ 8 * (k + 1)) := Lib.hid (by have := HKK.out; have := HK.out; have := HML.out.2.2.2.1; omega)
                clear hct h1 h2 HQ HCT hr hr0
                go_wp2_with fail
                go_roundw
                case rel => exact ⟨k + 1, d, u, F2, R, G2, S, by have := HLT.out; omega, by go_num, HKN, HBU, HQN⟩
                case measure => have := HLT.out; simp [intOf]; omega
          · have d4 : decide ((k : Int) < (n : Int)) = false := decide_eq_false (by omega)
            have d4' : decide (k < n) = false := decide_eq_false hlt
            have HKE : Hid (c.k ≤ 90000) := Lib.hid (by have := HK.out; have := HML.out.2.2.2.2; omega)
            clear hlt hk
            go_wp2_with fail
            go_loopw [15] (fun i_ wr => ∃ j : Nat, j ≤ m ∧ i_ = .int .i64 (j : Int) ∧ Hid (P4 C T w wr g h tg ug c c t t F R G S)) (fun i_ _ => m - (intOf i_).toNat)
            case atStart => exact ⟨0, by omega, rfl, HI⟩
            case round =>
              clear HI
              obtain ⟨j, hj, rfl, HI⟩ := hrel
              have hmm := HML.out
              by_cases hjm : j < m
              · have d5 : decide ((j : Int) < (m : Int)) = true := decide_eq_true (by omega)
                have d5' : decide (j < m) = true := decide_eq_true hjm
                have HA1 := Lib.hid (D.tat HI.out.tr (j : Int) (by omega) (by omega))
                have HA2 : Hid (∀ W : World, T W ug t S → Calls Try.prog 20 #[.pointer (some ⟨ug, 0, none⟩), .int .i64 (j : Int)] W (RetV W (.int .i64 (t.at_ (j : Int) : Int)))) := Lib.hid (fun W ht => D.tat ht (j : Int) (by omega) (by omega))
                have n6 : IntKind.i64.wrap ((j : Int) + 1) = (j : Int) + 1 := by rw [IntKind.wrap_i64]; omega
                have HJ := Lib.hid hjm
                clear hmm hj hjm
                go_wp2_with fail
                with_reducible refine HA1.out.mono ?_
                rintro e w3 ⟨rfl, hb3⟩
                have HI3 := Lib.hid (HI.out.low D.base D.tb hb3)
                clear hb3 HI HA1
                go_wp2_with fail
                with_reducible refine (HA2.out _ HI3.out.t2).mono ?_
                rintro e w4 ⟨rfl, hb4⟩
                have HI4 := Lib.hid (HI3.out.low D.base D.tb hb4)
                clear hb4 HI3 HA2
                go_wp2_with fail
                go_roundw
                case rel => exact ⟨j + 1, by have := HJ.out; omega, by go_num, HI4⟩
                case measure => have := HJ.out; simp [intOf]; omega
              · have d5 : decide ((j : Int) < (m : Int)) = false := decide_eq_false (by omega)
                have d5' : decide (j < m) = false := decide_eq_false hjm
                obtain ⟨lo, hlo⟩ : ∃ l, c.out = l := ⟨_, rfl⟩
                obtain ⟨ln, hln⟩ : ∃ l, lo.length = l := ⟨_, rfl⟩
                obtain ⟨sp, hsp⟩ : ∃ l, strB lo = l := ⟨_, rfl⟩
                have HDN : Hid (∀ (W : World) (x : Nat) (X : Nat → Prop), C W x c X → Calls Try.prog 19 #[.pointer (some ⟨x, 0, none⟩)] W (RetOb 5 W lo)) := Lib.hid (fun W x X hx => by rw [← hlo]; exact D.done hx HKE.out)
                have HLN := Lib.hid hln
                have HSP := Lib.hid hsp
                clear hlo hln hsp hmm hj hjm
                go_upto_region 29 with fail
                refine wp_region_noPanic ?_
                refine wp_region_held_drew (S := fun V => Below wr.heap.size wr V) (by kernel_rfl) (by exact (Below.refl _ _).drew) (fun hS => ?_)
                refine' take_at 0 rfl (by kernel_rfl) (by kernel_rfl) (by kernel_rfl) (fun _ _ _ h => h) (by rfl) hS ?_ ?_ ?_
                rotate_left 2
                · intro W hSW; go_simp; try with_reducible rfl
                · simp only [List.set_cons_succ, List.set_cons_zero]; rfl
                refine' take_at 3 rfl (by kernel_rfl) (by kernel_rfl) (by kernel_rfl) (fun _ _ _ h => h) (by rfl) hS ?_ ?_ ?_
                rotate_left 2
                · intro W hSW; go_simp; try with_reducible rfl
                · simp only [List.set_cons_succ, List.set_cons_zero]; rfl
                refine call_at 1 rfl (by kernel_rfl) (by rfl) (fun K hK => ?_)
                go_simp
                with_reducible refine (HDN.out _ _ _ (D.base.below HI.out.co (Below.refl wr.heap.size wr).drew)).mono ?_
                rintro e vA ⟨xA, rfl, hoA, hbA⟩
                obtain ⟨AA, cA, rfl, hbsA⟩ := hoA.form16 HLN.out
                have kSA := below_then hS hbA
                have cvA : ∀ V, Below vA.heap.size vA V → (convert 38 9 (.slice AA ln cA)).run Try.prog V = .ok (.string sp) V := fun V hV => by
                  rw [← HSP.out]
                  exact conv16 (hbsA.below hV) HLN.out
                clear hS
                refine hK.out _ _ (by exact kSA) (fun hS => ?_)
                clear hK K
                refine held_mono (S2 := fun V => Below vA.heap.size vA V) (fun V hV => kSA.trans (hV.mono kSA.size)) _ _ _ _ ?_
                replace hS : Below vA.heap.size vA vA := Below.refl _ _
                have HQA := Lib.hid (HI.out.low D.base D.tb kSA)
                clear hoA hbA hbsA kSA
                refine' take_at 2 rfl (by kernel_rfl) (by kernel_rfl) (by kernel_rfl) (fun _ _ _ h => h) (by rfl) hS ?_ ?_ ?_
                rotate_left 2
                · intro W hSW; have ca := cvA W hSW; go_simp; try with_reducible rfl
                · simp only [List.set_cons_succ, List.set_cons_zero]; rfl
                refine call_at 4 rfl (by kernel_rfl) (by rfl) (fun K hK => ?_)
                go_simp
                with_reducible refine (HDN.out _ _ _ (D.base.below HQA.out.c2 hS)).mono ?_
                rintro e vB ⟨xB, rfl, hoB, hbB⟩
                obtain ⟨AB, cB, rfl, hbsB⟩ := hoB.form16 HLN.out
                have kSB := below_then hS hbB
                have cvB : ∀ V, Below vB.heap.size vB V → (convert 38 9 (.slice AB ln cB)).run Try.prog V = .ok (.string sp) V := fun V hV => by
                  rw [← HSP.out]
                  exact conv16 (hbsB.below hV) HLN.out
                clear hS
                refine hK.out _ _ (by exact kSB) (fun hS => ?_)
                clear hK K
                have kbB : Below vA.heap.size vA vB := kSB
                refine held_mono (S2 := fun V => Below vB.heap.size vB V) (fun V hV => kSB.trans (hV.mono kSB.size)) _ _ _ _ ?_
                replace hS : Below vB.heap.size vB vB := Below.refl _ _
                clear hoB hbB hbsB kSB
                refine' take_at 5 rfl (by kernel_rfl) (by kernel_rfl) (by kernel_rfl) (fun _ _ _ h => h) (by rfl) hS ?_ ?_ ?_
                rotate_left 2
                · intro W hSW; have ca := cvB W hSW; go_simp; try with_reducible rfl
                · simp only [List.set_cons_succ, List.set_cons_zero]; rfl
                refine' take_at 6 rfl (by kernel_rfl) (by kernel_rfl) (by kernel_rfl) (fun _ _ _ h => h) (by rfl) hS ?_ ?_ ?_
                rotate_left 2
                · intro W hSW; go_simp; try with_reducible rfl
                · simp only [List.set_cons_succ, List.set_cons_zero]; rfl
                refine' take_at 7 rfl (by kernel_rfl) (by kernel_rfl) (by kernel_rfl) (fun _ _ _ h => h) (by rfl) hS ?_ ?_ ?_
                rotate_left 2
                · intro W hSW; go_simp; try with_reducible rfl
                · simp only [List.set_cons_succ, List.set_cons_zero]; rfl
                refine wpAnyH_done (by kernel_rfl) ?_ _
                refine NoPanic.normal ?_
                clear hS
                (try simp only [Act.put])
                have HE := Lib.hid (below_then HQA.out.below kbB)
                clear kbB HQA
                go_wp2_with fail
                go_ret
                exact ⟨rfl, HE.out⟩
end Go.Proofs.Ytlbkpmcccipfhaa

