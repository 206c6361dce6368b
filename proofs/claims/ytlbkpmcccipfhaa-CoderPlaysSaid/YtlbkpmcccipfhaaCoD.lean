/- The landed coder: sizeOf, Tree, calls on nil; all of it together. -/
import Derived.Test.YtlbkpmcccipfhaaCoC
import Derived.Test.YtlbkpmcccipfhaaGbase
namespace Go.Proofs.Ytlbkpmcccipfhaa
open Go.RowKit
set_option linter.unusedVariables false
set_option maxRecDepth 100000

theorem hasnil_any (n : Int) (W : World) : Calls Try.prog 36 #[.pointer none, .int .i64 n] W fun e w' => e = .returned (.bool false) ∧ w' = W := by
  go_enter Try.func36, Try.ntmps36
  go_wp2_with fail
  go_ret
  exact ⟨rfl, rfl⟩
theorem patnil_any (n : Int) (W : World) : Calls Try.prog 20 #[.pointer none, .int .i64 n] W fun e w' => e = .returned (.int .i64 0) ∧ w' = W := by
  have HH := Lib.hid (hasnil_any n W)
  go_enter Try.func20, Try.ntmps20
  go_wp2_with fail
  with_reducible refine HH.out.mono ?_
  rintro e w' ⟨rfl, rfl⟩
  go_wp2_with fail
  go_ret
  exact ⟨rfl, rfl⟩

set_option maxHeartbeats 800000 in
theorem pcsizenil_any (W : World) : Calls Try.prog 33 #[.pointer none] W fun e w' => e = .returned (.int .i64 0) ∧ w' = W := by
  have HA := Lib.hid (fun n W => patnil_any n W)
  have t1 : wrap64 (2 ^ 0) = 1 := by decide +kernel
  go_enter Try.func33, Try.ntmps33
  go_wp2_with fail
  go_loopw [3] (fun s_ wr => s_ = .int .i64 0 ∧ wr = W) (fun _ _ => 0)
  case atStart => exact ⟨rfl, rfl⟩
  case round =>
    obtain ⟨rfl, rfl⟩ := hrel
    go_wp2_with fail
    with_reducible refine (HA.out _ _).mono ?_
    rintro e w' ⟨rfl, rfl⟩
    go_wp2_with fail
    go_ret
    exact ⟨rfl, rfl⟩

set_option maxHeartbeats 1600000 in
theorem pcsize_any {T : TrP} (D : MdC T) {W : World} {tg : Nat} {t : Tm} {G : Nat → Prop} (h : T W tg t G) : Calls Try.prog 33 #[.pointer (some ⟨tg, 0, none⟩)] W (RetV W (.int .i64 (t.bits : Int))) := by
  have hok := D.base.ok h
  have hb1 := hok.b1
  have hb2 := hok.b2
  have HAT : Hid (∀ s, s ≤ t.bits → ∀ V, Below W.heap.size W V → ∃ q : Nat, (q = 0 ↔ s = t.bits) ∧ Calls Try.prog 20 #[.pointer (some ⟨tg, 0, none⟩), .int .i64 ((2 ^ s : Nat) : Int)] V (RetV V (.int .i64 (q : Int)))) := Lib.hid fun s hs V hV => by
    have hsp : 2 ^ s ≤ 256 := Nat.le_trans (Nat.pow_le_pow_right (n := 2) (by decide) hs) (Tm.pow_hi hok)
    have hpos : 1 ≤ 2 ^ s := Nat.one_le_two_pow
    have hlt : s ≠ t.bits → 2 ^ s < 2 ^ t.bits := fun he => Nat.pow_lt_pow_right (by decide) (by omega)
    have hee : s = t.bits → 2 ^ s = 2 ^ t.bits := fun he => by rw [he]
    obtain ⟨m, hm⟩ : ∃ m, 2 ^ s = m := ⟨_, rfl⟩
    obtain ⟨M, hM⟩ : ∃ M, 2 ^ t.bits = M := ⟨_, rfl⟩
    rw [hm] at hsp hpos hlt hee ⊢
    rw [hM] at hlt hee
    refine ⟨t.at_ (m : Int), ?_, D.at_ (D.base.below h hV) _ (by omega) (by omega)⟩
    by_cases he : s = t.bits
    · have hmm := hee he
      have : ¬ t.is (m : Int) := fun hh => by have := hh.2; rw [hM] at this; omega
      unfold Tm.at_
      rw [if_neg this]
      exact ⟨fun _ => he, fun _ => rfl⟩
    · have hmm := hlt he
      have : t.is (m : Int) := ⟨by omega, by rw [hM]; omega⟩
      unfold Tm.at_
      rw [if_pos this]
      have := hok.lo (Int.toNat (m : Int))
      exact ⟨fun e => by omega, fun e => absurd e he⟩
  obtain ⟨b, hb⟩ : ∃ b, t.bits = b := ⟨_, rfl⟩
  rw [hb] at HAT hb1 hb2 ⊢
  have HPW : Hid (∀ s, s ≤ 8 → wrap64 (2 ^ s) = ((2 ^ s : Nat) : Int) ∧ wrap64 (2 ^ min s 64) = ((2 ^ s : Nat) : Int)) := Lib.hid fun s hs => by
    have h8 : s = 0 ∨ s = 1 ∨ s = 2 ∨ s = 3 ∨ s = 4 ∨ s = 5 ∨ s = 6 ∨ s = 7 ∨ s = 8 := by omega
    rcases h8 with rfl | rfl | rfl | rfl | rfl | rfl | rfl | rfl | rfl <;> decide +kernel
  clear hb hok h
  go_enter Try.func33, Try.ntmps33
  go_wp2_with fail
  go_loopw [3] (fun s_ wr => ∃ s : Nat, s ≤ b ∧ s_ = .int .i64 (s : Int) ∧ Hid (Below W.heap.size W wr)) (fun s_ _ => b - (intOf s_).toNat)
  case atStart => exact ⟨0, by omega, rfl, Lib.hid (Below.refl _ _)⟩
  case round =>
    obtain ⟨s, hs, rfl, HB⟩ := hrel
    obtain ⟨q, hq, hc⟩ := HAT.out s hs wr HB.out
    obtain ⟨t1, t2⟩ := HPW.out s (by omega)
    have HC := Lib.hid hc
    have b0 : 0 ≤ (s : Int) := by omega
    generalize ((2 ^ s : Nat) : Int) = m at *
    by_cases he : s = b
    · have hq0 : q = 0 := hq.2 he
      subst hq0
      subst he
      clear hq hc hb1 hb2 hs
      go_wp2_with fail
      with_reducible refine HC.out.mono ?_
      rintro e w2 ⟨rfl, hb2⟩
      have HB2 := Lib.hid (below_then HB.out hb2)
      clear hb2 HC HB
      go_wp2_with fail
      go_ret
      exact ⟨rfl, HB2.out⟩
    · have hq0 : ¬ q = 0 := fun e => he (hq.1 e)
      have d1 : ((q : Int) == 0) = false := by simp; omega
      have d2 : ¬ (q : Int) = 0 := by omega
      have hs1 : s < b := by omega
      have t3 : IntKind.i64.wrap ((s : Int) + 1) = ((s + 1 : Nat) : Int) := by rw [IntKind.wrap_i64]; omega
      clear hq hc hb1 hb2 hs hq0 he
      go_wp2_with fail
      with_reducible refine HC.out.mono ?_
      rintro e w2 ⟨rfl, hb2⟩
      have HB2 := Lib.hid (below_then HB.out hb2)
      clear hb2 HC HB
      go_wp2_with fail
      go_roundw
      case rel => exact ⟨s + 1, hs1, rfl, HB2⟩
      case measure => simp [intOf]; omega
end Go.Proofs.Ytlbkpmcccipfhaa

