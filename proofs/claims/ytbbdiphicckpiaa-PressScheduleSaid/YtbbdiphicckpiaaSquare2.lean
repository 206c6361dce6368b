/- The contracts of roots.Square and roots.Cube. -/
import Derived.Test.YtbbdiphicckpiaaSquare
namespace Go.Proofs.Ytbbdiphicckpiaa
open Go.RowKit
set_option linter.unusedVariables false
set_option maxRecDepth 100000

theorem lt16 {x : Nat} (h : x < 2 ^ 16) : x < 65536 := by have e : (2 : Nat) ^ 16 = 65536 := (by decide); omega
theorem lt64 {x : Nat} (h : x < 2 ^ 64) : x < 18446744073709551616 := by have e : (2 : Nat) ^ 64 = 18446744073709551616 := (by decide); omega

set_option maxHeartbeats 3200000 in
theorem cube_any (p : Nat) (hp : p < 18446744073709551616) (w : World) :
    Calls Try.prog 30 #[.int .u64 (p : Int)] w fun e w' => e = .returned (.int .u64 ((sqv true p : Nat) : Int)) ∧ Below w.heap.size w w' := by
  have hmf : ∀ (fn : Fn) (first cap : Array Value) (w : World), (Instr.makeFunc fn first cap).run Try.prog w = .ok (.func fn first cap) w := fun _ _ _ _ => rfl
  by_cases hlt : p < 4294967296
  · obtain ⟨x1, x2, x3⟩ := wh_spec true hlt
    have hend : sqv true p = fr true (wh true p) (p - pw true (wh true p)) := by rw [fr_rt true hlt]; unfold sqv; rw [if_pos hlt]
    obtain ⟨W1, hW1⟩ : ∃ W1, w.alloc (.cells #[.int .u64 (p : Int)] 22) = W1 := ⟨_, rfl⟩
    have cp : W1.cell? ⟨w.heap.size, 0, none⟩ = some (.int .u64 (p : Int)) := by rw [← hW1, cell_of_row _ _ _ _ _ _ (heap_alloc_new _ _)]; rfl
    have hb01 : Below w.heap.size w W1 := by rw [← hW1]; exact (Below.refl _ _).alloc (Nat.le_refl _) _
    have G1 := greatest_any 16 (.inl rfl) (fun x => decide (pw true x ≤ p)) 33 #[.pointer (some ⟨w.heap.size, 0, none⟩)] W1 (enters_of Try.func33 (by kernel_rfl) rfl)
      (fun x hx W hb => cu1_any w.heap.size p x (lt16 hx) W (cell_below cp hb))
    have HG1 : Hid (Calls Try.prog 32 #[.int .i64 16, .func (.func 33) #[] #[.pointer (some ⟨w.heap.size, 0, none⟩)]] W1 fun e w' => e = .returned (.int .u64 ((wh true p : Nat) : Int)) ∧ Below W1.heap.size W1 w') := Lib.hid G1
    clear G1
    obtain ⟨a, ha⟩ : ∃ a, wh true p = a := ⟨_, rfl⟩
    rw [ha] at HG1 x1 x2 x3 hend
    obtain ⟨m, hm⟩ : ∃ m, pw true a = m := ⟨_, rfl⟩
    rw [hm] at x1 hend
    obtain ⟨r, hr⟩ : ∃ r : Nat, p - m = r := ⟨_, rfl⟩
    rw [hr] at hend
    rw [hend]
    have hrl : r < 18446744073709551616 := by omega
    obtain ⟨q, hq⟩ : ∃ q, a * a = q := ⟨_, rfl⟩
    have hql : q ≤ 65535 * 65535 := by rw [← hq]; exact Nat.mul_le_mul (by omega) (by omega)
    have hww : IntKind.u64.wrap ((a : Int) * (a : Int)) = (q : Int) := by
      rw [← Int.natCast_mul, hq, IntKind.wrap_u64]; omega
    have hw3 : IntKind.u64.wrap ((q : Int) * (a : Int)) = (m : Int) := by
      rw [← Int.natCast_mul, ← hq, show a * a * a = m from hm, IntKind.wrap_u64]; omega
    clear hq hql
    have hws : IntKind.u64.wrap ((p : Int) - (m : Int)) = (r : Int) := by rw [IntKind.wrap_u64]; omega
    have HG2 : Hid (∀ (W2 W4 : World) (g h : Nat), W4.cell? ⟨g, 0, none⟩ = some (.int .u64 (a : Int)) → W4.cell? ⟨h, 0, none⟩ = some (.int .u64 (r : Int)) →
        Calls Try.prog 32 #[.int .i64 64, .func (.func 34) #[] #[.pointer (some ⟨g, 0, none⟩), .pointer (some ⟨h, 0, none⟩)]] W4 fun e w' => e = .returned (.int .u64 ((fr true a r : Nat) : Int)) ∧ Below W4.heap.size W4 w') := Lib.hid (fun W2 W4 g h cg ch =>
      greatest_any 64 (.inr rfl) (fun x => decide (ex true a x ≤ r * sc true)) 34 #[.pointer (some ⟨g, 0, none⟩), .pointer (some ⟨h, 0, none⟩)] W4 (enters_of Try.func34 (by kernel_rfl) rfl)
        (fun x hx W hb => cu2_any g h a r x x3 hrl (lt64 hx) W (cell_below cg hb) (cell_below ch hb)))
    generalize fr true a r = v at *
    have HB01 := Lib.hid hb01
    have htest : ¬ 4294967295 < (p : Int) := by omega
    clear ha hend hb01 x1 x2 x3 hm hr hrl hlt hp
    go_enter Try.func30, Try.ntmps30
    go_wp2_with fail
    go_loud (with_reducible refine HG1.out.mono ?_)
    rintro e w2 ⟨rfl, hb2⟩
    have c1 := fun o => cell_alloc (cell_below cp hb2) o
    have HB2 := Lib.hid (below_next HB01.out hb2)
    clear hb2 HB01 HG1 cp hW1
    go_wp2_with fail
    have HB4 := Lib.hid (below_alloc (below_alloc HB2.out (.cells #[.int .u64 (a : Int)] 22)) (.cells #[.int .u64 (r : Int)] 22))
    have HG3 := Lib.hid (HG2.out w2 _ w2.heap.size (w2.heap.size + 1) (by rw [cell_of_row _ _ _ _ _ _ (heap_alloc2_old w2 (.cells #[.int .u64 (a : Int)] 22) (.cells #[.int .u64 (r : Int)] 22))]; rfl) (by rw [cell_of_row _ _ _ _ _ _ (heap_alloc2_new w2 (.cells #[.int .u64 (a : Int)] 22) (.cells #[.int .u64 (r : Int)] 22))]; rfl))
    clear HG2 c1
    go_loud (with_reducible refine HG3.out.mono ?_)
    rintro e w3 ⟨rfl, hb3⟩
    have HB5 := Lib.hid (below_next HB4.out hb3)
    clear hb3 HB4 HB2 HG3
    go_wp2_with fail
    go_ret
    exact ⟨rfl, HB5⟩
  · have hz : sqv true p = 0 := by unfold sqv; rw [if_neg hlt]
    rw [hz]
    have htest : 4294967295 < (p : Int) := by omega
    clear hz hlt hp
    go_enter Try.func30, Try.ntmps30
    go_wp2_with fail
    go_ret
    exact ⟨rfl, (Below.refl _ _).alloc (Nat.le_refl _) _⟩
end Go.Proofs.Ytbbdiphicckpiaa

