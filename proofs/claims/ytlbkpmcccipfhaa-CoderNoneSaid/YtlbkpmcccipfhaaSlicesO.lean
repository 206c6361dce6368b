/- Slice expressions of slices of bool: heads, tails. -/
import Derived.Test.YtlbkpmcccipfhaaGbase
import Derived.Test.YtlbkpmcccipfhaaOs
namespace Go.Proofs.Ytlbkpmcccipfhaa
open Go.RowKit
set_option linter.unusedVariables false
set_option maxRecDepth 100000

theorem so_at_map {A : Option Addr} {y k : Nat} (h : At (A.map (·.add y)) k) : At A k := by
  obtain ⟨a, e, rfl⟩ := h
  cases A with
  | none => cases e
  | some x =>
    rw [Option.map_some] at e
    injection e with e
    subst e
    exact ⟨x, rfl, by unfold Addr.add; split <;> rfl⟩
theorem so_sl_size (W : World) : (sizeOf (Try.prog.elem 45)).run Try.prog W = .ok 1 W := by kernel_rfl
theorem so_sl_under : Try.prog.underlying 45 = some (.slice (Try.prog.elem 45)) := by kernel_rfl
theorem so_bs_map {A : Option Addr} {w : World} {l : List Bool} (h : Osb w A l) (y n : Nat) (hn : y + n ≤ l.length) : Osb w (A.map (·.add y)) ((l.drop y).take n) := fun hl => by
  rw [List.length_take, List.length_drop] at hl
  obtain ⟨b, o, rfl, hcell⟩ := h (by omega)
  refine ⟨b, o + y, by rw [Option.map_some, addr_add], fun j hj => ?_⟩
  rw [List.length_take, List.length_drop] at hj
  rw [Nat.add_assoc, hcell (y + j) (by omega)]
  have h1 : j < n := by omega
  simp [List.getD, List.getElem?_drop, h1]
/-- a part of a row, whatever kind of number its bounds are -/
theorem so_sl_mid (A : Option Addr) (w : World) (l : List Bool) (h : Osb w A l) (c : Nat) (hc : l.length ≤ c) (y n : Nat) (hy : y + n ≤ l.length) (kl kh : IntKind) : ∃ A', Osb w A' ((l.drop y).take n) ∧ (∀ k, At A' k → At A k) ∧ ∀ (lo hi : Int), lo = (y : Int) → hi = ((y + n : Nat) : Int) → ∀ (u : World),
    (Instr.slice 45 (.slice A l.length c) (some (.int kl lo)) (some (.int kh hi)) none).run Try.prog u = .ok (.slice A' n (c - y)) u := by
  by_cases hcy : c = y
  · refine ⟨A, fun hl => ?_, fun k hk => hk, ?_⟩
    · rw [List.length_take, List.length_drop] at hl; omega
    · rintro lo hi rfl rfl u
      rw [run_slice_lh u _ _ _ _ so_sl_under _ _ _ _ (by omega) (by omega) (by omega), so_sl_size]
      simp only [Result.andThen, sliced, Int.toNat_natCast, if_pos hcy, Nat.add_sub_cancel_left]
  · refine ⟨A.map (·.add y), so_bs_map h y n hy, fun k hk => so_at_map hk, ?_⟩
    rintro lo hi rfl rfl u
    rw [run_slice_lh u _ _ _ _ so_sl_under _ _ _ _ (by omega) (by omega) (by omega), so_sl_size]
    simp only [Result.andThen, sliced, Int.toNat_natCast, if_neg hcy, Nat.add_sub_cancel_left, Nat.mul_one]
/-- the tail -/
theorem so_sl_tail (A : Option Addr) (w : World) (l : List Bool) (h : Osb w A l) (c : Nat) (hc : l.length ≤ c) (y : Nat) (hy : y ≤ l.length) (kl : IntKind) : ∃ A', Osb w A' (l.drop y) ∧ (∀ k, At A' k → At A k) ∧ ∀ (lo : Int), lo = (y : Int) → ∀ (u : World),
    (Instr.slice 45 (.slice A l.length c) (some (.int kl lo)) none none).run Try.prog u = .ok (.slice A' (l.length - y) (c - y)) u := by
  have e : (l.drop y).take (l.length - y) = l.drop y := List.take_of_length_le (by rw [List.length_drop]; omega)
  by_cases hcy : c = y
  · refine ⟨A, fun hl => ?_, fun k hk => hk, ?_⟩
    · rw [List.length_drop] at hl; omega
    · rintro lo rfl u
      rw [run_slice_l u _ _ _ _ so_sl_under _ _ (by omega) (by omega), so_sl_size]
      simp only [Result.andThen, sliced, Int.toNat_natCast, if_pos hcy]
  · refine ⟨A.map (·.add y), by rw [← e]; exact so_bs_map h y (l.length - y) (by omega), fun k hk => so_at_map hk, ?_⟩
    rintro lo rfl u
    rw [run_slice_l u _ _ _ _ so_sl_under _ _ (by omega) (by omega), so_sl_size]
    simp only [Result.andThen, sliced, Int.toNat_natCast, if_neg hcy, Nat.mul_one]
/-- the head -/
theorem so_sl_head (A : Option Addr) (L c k : Nat) (h : k ≤ c) (kh : IntKind) (hi : Int) (e : hi = (k : Int)) (u : World) : (Instr.slice 45 (.slice A L c) none (some (.int kh hi)) none).run Try.prog u = .ok (.slice A k c) u := by
  subst e
  rw [run_slice_h u _ _ _ _ so_sl_under _ _ (by omega) (by omega), so_sl_size]
  simp only [Result.andThen, sliced, Int.toNat_natCast]
  by_cases hc : c = 0
  · subst hc; simp
  · rw [if_neg (by omega)]
    cases A with
    | none => simp
    | some a => simp [Addr.add]
theorem so_bs_take {A : Option Addr} {w : World} {l : List Bool} (h : Osb w A l) (n : Nat) : Osb w A (l.take n) := fun hl => by
  rw [List.length_take] at hl
  obtain ⟨b, o, rfl, hcell⟩ := h (by omega)
  refine ⟨b, o, rfl, fun j hj => ?_⟩
  rw [List.length_take] at hj
  rw [hcell j (by omega)]
  have h1 : j < n := by omega
  simp [List.getD, h1]
end Go.Proofs.Ytlbkpmcccipfhaa

