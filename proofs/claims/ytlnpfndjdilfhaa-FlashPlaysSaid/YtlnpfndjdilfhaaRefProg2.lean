/- The contract of the reference's Program, whatever is asked. -/
import Derived.Test.YtlnpfndjdilfhaaRefProg
namespace Go.Proofs.Ytlnpfndjdilfhaa
open Go.RowKit
set_option linter.unusedVariables false

set_option maxRecDepth 100000 in
set_option maxHeartbeats 1600000 in
theorem rprog_any {g gB gW cB cW N : Nat} {d : Fl} {w : World} (h : RefFl w g gB gW cB cW N d) (ok : FlOk d) (s : Int) (A : Option Addr) (m : List UInt8) (c : Nat) (hm : Bs w A m) (hA : Off (FlF g gB gW) A m) (hc : m.length ≤ c) (hs1 : -9223372036854775808 ≤ s) (hs2 : s ≤ 9223372036854775807) (hmz : m.length ≤ 2147483648) (hst : d.steps + m.length ≤ 4611686018427387904) :
    Calls Try.prog 31 #[.pointer (some ⟨g, 0, none⟩), .int .i64 s, .slice A m.length c] w (ErasePost w g gB gW cB cW N (rprogOf d s m)) := by
  have hlb : d.b.length ≤ 67108864 := by have := ok.len; have := ok.few; omega
  obtain ⟨AP, cP, hg, -, -⟩ := h.cells
  have c0 : w.cell? ⟨g, 0, none⟩ = some (.slice (some ⟨gB, 0, none⟩) d.b.length cB) := by rw [cell_of_row _ _ _ _ _ _ hg]; rfl
  have c5 : w.cell? ⟨g, 5, none⟩ = some (.bool d.dark) := by rw [cell_of_row _ _ _ _ _ _ hg]; rfl
  clear hg
  unfold rprogOf
  cases hd : d.dark with
  | true =>
    rw [hd] at c5
    rw [if_pos rfl]
    clear hd
    go_enter Try.func31, Try.ntmps31
    go_wp2
    go_ret
    exact ⟨rfl, h, Only.refl _ _⟩
  | false =>
    rw [hd] at c5
    rw [if_neg (by simp)]
    by_cases hin : 0 ≤ s ∧ s + m.length ≤ d.b.length
    · rw [if_neg (not_not_intro hin)]
      obtain ⟨a, rfl⟩ := Int.eq_ofNat_of_zero_le hin.1
      rw [Int.toNat_natCast]
      have hfit : a + m.length ≤ d.b.length := by omega
      have hwi : Hid (decide (0 ≤ (a : Int) ∧ 0 ≤ (m.length : Int) ∧ (a : Int) + (m.length : Int) ≤ (d.b.length : Int)) = true) := Lib.hid (decide_eq_true ⟨by omega, by omega, by omega⟩)
      by_cases hal : a % 8 ≠ 0 ∨ m.length % 8 ≠ 0
      · rw [if_pos hal]
        have HH := Lib.hid h
        clear hin hd h hm hA
        by_cases h1 : a % 8 ≠ 0
        · have al1 : ((a : Int) % 8 != 0) = true := by simp; omega
          have al3 : ¬ (a : Int) % 8 = 0 := by omega
          have al4 : decide ((a : Int) % 8 = 0) = false := by simp; omega
          clear hal h1
          go_enter Try.func31, Try.ntmps31
          go_wp2_with (go_at_call 45; (with_reducible refine (within_is hwi (by omega) (by omega) (by omega) (by omega) (by omega) (by omega)).mono ?_); rintro e w' ⟨rfl, rfl⟩)
          go_ret
          exact ⟨rfl, HH.out, Only.refl _ _⟩
        · have al1 : (a : Int) % 8 = 0 := by omega
          have al2 : ((m.length : Int) % 8 != 0) = true := by simp; omega
          clear hal h1
          go_enter Try.func31, Try.ntmps31
          go_wp2_with (go_at_call 45; (with_reducible refine (within_is hwi (by omega) (by omega) (by omega) (by omega) (by omega) (by omega)).mono ?_); rintro e w' ⟨rfl, rfl⟩)
          go_ret
          exact ⟨rfl, HH.out, Only.refl _ _⟩
      · rw [if_neg hal]
        cases hcan : canB (cut d.b a m.length) m with
        | true =>
          rw [if_neg (by simp)]
          exact rprog_in h ok a A m c hm hA hc hd hfit (by omega) hcan hst
        | false =>
          rw [if_pos rfl]
          have hcap : d.b.length ≤ cB := h.bytes.cap
          have al1 : (a : Int) % 8 = 0 := by omega
          have al2 : (m.length : Int) % 8 = 0 := by omega
          obtain ⟨o, ho, zs0⟩ := slice_in gB a m.length cB (by omega)
          have zs : ∀ (u : World), (Instr.slice 30 (.slice (some ⟨gB, 0, none⟩) d.b.length cB) (some (.int .i64 (a : Int))) (some (.int .i64 ((a : Int) + (m.length : Int)))) none).run Try.prog u = .ok (.slice (some ⟨gB, o, none⟩) m.length (cB - a)) u := fun u => zs0 d.b.length u
          have hcl : Hid ((cut d.b a m.length).length = m.length) := Lib.hid (cut_len hfit)
          have HCan : Hid (∀ k1, Calls Try.prog 46 #[.slice (some ⟨gB, o, none⟩) m.length k1, .slice A m.length c] w fun e w' => e = .returned (.bool false) ∧ ∃ n, w' = w.drewN n) := Lib.hid (fun k1 => by
            have := rcan_is (A1 := some ⟨gB, o, none⟩) (A2 := A) (l := cut d.b a m.length) (m := m) (c1 := k1) (c2 := c) hcan (h.bytes.bs.cutAt hfit ho) hm (by rw [hcl.out]; omega)
            rw [hcl.out] at this
            exact this)
          have HH := Lib.hid h
          have Hho := Lib.hid ho
          have haz : a ≤ 67108864 := by omega
          clear hin hd h hm hA ho zs0 hal hcan hfit
          go_enter Try.func31, Try.ntmps31
          go_wp2_with (first
            | (go_at_call 45; (with_reducible refine (within_is hwi (by omega) (by omega) (by omega) (by omega) (by omega) (by omega)).mono ?_); rintro e w' ⟨rfl, rfl⟩)
            | (go_at_call 46; (with_reducible refine (HCan.out _).mono ?_); rintro e w' ⟨rfl, nd, rfl⟩))
          go_ret
          exact ⟨rfl, HH.out.below (below_drewN' (Below.refl _ _) nd), (Only.refl _ _).drewN nd⟩
    · rw [if_pos hin]
      have hwi : Hid (decide (0 ≤ s ∧ 0 ≤ (m.length : Int) ∧ s + (m.length : Int) ≤ (d.b.length : Int)) = false) := Lib.hid (decide_eq_false (by rintro ⟨q1, -, q3⟩; exact hin ⟨q1, q3⟩))
      clear hin hd
      go_enter Try.func31, Try.ntmps31
      go_wp2_with (go_at_call 45; (with_reducible refine (within_is hwi (by omega) (by omega) (by omega) (by omega) (by omega) (by omega)).mono ?_); rintro e w' ⟨rfl, rfl⟩)
      go_ret
      exact ⟨rfl, h, Only.refl _ _⟩
end Go.Proofs.Ytlnpfndjdilfhaa
