/- The row of calls that came in; the contract of bootjacklaw2.Few; do, whatever the kind. -/
import Derived.Test.YtlnpfndjdilfhaaLaw2Peek
namespace Go.Proofs.Ytlnpfndjdilfhaa
open Go.RowKit
set_option linter.unusedVariables false

/-- a call as it lies in a row -/
structure ActD where
  k : Int
  t : Int
  n : Int
  A : Option Addr
  b : List UInt8
  c : Nat

structure ActAt (w : World) (g o : Nat) (a : ActD) : Prop where
  k : w.cell? ⟨g, o, none⟩ = some (.int .i64 a.k)
  t : w.cell? ⟨g, o + 1, none⟩ = some (.int .i64 a.t)
  n : w.cell? ⟨g, o + 2, none⟩ = some (.int .i64 a.n)
  s : w.cell? ⟨g, o + 3, none⟩ = some (.slice a.A a.b.length a.c)
  b : Bs w a.A a.b
  c : a.b.length ≤ a.c
  m : a.c ≤ 9223372036854775807
  t1 : -9223372036854775808 ≤ a.t
  t2 : a.t ≤ 9223372036854775807
  n1 : -9223372036854775808 ≤ a.n
  n2 : a.n ≤ 9223372036854775807

def Acts (w : World) (A0 : Option Addr) (L : List ActD) : Prop :=
  0 < L.length → ∃ g o, A0 = some ⟨g, o, none⟩ ∧ ∀ i (h : i < L.length), ActAt w g (o + i * 4) L[i]

theorem ActAt.below {w w' : World} {g o : Nat} {a : ActD} (h : ActAt w g o a) (hb : Below w.heap.size w w') : ActAt w' g o a := by
  have hg : g < w.heap.size := World.block_lt_of_cell? w _ h.k
  exact ⟨by rw [hb.cell (p := ⟨g, o, none⟩) hg]; exact h.k, by rw [hb.cell (p := ⟨g, o + 1, none⟩) hg]; exact h.t, by rw [hb.cell (p := ⟨g, o + 2, none⟩) hg]; exact h.n, by rw [hb.cell (p := ⟨g, o + 3, none⟩) hg]; exact h.s,
    h.b.below hb, h.c, h.m, h.t1, h.t2, h.n1, h.n2⟩
theorem Acts.below {w w' : World} {A0 : Option Addr} {L : List ActD} (h : Acts w A0 L) (hb : Below w.heap.size w w') : Acts w' A0 L := fun hl => by
  obtain ⟨g, o, e, ha⟩ := h hl
  exact ⟨g, o, e, fun i hi => (ha i hi).below hb⟩

def fewB (L : List ActD) : Bool := decide (L.length ≤ 30) && L.all fun a => decide (a.b.length ≤ 1100)

set_option maxHeartbeats 1600000 in
theorem few_any (w : World) (A0 : Option Addr) (L : List ActD) (c0 : Nat) (h : Acts w A0 L) (hL : L.length ≤ 9223372036854775807) :
    Calls Try.prog 8 #[.slice A0 L.length c0] w fun e w' => e = .returned (.bool (fewB L)) ∧ w = w' := by
  by_cases h30 : L.length ≤ 30
  · go_enter Try.func8, Try.ntmps8
    go_wp2
    go_loop [3] (fun i => ∃ k : Nat, k ≤ L.length ∧ i = .int .i64 k ∧ Hid (∀ j (hj : j < L.length), j < k → L[j].b.length ≤ 1100)) (fun i => L.length - (intOf i).toNat)
    case atStart => exact ⟨0, Nat.zero_le _, rfl, fun j _ hj => absurd hj (by omega)⟩
    case round =>
      obtain ⟨k, hk, rfl, Hk⟩ := hrel
      by_cases hlt : k < L.length
      · obtain ⟨g, o, rfl, ha⟩ := h (by omega)
        have hs := (ha k hlt).s
        have hm := (ha k hlt).m
        have hc := (ha k hlt).c
        obtain ⟨a, Ha⟩ : ∃ a, Hid (L[k] = a) := ⟨L[k], Lib.hid rfl⟩
        rw [Ha.out] at hs hm hc
        obtain ⟨z, Hz⟩ : ∃ z : Nat, Hid (a.b.length = z) := ⟨_, rfl⟩
        rw [Hz.out] at hs hc
        have HA := Lib.hid ha
        clear ha
        by_cases hz : z ≤ 1100
        · go_wp2
          go_round
          case rel => exact ⟨k + 1, by omega, by go_num, Lib.hid (fun j hj hjk => by
            by_cases e : j = k
            · subst e; rw [Ha.out, Hz.out]; exact hz
            · exact Hk.out j hj (by omega))⟩
          case measure => simp [intOf]; omega
        · have hz2 : ¬ (z : Int) ≤ 1100 := by omega
          have HF : Hid (fewB L = false) := Lib.hid (by
            unfold fewB
            rw [Bool.and_eq_false_iff]
            right
            rw [List.all_eq_false]
            exact ⟨L[k], List.getElem_mem hlt, by rw [Ha.out, Hz.out]; simpa using hz⟩)
          go_wp2
          go_ret
          rw [HF.out]
          exact ⟨rfl, rfl⟩
      · have HF : Hid (fewB L = true) := Lib.hid (by
          unfold fewB
          rw [Bool.and_eq_true, List.all_eq_true]
          refine ⟨decide_eq_true h30, fun a ha => ?_⟩
          obtain ⟨j, hj, rfl⟩ := List.getElem_of_mem ha
          exact decide_eq_true (Hk.out j hj (by omega)))
        go_wp2
        go_ret
        rw [HF.out]
        exact ⟨rfl, rfl⟩
  · have h2 : ¬ (L.length : Int) ≤ 30 := by omega
    have HF : Hid (fewB L = false) := Lib.hid (by unfold fewB; rw [decide_eq_false h30]; rfl)
    go_enter Try.func8, Try.ntmps8
    go_wp2
    go_ret
    rw [HF.out]
    exact ⟨rfl, rfl⟩

theorem do_any {N : Nat} {w : World} {p : Ad} {d : Dl} {f : Fl} (kd : Int) {t n : Int} {A : Option Addr} {l : List UInt8} {c : Nat} (h : DoIn N w p d f t n A l c) :
    Calls Try.prog 11 #[.pointer (some ⟨p.g, 0, none⟩), .pointer (some ⟨p.h, 0, none⟩), .agg #[.int .i64 kd, .int .i64 t, .int .i64 n, .slice A l.length c]] w (DoPost N w p d) := by
  by_cases q1 : kd = 1
  · subst q1; exact do_read h
  by_cases q2 : kd = 2
  · subst q2; exact do_program h
  by_cases q3 : kd = 3
  · subst q3; exact do_erase h
  by_cases q4 : kd = 4
  · subst q4; exact do_arm h
  by_cases q5 : kd = 5
  · subst q5; exact do_boot h
  by_cases q6 : kd = 6
  · subst q6; exact do_spoil h
  by_cases q7 : kd = 7
  · subst q7; exact do_peek h
  exact do_none h (by simpa using q1) (by simpa using q2) (by simpa using q3) (by simpa using q4) (by simpa using q5) (by simpa using q6) (by simpa using q7)
end Go.Proofs.Ytlnpfndjdilfhaa
