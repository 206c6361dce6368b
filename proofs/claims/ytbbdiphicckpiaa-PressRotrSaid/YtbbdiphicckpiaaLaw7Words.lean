/- PressWords. -/
import Derived.Test.YtbbdiphicckpiaaLaw7Spec
import Derived.Test.YtbbdiphicckpiaaEqWords
namespace Go.Proofs.Ytbbdiphicckpiaa
open Go.RowKit
set_option linter.unusedVariables false
set_option maxRecDepth 100000

theorem eq16 (l : List W64) (hl : l.length = 16) (u : World) : (binOp .eql 24 (.agg (tabW l)) (.agg (tabW l))).run Try.prog u = .ok (.bool true) u :=
  eqW_refl 24 22 16 l hl Try.underlying24 Try.underlying22 (fun w => by kernel_rfl) (fun w => by kernel_rfl) u
theorem eq16' (l : List W64) (hl : l.length = 16) (u : World) : (Op.equalIn 10000 24 (.agg (tabW l)) (.agg (tabW l))).run Try.prog u = .ok true u :=
  eqW_in 24 22 16 l hl Try.underlying24 Try.underlying22 (fun w => by kernel_rfl) (fun w => by kernel_rfl) u

set_option maxHeartbeats 800000 in
theorem law7Words (P : PressC) (A : Option Addr) (l : List UInt8) (c : Nat) (w : World) (hbs : Bs w A l) :
    Calls Try.prog 4 #[.slice A l.length c] w fun e w' => e = .returned (.bool true) ∧ Below w.heap.size w w' := by
  have HA := Lib.hid (alive7_any P w)
  by_cases h3 : 300 < l.length
  · have d : decide (300 < (l.length : Int)) = true := decide_eq_true (by omega)
    generalize l.length = n at *
    clear hbs h3
    go_enter Try.func4, Try.ntmps4
    go_wp2_with fail
    with_reducible refine HA.out.mono ?_
    rintro e w1 ⟨rfl, hb1⟩
    have HB1 := Lib.hid hb1
    clear hb1 HA
    go_wp2_with fail
    go_ret
    exact ⟨rfl, HB1.out⟩
  · have d : decide (300 < (l.length : Int)) = false := decide_eq_false (by omega)
    have hv := wordsV_len l
    have E1 := eq16 (wordsV l) hv
    have E2 := eq16' (wordsV l) hv
    have HP : Hid (∀ W : World, Below w.heap.size w W → Calls Try.prog 19 #[.slice A l.length c] W fun e w' => e = .returned (.tuple #[.agg (tabW (wordsV l)), .bool (decide (l.length = 128))]) ∧ Below W.heap.size W w') := Lib.hid (fun W hW => P.words A l c W (hbs.below hW))
    have HR : Hid (∀ W : World, Below w.heap.size w W → Calls Try.prog 20 #[.slice A l.length c] W fun e w' => e = .returned (.tuple #[.agg (tabW (wordsV l)), .bool (decide (l.length = 128))]) ∧ Below W.heap.size W w') := Lib.hid (fun W hW => rwords_any A l c W (hbs.below hW))
    have nT : (tabW (wordsV l)).size = 16 := by rw [tabW_size, hv]
    have oT := tabW_one (wordsV l)
    generalize tabW (wordsV l) = T at *
    generalize decide (l.length = 128) = b at *
    have iT : (Try.prog.info? 24).map (·.size) = some T.size := by rw [nT]; kernel_rfl
    have hz16 := fun u => zero_tabW 24 16 (by kernel_rfl) u
    obtain ⟨t0, ht0⟩ : ∃ t0, tabW (List.replicate 16 0) = t0 := ⟨_, rfl⟩
    have n0 : t0.size = T.size := by rw [nT, ← ht0, tabW_size]; simp
    rw [ht0] at hz16
    generalize l.length = n at *
    clear hbs h3 hv ht0 nT
    go_enter Try.func4, Try.ntmps4
    go_wp2_with fail
    with_reducible refine HA.out.mono ?_
    rintro e w1 ⟨rfl, hb1⟩
    have HB1 := Lib.hid hb1
    clear hb1 HA
    go_wp2_with fail
    with_reducible refine (HP.out _ HB1.out).mono ?_
    rintro e w2 ⟨rfl, hb2⟩
    have HB2 := Lib.hid (below_next HB1.out hb2)
    have h0 : (w2.alloc (.cells t0 24)).heap[w2.heap.size]? = some (.cells t0 24 (0, 0)) := heap_alloc_new _ _
    have HB3 := Lib.hid (below_setRow (cs := T) (g := w2.heap.size) (below_alloc HB2.out (.cells t0 24)) HB2.out.size)
    clear hb2
    go_wp2_with (refine wpList_store_row rfl 24 (.tmp 4) (.tmp 20) rfl w2.heap.size T rfl rfl 24 t0 h0 iT n0 oT ?_)
    with_reducible refine (HR.out _ HB3.out).mono ?_
    rintro e w4 ⟨rfl, hb4⟩
    have HB4 := Lib.hid (below_next HB3.out hb4)
    have hs4 : w2.heap.size + 1 ≤ w4.heap.size := by have := hb4.size; simpa using this
    have r2 := hb4.block w2.heap.size (by simp)
    rw [setRow_heap _ _ _ _ _ _ h0] at r2
    have h1 : (w4.alloc (.cells t0 24)).heap[w4.heap.size]? = some (.cells t0 24 (0, 0)) := heap_alloc_new _ _
    have q1 : ((w4.alloc (.cells t0 24)).setRow w4.heap.size T).heap[w4.heap.size]? = some (.cells T 24 (0, 0)) := setRow_heap _ _ _ _ _ _ h1
    have q0 : ((w4.alloc (.cells t0 24)).setRow w4.heap.size T).heap[w2.heap.size]? = some (.cells T 24 (0, 0)) := by
      rw [setRow_other _ _ _ _ (by omega), heap_alloc_old _ _ (by omega)]; exact r2
    have HB5 := Lib.hid (below_setRow (cs := T) (g := w4.heap.size) (below_alloc HB4.out (.cells t0 24)) HB4.out.size)
    clear hb4 r2 hs4 h0
    go_wp2_with (first
      | (refine wpList_store_row rfl 24 (.tmp 6) (.tmp 25) rfl w4.heap.size T rfl rfl 24 t0 h1 iT n0 oT ?_)
      | (refine wpList_load_row rfl 24 (.tmp 4) rfl w2.heap.size rfl 24 T (0, 0) _ q0 Try.underlying24 rfl iT ?_)
      | (refine wpList_load_row rfl 24 (.tmp 6) rfl w4.heap.size rfl 24 T (0, 0) _ q1 Try.underlying24 rfl iT ?_))
    go_ret
    exact ⟨rfl, HB5.out⟩
end Go.Proofs.Ytbbdiphicckpiaa

