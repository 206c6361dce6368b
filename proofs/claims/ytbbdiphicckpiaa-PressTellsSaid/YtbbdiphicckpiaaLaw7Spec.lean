/- What layer 7's walks ask of package press; the document's example. -/
import Derived.Test.YtbbdiphicckpiaaRefStep6
import Derived.Test.YtbbdiphicckpiaaGbase
namespace Go.Proofs.Ytbbdiphicckpiaa
open Go.RowKit
set_option linter.unusedVariables false
set_option maxRecDepth 100000

/-- what Words tells of bytes -/
def wordsV (l : List UInt8) : List W64 := if l.length = 128 then wordsL l else List.replicate 16 0
theorem wordsV_len (l : List UInt8) : (wordsV l).length = 16 := by
  unfold wordsV wordsL
  split
  · exact wordsTo_len _ _
  · simp

/-- package press, function by function -/
structure PressC : Prop where
  rotr : ∀ (x : W64) (n : Int), -9223372036854775808 ≤ n → n ≤ 9223372036854775807 → ∀ W : World,
    Calls Try.prog 13 #[.int .u64 (x.toNat : Int), .int .i64 n] W fun e w' => e = .returned (.int .u64 ((rot x n).toNat : Int)) ∧ Below W.heap.size W w'
  ch : ∀ (x y z : W64) (W : World),
    Calls Try.prog 15 #[.int .u64 (x.toNat : Int), .int .u64 (y.toNat : Int), .int .u64 (z.toNat : Int)] W fun e w' => e = .returned (.int .u64 ((chW x y z).toNat : Int)) ∧ Below W.heap.size W w'
  maj : ∀ (x y z : W64) (W : World),
    Calls Try.prog 17 #[.int .u64 (x.toNat : Int), .int .u64 (y.toNat : Int), .int .u64 (z.toNat : Int)] W fun e w' => e = .returned (.int .u64 ((majW x y z).toNat : Int)) ∧ Below W.heap.size W w'
  words : ∀ (A : Option Addr) (l : List UInt8) (c : Nat) (W : World), Bs W A l →
    Calls Try.prog 19 #[.slice A l.length c] W fun e w' => e = .returned (.tuple #[.agg (tabW (wordsV l)), .bool (decide (l.length = 128))]) ∧ Below W.heap.size W w'
  schedule : ∀ (m : List W64), m.length = 16 → ∀ W : World,
    Calls Try.prog 11 #[.agg (tabW m)] W fun e w' => e = .returned (.agg (tabW (sch m 80))) ∧ Below W.heap.size W w'
  step : ∀ (s : St) (m : List W64), m.length = 16 → ∀ W : World,
    Calls Try.prog 9 #[.agg (tabW s.l), .agg (tabW m)] W fun e w' => e = .returned (.agg (tabW (stepW ksL s m).l)) ∧ Below W.heap.size W w'

set_option maxRecDepth 100000 in
theorem alive7_any (P : PressC) (w : World) : Calls Try.prog 8 #[] w fun e w' => e = .returned (.bool true) ∧ Below w.heap.size w w' := by
  have HR : Hid (∀ W : World, Calls Try.prog 13 #[.int .u64 1, .int .i64 1] W fun e w' => e = .returned (.int .u64 9223372036854775808) ∧ Below W.heap.size W w') := Lib.hid (fun W => by
    have h := P.rotr 1 1 (by omega) (by omega) W
    rw [show ((rot 1 1).toNat : Int) = 9223372036854775808 by decide, show ((1 : W64).toNat : Int) = 1 by decide] at h
    exact h)
  have HC : Hid (∀ W : World, Calls Try.prog 15 #[.int .u64 1, .int .u64 1, .int .u64 0] W fun e w' => e = .returned (.int .u64 1) ∧ Below W.heap.size W w') := Lib.hid (fun W => by
    have h := P.ch 1 1 0 W
    rw [show ((chW 1 1 0).toNat : Int) = 1 by decide, show ((1 : W64).toNat : Int) = 1 by decide, show ((0 : W64).toNat : Int) = 0 by decide] at h
    exact h)
  obtain ⟨z, Hz⟩ : ∃ z, Hid (z = List.replicate 128 (0 : UInt8)) := ⟨_, rfl⟩
  have hzl : z.length = 128 := by rw [Hz.out]; simp
  obtain ⟨T, hT⟩ : ∃ T, tabW (wordsV z) = T := ⟨_, rfl⟩
  have nT : T.size = 16 := by rw [← hT, tabW_size, wordsV_len]
  have iT : (Try.prog.info? 24).map (·.size) = some T.size := by rw [nT]; kernel_rfl
  have HW : Hid (∀ W : World, W = w.alloc (.cells (madeCells #[.int .u8 0] 128) 5) → Calls Try.prog 19 #[.slice (some ⟨w.heap.size, 0, none⟩) 128 128] W fun e w' => e = .returned (.tuple #[.agg T, .bool true]) ∧ Below W.heap.size W w') := Lib.hid (fun W hW => by
    subst hW
    have h := P.words (some ⟨w.heap.size, 0, none⟩) z 128 _ (by rw [Hz.out]; exact ((own_made w 128 5 (by omega)).low (Nat.zero_le _)).bs)
    rw [hT, hzl, show decide (128 = 128) = true by decide] at h
    exact h)
  have mk : ∀ u : World, (Instr.makeSlice 32 (.int .i64 128) (.int .i64 128)).run Try.prog u = _ := fun u => make_bytes 128 (by omega) u
  have HT := Lib.hid hT
  have hz16 := fun u => zero_tabW 24 16 (by kernel_rfl) u
  obtain ⟨t0, ht0⟩ : ∃ t0, tabW (List.replicate 16 0) = t0 := ⟨_, rfl⟩
  have n0 : t0.size = T.size := by rw [nT, ← ht0, tabW_size]; simp
  rw [ht0] at hz16
  have oT : T.all (·.oneCell') = true := by rw [← hT]; exact tabW_one _
  have hbz : Hid (Below w.heap.size w (w.alloc (.cells (madeCells #[.int .u8 0] 128) 5))) := Lib.hid (below_alloc (Below.refl _ _) _)
  clear ht0 hT hzl nT
  go_enter Try.func8, Try.ntmps8
  go_wp2_with fail
  with_reducible refine (HW.out _ rfl).mono ?_
  rintro e w1 ⟨rfl, hb1⟩
  have HB1 := Lib.hid (below_next hbz.out hb1)
  have h0 : (w1.alloc (.cells t0 24)).heap[w1.heap.size]? = some (.cells t0 24 (0, 0)) := heap_alloc_new _ _
  have HB2 := Lib.hid (below_setRow (cs := T) (g := w1.heap.size) (below_alloc HB1.out (.cells t0 24)) HB1.out.size)
  clear hb1 mk HW
  go_wp2_with (refine wpList_store_row rfl 24 (.tmp 1) (.tmp 6) rfl w1.heap.size T rfl rfl 24 t0 h0 iT n0 oT ?_)
  with_reducible refine (HR.out _).mono ?_
  rintro e w2 ⟨rfl, hb2⟩
  have HB3 := Lib.hid (below_next HB2.out hb2)
  clear hb2
  go_wp2_with fail
  with_reducible refine (HC.out _).mono ?_
  rintro e w3 ⟨rfl, hb3⟩
  have HB4 := Lib.hid (below_next HB3.out hb3)
  clear hb3
  go_wp2_with fail
  go_ret
  exact ⟨rfl, HB4.out⟩
end Go.Proofs.Ytbbdiphicckpiaa

