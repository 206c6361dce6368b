/- The contract of bootjackref1.PutRecord. -/
import Derived.Test.YtddalnmoahpljaaRefLow
import Derived.Test.YtddalnmoahpljaaDevRegion
import Derived.Test.YtddalnmoahpljaaGsim
namespace Go.Proofs.Ytddalnmoahpljaa
open Go.RowKit
set_option linter.unusedVariables false
set_option maxRecDepth 100000

/-- a row that the call made, behind a region -/
def PutCut (w1 : World) (l : List UInt8) (v : Value) (wx : World) : Prop := Ob 5 wx w1.heap.size v l ∧ Below w1.heap.size w1 wx

/-- two bytes as they are laid out -/
theorem ob_lit2 (w : World) (x y : UInt8) : Ob 5 (w.alloc (.cells #[bval x, bval y] 5)) w.heap.size (.slice (some ⟨w.heap.size, 0, none⟩) 2 2) [x, y] := by
  have h := World.ownsRow_lit (base := w.heap.size) (e := 5) (size := 1) w #[bval x, bval y] 2 (Nat.le_refl _) (by unfold maxLen; omega) (by simp)
  unfold Ob
  simpa using h


set_option maxHeartbeats 1600000 in
theorem rput_no (k q : Int) (A : Option Addr) (l : List UInt8) (c : Nat) (w : World) (hk1 : -9223372036854775808 ≤ k) (hk2 : k ≤ 9223372036854775807) (hq1 : -9223372036854775808 ≤ q) (hq2 : q ≤ 9223372036854775807)
    (hl : l.length ≤ 2147483648) (h : ¬ recOk k q l.length) :
    Calls Try.prog 13 #[.agg #[.int .i64 k, .int .i64 q, .slice A l.length c]] w (RetOb 5 w []) := by
  have Hpost : Hid (RetOb 5 w [] (.returned (.slice none 0 0)) (w.alloc (.cells #[.int .i64 k, .int .i64 q, .slice A l.length c] 24))) := Lib.hid ⟨_, rfl, Ob.nil_ _ _ _, (Below.refl _ _).alloc (Nat.le_refl _) _⟩
  by_cases e1 : k < 1
  · clear h
    go_enter Try.func13, Try.ntmps13
    go_wp2
    go_ret
    exact Hpost.out
  · have d1 : decide (k < 1) = false := decide_eq_false e1
    by_cases e2 : 250 < k
    · clear h
      go_enter Try.func13, Try.ntmps13
      go_wp2
      go_ret
      exact Hpost.out
    · have d2 : decide (250 < k) = false := decide_eq_false e2
      by_cases e3 : q < 0
      · clear h
        go_enter Try.func13, Try.ntmps13
        go_wp2
        go_ret
        exact Hpost.out
      · have d3 : decide (q < 0) = false := decide_eq_false e3
        by_cases e4 : 4294967295 < q
        · clear h
          go_enter Try.func13, Try.ntmps13
          go_wp2
          go_ret
          exact Hpost.out
        · have d4 : decide (4294967295 < q) = false := decide_eq_false e4
          have e5 : 512 < l.length := by
            unfold recOk at h
            omega
          have d5 : decide ((512 : Int) < (l.length : Int)) = true := decide_eq_true (by omega)
          clear h
          go_enter Try.func13, Try.ntmps13
          go_wp2
          go_ret
          exact Hpost.out
end Go.Proofs.Ytddalnmoahpljaa

