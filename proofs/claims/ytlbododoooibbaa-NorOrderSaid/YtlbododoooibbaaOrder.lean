/- The walk of NorOrder. -/
import Derived.Test.YtlbododoooibbaaAlive
namespace Go.Proofs.Ytlbododoooibbaa
open Go.RowKit
set_option linter.unusedVariables false

def LawPost (w : World) (e : Ending) (w' : World) : Prop := e = .returned (.bool true) ∧ Below w.heap.size w w'

set_option maxHeartbeats 1600000 in
theorem order_walk (A1 A2 A3 : Option Addr) (l m n : List UInt8) (c1 c2 c3 : Nat) (w : World) (h1 : Bs w A1 l) (h2 : Bs w A2 m) (h3 : Bs w A3 n) :
    Calls Try.prog 5 #[.slice A1 l.length c1, .slice A2 m.length c2, .slice A3 n.length c3] w (LawPost w) := by
  by_cases hs : l.length ≤ 400 ∧ m.length ≤ 400 ∧ n.length ≤ 400
  · obtain ⟨s1, s2, s3⟩ := hs
    have H0 : Hid (canB l l = true) := canB_refl l
    obtain ⟨b1, H1⟩ : ∃ b, Hid (canB l m = b) := ⟨_, rfl⟩
    obtain ⟨b2, H2⟩ : ∃ b, Hid (canB m l = b) := ⟨_, rfl⟩
    obtain ⟨b3, H3⟩ : ∃ b, Hid (canB m n = b) := ⟨_, rfl⟩
    cases b1 with
    | false =>
      go_enter Try.func5, Try.ntmps5
      go_wp2_with fail
      refine (alive_any _).mono ?_
      rintro e w1 ⟨rfl, hb⟩
      have k1 := h1.below hb
      have k2 := h2.below hb
      have k3 := h3.below hb
      go_wp2_with fail
      refine (short_yes s1 s2 s3).mono ?_
      rintro e w2 ⟨rfl, rfl⟩
      go_wp2_with fail
      refine (can_is H0 k1 k1 (by omega)).mono ?_
      rintro e w2 ⟨rfl, d1, rfl⟩
      go_wp2_with fail
      refine (can_is H1 (k1.drewN _) (k2.drewN _) (by omega)).mono ?_
      rintro e w2 ⟨rfl, d2, rfl⟩
      go_wp2_with fail
      refine (can_is H1 (k1.drewN _) (k2.drewN _) (by omega)).mono ?_
      rintro e w2 ⟨rfl, d3, rfl⟩
      go_wp2_with fail
      go_ret
      exact ⟨rfl, below_drewN' hb _⟩
    | true =>
      cases b3 with
      | true =>
        have H4 : Hid (canB l n = true) := canB_trans H1.out H3.out
        cases b2 with
        | false =>
          go_enter Try.func5, Try.ntmps5
          go_wp2_with fail
          refine (alive_any _).mono ?_
          rintro e w1 ⟨rfl, hb⟩
          have k1 := h1.below hb
          have k2 := h2.below hb
          have k3 := h3.below hb
          go_wp2_with fail
          refine (short_yes s1 s2 s3).mono ?_
          rintro e w2 ⟨rfl, rfl⟩
          go_wp2_with fail
          refine (can_is H0 k1 k1 (by omega)).mono ?_
          rintro e w2 ⟨rfl, d1, rfl⟩
          go_wp2_with fail
          refine (can_is H1 (k1.drewN _) (k2.drewN _) (by omega)).mono ?_
          rintro e w2 ⟨rfl, d2, rfl⟩
          go_wp2_with fail
          refine (can_is H2 (k2.drewN _) (k1.drewN _) (by omega)).mono ?_
          rintro e w2 ⟨rfl, d3, rfl⟩
          go_wp2_with fail
          refine (can_is H1 (k1.drewN _) (k2.drewN _) (by omega)).mono ?_
          rintro e w2 ⟨rfl, d4, rfl⟩
          go_wp2_with fail
          refine (can_is H3 (k2.drewN _) (k3.drewN _) (by omega)).mono ?_
          rintro e w2 ⟨rfl, d5, rfl⟩
          go_wp2_with fail
          refine (can_is H4 (k1.drewN _) (k3.drewN _) (by omega)).mono ?_
          rintro e w2 ⟨rfl, d6, rfl⟩
          go_wp2_with fail
          go_ret
          exact ⟨rfl, below_drewN' hb _⟩
        | true =>
          obtain rfl := canB_anti H1.out H2.out
          go_enter Try.func5, Try.ntmps5
          go_wp2_with fail
          refine (alive_any _).mono ?_
          rintro e w1 ⟨rfl, hb⟩
          have k1 := h1.below hb
          have k2 := h2.below hb
          have k3 := h3.below hb
          go_wp2_with fail
          refine (short_yes s1 s2 s3).mono ?_
          rintro e w2 ⟨rfl, rfl⟩
          go_wp2_with fail
          refine (can_is H0 k1 k1 (by omega)).mono ?_
          rintro e w2 ⟨rfl, d1, rfl⟩
          go_wp2_with fail
          refine (can_is H1 (k1.drewN _) (k2.drewN _) (by omega)).mono ?_
          rintro e w2 ⟨rfl, d2, rfl⟩
          go_wp2_with fail
          refine (can_is H2 (k2.drewN _) (k1.drewN _) (by omega)).mono ?_
          rintro e w2 ⟨rfl, d3, rfl⟩
          have cv1 : ∀ d, (convert 22 9 (.slice A1 l.length c1)).run Try.prog (w1.drewN d) = .ok (.string (strB l)) (w1.drewN d) := fun d => run_conv_bs _ _ 5 _ Try.underlying22 Try.underlying5 Try.underlying9 A1 l c1 _ k1 rfl
          have cv2 : ∀ d, (convert 22 9 (.slice A2 l.length c2)).run Try.prog (w1.drewN d) = .ok (.string (strB l)) (w1.drewN d) := fun d => run_conv_bs _ _ 5 _ Try.underlying22 Try.underlying5 Try.underlying9 A2 l c2 _ k2 rfl
          go_wp2_with fail
          refine (can_is H1 (k1.drewN _) (k2.drewN _) (by omega)).mono ?_
          rintro e w2 ⟨rfl, d4, rfl⟩
          go_wp2_with fail
          refine (can_is H3 (k2.drewN _) (k3.drewN _) (by omega)).mono ?_
          rintro e w2 ⟨rfl, d5, rfl⟩
          go_wp2_with fail
          refine (can_is H4 (k1.drewN _) (k3.drewN _) (by omega)).mono ?_
          rintro e w2 ⟨rfl, d6, rfl⟩
          go_wp2_with fail
          go_ret
          exact ⟨rfl, below_drewN' hb _⟩
      | false =>
        cases b2 with
        | false =>
          go_enter Try.func5, Try.ntmps5
          go_wp2_with fail
          refine (alive_any _).mono ?_
          rintro e w1 ⟨rfl, hb⟩
          have k1 := h1.below hb
          have k2 := h2.below hb
          have k3 := h3.below hb
          go_wp2_with fail
          refine (short_yes s1 s2 s3).mono ?_
          rintro e w2 ⟨rfl, rfl⟩
          go_wp2_with fail
          refine (can_is H0 k1 k1 (by omega)).mono ?_
          rintro e w2 ⟨rfl, d1, rfl⟩
          go_wp2_with fail
          refine (can_is H1 (k1.drewN _) (k2.drewN _) (by omega)).mono ?_
          rintro e w2 ⟨rfl, d2, rfl⟩
          go_wp2_with fail
          refine (can_is H2 (k2.drewN _) (k1.drewN _) (by omega)).mono ?_
          rintro e w2 ⟨rfl, d3, rfl⟩
          go_wp2_with fail
          refine (can_is H1 (k1.drewN _) (k2.drewN _) (by omega)).mono ?_
          rintro e w2 ⟨rfl, d4, rfl⟩
          go_wp2_with fail
          refine (can_is H3 (k2.drewN _) (k3.drewN _) (by omega)).mono ?_
          rintro e w2 ⟨rfl, d5, rfl⟩
          go_wp2_with fail
          go_ret
          exact ⟨rfl, below_drewN' hb _⟩
        | true =>
          obtain rfl := canB_anti H1.out H2.out
          go_enter Try.func5, Try.ntmps5
          go_wp2_with fail
          refine (alive_any _).mono ?_
          rintro e w1 ⟨rfl, hb⟩
          have k1 := h1.below hb
          have k2 := h2.below hb
          have k3 := h3.below hb
          go_wp2_with fail
          refine (short_yes s1 s2 s3).mono ?_
          rintro e w2 ⟨rfl, rfl⟩
          go_wp2_with fail
          refine (can_is H0 k1 k1 (by omega)).mono ?_
          rintro e w2 ⟨rfl, d1, rfl⟩
          go_wp2_with fail
          refine (can_is H1 (k1.drewN _) (k2.drewN _) (by omega)).mono ?_
          rintro e w2 ⟨rfl, d2, rfl⟩
          go_wp2_with fail
          refine (can_is H2 (k2.drewN _) (k1.drewN _) (by omega)).mono ?_
          rintro e w2 ⟨rfl, d3, rfl⟩
          have cv1 : ∀ d, (convert 22 9 (.slice A1 l.length c1)).run Try.prog (w1.drewN d) = .ok (.string (strB l)) (w1.drewN d) := fun d => run_conv_bs _ _ 5 _ Try.underlying22 Try.underlying5 Try.underlying9 A1 l c1 _ k1 rfl
          have cv2 : ∀ d, (convert 22 9 (.slice A2 l.length c2)).run Try.prog (w1.drewN d) = .ok (.string (strB l)) (w1.drewN d) := fun d => run_conv_bs _ _ 5 _ Try.underlying22 Try.underlying5 Try.underlying9 A2 l c2 _ k2 rfl
          go_wp2_with fail
          refine (can_is H1 (k1.drewN _) (k2.drewN _) (by omega)).mono ?_
          rintro e w2 ⟨rfl, d4, rfl⟩
          go_wp2_with fail
          refine (can_is H3 (k2.drewN _) (k3.drewN _) (by omega)).mono ?_
          rintro e w2 ⟨rfl, d5, rfl⟩
          go_wp2_with fail
          go_ret
          exact ⟨rfl, below_drewN' hb _⟩
  · go_enter Try.func5, Try.ntmps5
    go_wp2_with fail
    refine (alive_any _).mono ?_
    rintro e w1 ⟨rfl, hb⟩
    go_wp2_with fail
    refine (short_no hs).mono ?_
    rintro e w2 ⟨rfl, rfl⟩
    go_wp2_with fail
    go_ret
    exact ⟨rfl, hb⟩
end Go.Proofs.Ytlbododoooibbaa
