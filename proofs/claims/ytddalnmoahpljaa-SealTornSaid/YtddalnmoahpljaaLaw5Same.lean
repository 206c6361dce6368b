/- The contract of bootjackref1.SameRecord; what Get tells of what Put laid. -/
import Derived.Test.YtddalnmoahpljaaRefGet
namespace Go.Proofs.Ytddalnmoahpljaa
open Go.RowKit
set_option linter.unusedVariables false
set_option maxRecDepth 100000

theorem same_any (k1 q1 k2 q2 : Int) (A1 A2 : Option Addr) (l1 l2 : List UInt8) (n1 n2 c1 c2 : Nat) (w : World) (h1 : Bs w A1 l1) (h2 : Bs w A2 l2) (e1 : n1 = l1.length) (e2 : n2 = l2.length) :
    Calls Try.prog 14 #[.agg #[.int .i64 k1, .int .i64 q1, .slice A1 n1 c1], .agg #[.int .i64 k2, .int .i64 q2, .slice A2 n2 c2]] w (BoolIn w (decide (k1 = k2 ∧ q1 = q2 ∧ l1 = l2))) := by
  subst e1
  subst e2
  obtain ⟨s1, Hs1⟩ : ∃ s, Hid (strB l1 = s) := ⟨_, rfl⟩
  obtain ⟨s2, Hs2⟩ : ∃ s, Hid (strB l2 = s) := ⟨_, rfl⟩
  have hss : (s1.toList == s2.toList) = decide (l1 = l2) := by
    rw [Bool.eq_iff_iff, Go.Lib.bytes_beq_iff, ← Hs1.out, ← Hs2.out, decide_eq_true_eq]
    exact strB_inj
  have hcx := box_cells w (.int .i64 k1) (.int .i64 q1) (.slice A1 l1.length c1) 24
  have hbx : Below w.heap.size w (w.alloc (.cells #[.int .i64 k1, .int .i64 q1, .slice A1 l1.length c1] 24)) := (Below.refl _ _).alloc (Nat.le_refl _) _
  have hcy := box_cells (w.alloc (.cells #[.int .i64 k1, .int .i64 q1, .slice A1 l1.length c1] 24)) (.int .i64 k2) (.int .i64 q2) (.slice A2 l2.length c2) 24
  obtain ⟨w0, hw0⟩ : ∃ w0, w.alloc (.cells #[.int .i64 k1, .int .i64 q1, .slice A1 l1.length c1] 24) = w0 := ⟨_, rfl⟩
  have hz : w0.heap.size = w.heap.size + 1 := by rw [← hw0]; simp
  rw [hw0] at hcx hbx hcy
  have hby : Below w0.heap.size w0 (w0.alloc (.cells #[.int .i64 k2, .int .i64 q2, .slice A2 l2.length c2] 24)) := (Below.refl _ _).alloc (Nat.le_refl _) _
  have hcx := hcx _ hby
  have hcy := hcy _ (Below.refl _ _)
  rw [hz] at hcy
  obtain ⟨w1, hw1⟩ : ∃ w1, w0.alloc (.cells #[.int .i64 k2, .int .i64 q2, .slice A2 l2.length c2] 24) = w1 := ⟨_, rfl⟩
  rw [hw1] at hcx hcy hby
  have hW := below_on hbx hby
  have p1 : (convert 22 9 (.slice A1 l1.length c1)).run Try.prog w1 = .ok (.string s1) w1 := by
    rw [← Hs1.out]
    exact run_conv_bs _ _ 5 _ Try.underlying22 Try.underlying5 Try.underlying9 A1 l1 c1 _ (h1.below hW) rfl
  have p2 : (convert 22 9 (.slice A2 l2.length c2)).run Try.prog w1 = .ok (.string s2) w1 := by
    rw [← Hs2.out]
    exact run_conv_bs _ _ 5 _ Try.underlying22 Try.underlying5 Try.underlying9 A2 l2 c2 _ (h2.below hW) rfl
  have HW := Lib.hid hW
  have Hw0 := Lib.hid hw0
  have Hw1 := Lib.hid hw1
  obtain ⟨⟨x0, x1, x2⟩, ⟨y0, y1, y2⟩⟩ := And.intro hcx hcy
  clear hcx hcy hbx hby hz hW hw0 hw1 h1 h2
  obtain ⟨bb, hbb⟩ : ∃ bb, decide (k1 = k2 ∧ q1 = q2 ∧ l1 = l2) = bb := ⟨_, rfl⟩
  rw [hbb]
  by_cases hk : k1 = k2
  · by_cases hq : q1 = q2
    · have hl : decide (l1 = l2) = bb := by rw [← hbb]; simp [hk, hq]
      rw [hl] at hss
      subst hk hq
      clear hbb hl
      go_enter Try.func14, Try.ntmps14
      go_upto_region 1 with fail
      rw [Hw0.out, Hw1.out]
      go_wp2_with fail
      go_ret
      exact ⟨rfl, HW.out⟩
    · have hb : bb = false := by rw [← hbb]; simp [hq]
      subst hb
      have d1 : (q1 == q2) = false := by simpa using hq
      subst hk
      clear hbb hq
      go_enter Try.func14, Try.ntmps14
      go_upto_region 1 with fail
      rw [Hw0.out, Hw1.out]
      go_wp2_with fail
      go_ret
      exact ⟨rfl, HW.out⟩
  · have hb : bb = false := by rw [← hbb]; simp [hk]
    subst hb
    have d1 : (k1 == k2) = false := by simpa using hk
    clear hbb hk
    go_enter Try.func14, Try.ntmps14
    go_upto_region 1 with fail
    rw [Hw0.out, Hw1.out]
    go_wp2_with fail
    go_ret
    exact ⟨rfl, HW.out⟩

/-- what Get tells of what Put laid -/
theorem getPost_put {k q : Int} {l more : List UInt8} {w w' : World} {e : Ending} (h : recOk k q l.length) (hp : GetPost w (putR k q l ++ more) e w') :
    Below w.heap.size w w' ∧ ∃ A c, e = .returned (.tuple #[.agg #[.int .i64 k, .int .i64 q, .slice A l.length c], .int .i64 (sizeR l.length : Nat), .bool true]) ∧ Bs w' A l := by
  have hi := isR_put more h
  obtain ⟨h1, h2, h3, h4, h5⟩ := h
  obtain ⟨hb, ⟨-, A, c, rfl, hbs⟩ | ⟨hn, -⟩⟩ := hp
  · have hP : putR k q l = encR k.toNat q.toNat l := by unfold putR; rw [if_pos ⟨h1, h2, h3, h4, h5⟩]
    have h16 : 16 ≤ (encR k.toNat q.toNat l).length := by rw [encR_len]; unfold sizeR; omega
    rw [hP] at hbs ⊢
    have e1 := kind_enc k.toNat q.toNat l more (by omega)
    have e2 : seqR (encR k.toNat q.toNat l ++ more) = q.toNat := by rw [seqR_app _ (by omega), seqR_enc _ _ _ (by omega)]
    have e3 := bodyR_enc k.toNat q.toNat l more h5
    have e4 : lenR (encR k.toNat q.toNat l ++ more) = l.length := by rw [lenR_app _ (by omega), lenR_enc _ _ _ h5]
    rw [e1, e2, e3, e4, Int.toNat_of_nonneg (by omega), Int.toNat_of_nonneg (by omega)]
    rw [e3] at hbs
    exact ⟨hb, A, c, rfl, hbs⟩
  · exact absurd hi hn

theorem getPost_no {b : List UInt8} {w w' : World} {e : Ending} (h : ¬ isR b) (hp : GetPost w b e w') : Below w.heap.size w w' ∧ e = noneR := by
  obtain ⟨hb, ⟨hi, -⟩ | ⟨-, he⟩⟩ := hp
  · exact absurd hi h
  · exact ⟨hb, he⟩
end Go.Proofs.Ytddalnmoahpljaa

