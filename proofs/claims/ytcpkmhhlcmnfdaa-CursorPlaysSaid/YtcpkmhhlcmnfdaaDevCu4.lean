/- What is asked of the program's cursor is so; a cursor that is none. -/
import Derived.Test.YtcpkmhhlcmnfdaaDevCu3
namespace Go.Proofs.Ytcpkmhhlcmnfdaa
open Go.RowKit
set_option linter.unusedVariables false
set_option maxRecDepth 100000

theorem cup_later {a c : Nat} {fa : FA} {G g : Nat} {W w' : World} {Q : Nat → Prop} {r : Int × Cu Dl} {e : Ending} (hq : ∀ j, Q j ↔ OwnF fa g j) (h : CCallPost a c fa G g W Q r e w') :
    e = .returned (.int .i64 r.1) ∧ Only Q W w' ∧ ∃ Q', CuP a c fa G g w' r.2 Q' ∧ ∀ j, Q' j → Q j ∨ W.heap.size ≤ j :=
  ⟨h.1, h.2.2.mono fun j _ hj => (hq j).2 hj, Q, h.2.1, fun j hj => .inl hj⟩
theorem cuP_turn {a c : Nat} {fa : FA} {G g : Nat} {W W' : World} {u : Cu Dl} {Q : Nat → Prop} {d : Dl} (h : CuP a c fa G g W u Q) (hd : FlIn fa G W' d) (ho : Only fa.F W W') (hl : d.b.length = u.x.d.b.length) : CuP a c fa G g W' (turned u d) Q := by
  obtain ⟨wd, hm, hw⟩ := h.mem
  obtain ⟨n1, n2, n3, n4⟩ := h.num
  exact ⟨h.q, ⟨wd, hm.only ho h.out, hw⟩, hd, h.gG, h.out, ⟨n1, n2, n3, fun h0 => by obtain ⟨q1, q2, q3⟩ := n4 h0; exact ⟨q1, q2, ⟨q3.hi, q3.hic, q3.ent, q3.ent2, q3.sec⟩⟩⟩, by show _ ≤ d.b.length; rw [hl]; exact h.len, h.sz⟩
theorem cuP_lt {a c : Nat} {fa : FA} {G g : Nat} {W : World} {u : Cu Dl} {Q : Nat → Prop} (h : CuP a c fa G g W u Q) : ∀ j, Q j → j < W.heap.size := fun j hj => by
  obtain ⟨wd, hm, -⟩ := h.mem
  rcases (h.q j).1 hj with q | q
  · exact h.fl.blk j q
  · subst q; exact hm.blk
theorem cuspec_any {c : Nat} {fa : FA} {g : Nat} : CuSpec c fa g (CuP 0 c fa g g) :=
  ⟨fun W u Q A l k hp hb hoff hk hl2 rm => (cwrite_any hp A l k hb (fun h j hj hx => hoff h j hj ((hp.q j).2 hx)) hk hl2 rm).mono fun e w' h => cup_later hp.q h,
   fun W u Q hp rm => (cflush_any hp rm).mono fun e w' h => cup_later hp.q h,
   fun W u Q hp => cat_any hp, fun W u Q hp => cheld_any hp, fun W u Q hp => cuP_lt hp, fun W u Q hp => by obtain ⟨wd, hm, -⟩ := hp.mem; exact hm.blk,
   fun W W' u Q hp hb => hp.below hb, fun W u Q hp => ⟨hp.fl.in_, fun j hj => (hp.q j).2 (.inl hj)⟩,
   fun W W' u Q d hp hd ho hl => cuP_turn hp hd ho hl⟩
theorem newOk : NewOk := by
  intro c w fa d n c1 c2 hf ok hpk hl n1 n2
  refine (cnew_any 0 c w fa d n (by omega) (by omega) hf ok hpk (by omega) n1 n2).mono fun e w' h => ?_
  obtain ⟨h1, h2⟩ := h
  refine ⟨h1, ?_⟩
  by_cases q1 : n < 0 ∨ (c : Int) * 1024 < n
  · rw [if_pos q1] at h2 ⊢; exact h2
  · rw [if_neg q1] at h2 ⊢
    by_cases q2 : (dgRead d 0 c (n / 8 * 8) (n % 8)).2 ≠ 0
    · rw [if_pos q2] at h2 ⊢; exact h2
    · rw [if_neg q2] at h2 ⊢
      obtain ⟨g, hg, he, hp⟩ := h2
      refine ⟨g, _, _, he, cuspec_any, hp g (Nat.le_refl _), fun j hj => ?_⟩
      rcases hj with hj | hj
      · exact .inl hj
      · subst hj; exact .inr hg

theorem nilOk : NilOk := by
  refine ⟨fun W A z c hz => ?_, fun W => ?_, fun W => ?_, fun W => ?_⟩
  · go_enter Try.func19, Try.ntmps19
    go_wp2_with fail
    go_ret
    exact ⟨rfl, Below.refl _ _⟩
  · go_enter Try.func21, Try.ntmps21
    go_wp2_with fail
    go_ret
    exact ⟨rfl, Below.refl _ _⟩
  · go_enter Try.func27, Try.ntmps27
    go_wp2_with fail
    go_ret
    exact ⟨rfl, rfl⟩
  · go_enter Try.func28, Try.ntmps28
    go_wp2_with fail
    go_ret
    exact ⟨_, rfl, Ob.nil_ _ _ _, Below.refl _ _⟩
end Go.Proofs.Ytcpkmhhlcmnfdaa

