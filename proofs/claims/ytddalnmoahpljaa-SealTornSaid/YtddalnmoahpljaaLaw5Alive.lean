/- The contract of layer 5's alive. -/
import Derived.Test.YtddalnmoahpljaaLaw5Same
namespace Go.Proofs.Ytddalnmoahpljaa
open Go.RowKit
set_option linter.unusedVariables false
set_option maxRecDepth 100000

theorem ob_lit1 (w : World) (x : UInt8) : Bs (w.alloc (.cells #[bval x] 5)) (some ⟨w.heap.size, 0, none⟩) [x] := by
  intro _
  refine ⟨w.heap.size, 0, rfl, fun j hj => ?_⟩
  obtain rfl : j = 0 := by simpa using hj
  rw [cell_of_row _ _ _ _ _ _ (heap_alloc_new w _)]
  rfl

/-- what the document's example comes to, put -/
theorem put375 (w : World) : ∀ W, Below (w.alloc (.cells #[.int .u8 5] 5)).heap.size (w.alloc (.cells #[.int .u8 5] 5)) W →
    Calls Try.prog 12 #[.agg #[.int .i64 3, .int .i64 7, .slice (some ⟨w.heap.size, 0, none⟩) 1 1]] W (RetOb 5 W (putR 3 7 [5])) := fun W hW =>
  put_any 3 7 _ [5] 1 W ((ob_lit1 w 5).below hW) (by omega) (by omega) (by omega) (by omega) (by decide)

theorem put375_len : (putR 3 7 [5]).length = 24 := by
  unfold putR
  rw [if_pos (by decide), encR_len]
  rfl

theorem get375 (A : Option Addr) (c : Nat) (w : World) (h : Bs w A (putR 3 7 [5])) (hc : 24 ≤ c) :
    Calls Try.prog 10 #[.slice A 24 c] w fun e w' => Below w.heap.size w w' ∧ ∃ A c, e = .returned (.tuple #[.agg #[.int .i64 3, .int .i64 7, .slice A 1 c], .int .i64 24, .bool true]) :=
  (get_any A _ 24 c w h put375_len hc (by omega)).mono fun e w' hp => by
    have hp' : GetPost w (putR 3 7 [5] ++ []) e w' := by rw [List.append_nil]; exact hp
    obtain ⟨hb, A, c, he, -⟩ := getPost_put (by decide) hp'
    exact ⟨hb, A, c, he⟩

theorem alive5_any (w : World) : Calls Try.prog 9 #[] w (BoolIn w true) := by
  have HPUT := Lib.hid (put375 w)
  have hl := put375_len
  obtain ⟨P, Hp⟩ : ∃ P, Hid (putR 3 7 [5] = P) := ⟨_, rfl⟩
  rw [Hp.out] at HPUT hl
  have HGET : Hid (∀ A c (W : World), Bs W A P → 24 ≤ c → Calls Try.prog 10 #[.slice A 24 c] W fun e w' => Below W.heap.size W w' ∧ ∃ A c, e = .returned (.tuple #[.agg #[.int .i64 3, .int .i64 7, .slice A 1 c], .int .i64 24, .bool true])) := Lib.hid fun A c W h hc => get375 A c W (by rw [Hp.out]; exact h) hc
  have HS : Hid (∀ W, Calls Try.prog 15 #[.int .i64 0] W fun e w' => e = .returned (.int .i64 16) ∧ w' = W) := Lib.hid fun W => size_any 0 W (by omega) (by omega)
  have HB0 : Hid (Below w.heap.size w (w.alloc (.cells #[.int .u8 5] 5))) := Lib.hid ((Below.refl _ _).alloc (Nat.le_refl _) _)
  have Hl := Lib.hid hl
  clear hl
  go_enter Try.func9, Try.ntmps9
  go_wp2_with fail
  with_reducible refine (HPUT.out _ (Below.refl _ _)).mono ?_
  rintro e w1 ⟨v1, rfl, ho1, hb1⟩
  obtain ⟨g1, c1, rfl, hbs1, hc1, -⟩ := ho1.formN Hl.out (by omega)
  have B1 := Lib.hid (below_on HB0.out hb1)
  have HG1 := Lib.hid (HGET.out _ c1 w1 hbs1 hc1)
  clear ho1 hbs1 hc1 hb1
  go_wp2_with fail
  with_reducible refine HG1.out.mono ?_
  rintro e w2 ⟨hb2, A2, c2, rfl⟩
  have B2 := Lib.hid (below_on B1.out hb2)
  clear hb2
  go_upto_region 3 with fail
  obtain ⟨b0, b1, b2⟩ := box_cells w2 (.int .i64 3) (.int .i64 7) (.slice A2 1 c2) 24 _ (Below.refl _ _)
  have B3 : Hid (Below w.heap.size w (w2.alloc (.cells #[.int .i64 3, .int .i64 7, .slice A2 1 c2] 24))) := Lib.hid (B2.out.alloc B2.out.size _)
  go_wp2_with fail
  with_reducible refine (HS.out _).mono ?_
  rintro e w' ⟨rfl, rfl⟩
  go_wp2_with fail
  go_ret
  exact ⟨rfl, B3.out⟩
end Go.Proofs.Ytddalnmoahpljaa

