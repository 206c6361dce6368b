/- The contracts of bootjacklaw1.alive and Short. -/
import Derived.Test.YtlbododoooibbaaNor
namespace Go.Proofs.Ytlbododoooibbaa
open Go.RowKit
set_option linter.unusedVariables false

theorem Ob.one {E : TypeId} {w : World} {base : Nat} {v : Value} {x : UInt8} (h : Ob E w base v [x]) :
    ∃ g c, v = .slice (some ⟨g, 0, none⟩) 1 c ∧ w.cell? ⟨g, 0, none⟩ = some (.int .u8 (x.toNat : Int)) ∧ g < w.heap.size := by
  obtain ⟨A, c, rfl, hb, hf⟩ := h.form
  obtain ⟨b, o, rfl, hc⟩ := hb.at_ (k := 0) (by simp)
  rcases hf with e | ⟨g, e, -, hg⟩
  · cases e
  · injection e with e
    injection e with e1 e2
    subst e1
    subst e2
    exact ⟨b, c, rfl, by simpa using hc, hg⟩

theorem bs_lit1 (w : World) (E : TypeId) (x : UInt8) : Bs (w.alloc (.cells #[.int .u8 (x.toNat : Int)] E)) (some ⟨w.heap.size, 0, none⟩) [x] := fun _ =>
  ⟨_, _, rfl, fun j hj => by
    have : j = 0 := by simpa using hj
    subst this
    have := heap_alloc_new w (.cells #[.int .u8 (x.toNat : Int)] E)
    rw [cell_of_row _ _ _ _ _ _ this]
    simp⟩

theorem short_yes {A1 A2 A3 : Option Addr} {n1 n2 n3 c1 c2 c3 : Nat} {w : World} (h1 : n1 ≤ 400) (h2 : n2 ≤ 400) (h3 : n3 ≤ 400) :
    Calls Try.prog 9 #[.slice A1 n1 c1, .slice A2 n2 c2, .slice A3 n3 c3] w fun e w' => e = .returned (.bool true) ∧ w = w' := by
  go_enter Try.func9, Try.ntmps9
  go_wp2
  go_ret
  refine ⟨?_, rfl⟩
  show Ending.returned (Value.bool (decide ((n3 : Int) ≤ 400))) = _
  rw [decide_eq_true (by omega)]

theorem short_no {A1 A2 A3 : Option Addr} {n1 n2 n3 c1 c2 c3 : Nat} {w : World} (h : ¬ (n1 ≤ 400 ∧ n2 ≤ 400 ∧ n3 ≤ 400)) :
    Calls Try.prog 9 #[.slice A1 n1 c1, .slice A2 n2 c2, .slice A3 n3 c3] w fun e w' => e = .returned (.bool false) ∧ w = w' := by
  by_cases h1 : n1 ≤ 400
  · by_cases h2 : n2 ≤ 400
    · have h3 : ¬ ((n3 : Int) ≤ 400) := by omega
      clear h
      go_enter Try.func9, Try.ntmps9
      go_wp2
      go_ret
      exact ⟨rfl, rfl⟩
    · have h3 : ¬ ((n2 : Int) ≤ 400) := by omega
      clear h
      go_enter Try.func9, Try.ntmps9
      go_wp2
      go_ret
      exact ⟨rfl, rfl⟩
  · have h3 : ¬ ((n1 : Int) ≤ 400) := by omega
    clear h
    go_enter Try.func9, Try.ntmps9
    go_wp2
    go_ret
    exact ⟨rfl, rfl⟩

set_option maxHeartbeats 1600000 in
theorem alive_any (w : World) : Calls Try.prog 8 #[] w fun e w' => e = .returned (.bool true) ∧ Below w.heap.size w w' := by
  go_enter Try.func8, Try.ntmps8
  go_wp2_with fail
  have hz : (w.alloc (.cells #[.int .u8 240] 5)).heap.size = w.heap.size + 1 := by simp
  refine (program_yes (some ⟨w.heap.size, 0, none⟩) (some ⟨w.heap.size + 1, 0, none⟩) [240] [48] 1 1 _ (Lib.hid (by decide)) ((bs_lit1 w _ 240).below ((Below.refl _ _).alloc (Nat.le_refl _) _)) (hz ▸ bs_lit1 _ _ 48) (by simp) (by simp)).mono ?_
  clear hz
  rintro e w1 ⟨v, rfl, ho, hb⟩
  obtain ⟨g, c, rfl, hc, hg⟩ := ho.one
  have hb1 : Below w.heap.size w w1 := (((Below.refl w.heap.size w).alloc (Nat.le_refl _) _).alloc (by simp) _).trans (hb.mono (by simp; omega))
  clear hb ho
  go_wp2_with fail
  have hz1 : (w1.alloc (.cells #[.int .u8 240] 5)).heap.size = w1.heap.size + 1 := by simp
  have hz2 : ((w1.alloc (.cells #[.int .u8 240] 5)).alloc (.cells #[.int .u8 48] 5)).heap.size = w1.heap.size + 1 + 1 := by simp
  refine (torn_yes (some ⟨w1.heap.size, 0, none⟩) (some ⟨w1.heap.size + 1, 0, none⟩) (some ⟨w1.heap.size + 1 + 1, 0, none⟩) [240] [48] [128] 1 1 1 _ (Lib.hid (by decide)) ((bs_lit1 w1 _ 240).below (((Below.refl _ _).alloc (Nat.le_refl _) _).alloc (by simp) _))
    ((hz1 ▸ bs_lit1 (w1.alloc (.cells #[.int .u8 240] 5)) 5 48 : Bs _ (some ⟨w1.heap.size + 1, 0, none⟩) _).below ((Below.refl _ _).alloc (by simp) _)) (hz2 ▸ bs_lit1 _ _ 128) (by simp) (by simp) (by simp)).mono ?_
  clear hz1 hz2
  rintro e w2 ⟨v, rfl, ho, hb⟩
  have ht : tornB [240] [48] [128] = [176] := by decide
  rw [ht] at ho
  clear ht
  obtain ⟨g2, c2, rfl, hc2, hg2⟩ := ho.one
  have hc' : w2.cell? ⟨g, 0, none⟩ = some (.int .u8 48) := by
    rw [hb.cell (p := ⟨g, 0, none⟩) (by simp; omega), World.cell?_alloc_lt _ _ _ (by simp; omega), World.cell?_alloc_lt _ _ _ (by simp; omega), World.cell?_alloc_lt _ _ _ (by simpa using hg), hc]
    rfl
  have hb2 : Below w.heap.size w w2 := by
    refine hb1.trans ((((Below.refl w1.heap.size w1).alloc (Nat.le_refl _) _).alloc (by simp) _).alloc (by simp; omega) _ |>.trans (hb.mono (by simp; omega)) |>.mono hb1.size)
  have hc2' : w2.cell? ⟨g2, 0, none⟩ = some (.int .u8 176) := hc2
  clear hb ho hb1 hc hc2 hg
  go_wp2_with fail
  refine (blank_any 3 _ (by omega) (by omega)).mono ?_
  rintro e w3 ⟨v, rfl, ho, hb⟩
  obtain ⟨A, c3, rfl, hbs, -⟩ := ho.form
  have hb3 := hb2.trans (hb.mono hb2.size)
  clear hb ho hb2
  go_wp2_with fail
  refine (isBlank_any A _ c3 _ hbs (by decide)).mono ?_
  rintro e w4 ⟨rfl, rfl⟩
  have hall : (List.replicate (max 0 (min (3 : Int) 65536)).toNat (255 : UInt8)).all (· == 255) = true := by decide
  rw [hall]
  clear hall
  go_wp2_with fail
  refine (blank_any 3 _ (by omega) (by omega)).mono ?_
  rintro e w4 ⟨v, rfl, ho, hb⟩
  obtain ⟨A, c3, rfl, hbs, -⟩ := ho.form
  have hb4 := hb3.trans (hb.mono hb3.size)
  clear hb ho hb3
  have hlen : (List.replicate (max 0 (min (3 : Int) 65536)).toNat (255 : UInt8)).length = 3 := by decide
  rw [hlen]
  go_wp2_with fail
  go_ret
  exact ⟨rfl, hb4⟩
end Go.Proofs.Ytlbododoooibbaa
