/- The contract of bootjacklaw2.do at its seventh kind, Peek. Written by wip/tools/mk_peek2.py. -/
import Derived.Test.YtlnpfndjdilfhaaLaw2Do
import Derived.Test.YtlnpfndjdilfhaaRegion
namespace Go.Proofs.Ytlnpfndjdilfhaa
open Go.RowKit
set_option linter.unusedVariables false

set_option maxRecDepth 100000 in
set_option maxHeartbeats 3200000 in
theorem do_peek {N : Nat} {w : World} {p : Ad} {d : Dl} {f : Fl} {t n : Int} {A : Option Addr} {l : List UInt8} {c : Nat} (h : DoIn N w p d f t n A l c) :
    Calls Try.prog 11 #[.pointer (some ⟨p.g, 0, none⟩), .pointer (some ⟨p.h, 0, none⟩), .agg #[.int .i64 7, .int .i64 t, .int .i64 n, .slice A l.length c]] w (DoPost N w p d) := by
  have t1 := h.t1
  have t2 := h.t2
  have n1 := h.n1
  have n2 := h.n2
  have hll := h.hl
  obtain ⟨w0, Hw0⟩ : ∃ w0, Hid (w.alloc (.cells #[.int .i64 7, .int .i64 t, .int .i64 n, .slice A l.length c] 32) = w0) := ⟨_, rfl⟩
  have hb0 : Below w.heap.size w w0 := by rw [← Hw0.out]; exact (Below.refl _ _).alloc (Nat.le_refl _) _
  have hz0 : w0.heap.size = w.heap.size + 1 := by rw [← Hw0.out]; simp
  have hg0 : w0.heap[w.heap.size]? = some (.cells #[.int .i64 7, .int .i64 t, .int .i64 n, .slice A l.length c] 32 (0, 0)) := by rw [← Hw0.out]; exact heap_alloc_new _ _
  have HS0 := Lib.hid (h.bs.below hb0)
  have HP0 := Lib.hid (h.pair.below hb0)
  have Hz0 := Lib.hid hz0
  have HG0 := Lib.hid hg0
  have HH := Lib.hid h
  have HB0 := Lib.hid hb0
  have hzz : w.heap.size < w0.heap.size := by omega
  clear h hz0 hg0 hb0
  go_enter Try.func11, Try.ntmps11
  go_wp2_with (with_reducible refine wpList_append_bs rfl (.const (.slice none 0 0)) (.tmp 16) 30 rfl w0.heap.size 5 Try.underlying30 info5 (.slice none 0 0) [] rfl (Ob.nil_ _ _ _) A l _ c rfl rfl (by rw [Hw0.out]; exact HS0.out) (by simp; omega) (by rw [Hw0.out]; exact Nat.le_refl _) ?_)
  rw [Hw0.out]
  intro v1 w1 ho1 hgr1
  obtain ⟨A1, c1, rfl, hbs1, -⟩ := ho1.form
  have hb1 := below_of_grown hgr1
  have hg1 := (hb1.block _ hzz).trans HG0.out
  have k0 : w1.cell? ⟨w.heap.size, 0, none⟩ = some (.int .i64 7) := by rw [cell_of_row _ _ _ _ _ _ hg1]; rfl
  have k1 : w1.cell? ⟨w.heap.size, 1, none⟩ = some (.int .i64 t) := by rw [cell_of_row _ _ _ _ _ _ hg1]; rfl
  have k2 : w1.cell? ⟨w.heap.size, 2, none⟩ = some (.int .i64 n) := by rw [cell_of_row _ _ _ _ _ _ hg1]; rfl
  have k3 : w1.cell? ⟨w.heap.size, 3, none⟩ = some (.slice A l.length c) := by rw [cell_of_row _ _ _ _ _ _ hg1]; rfl
  have HS1 := Lib.hid (HS0.out.below hb1)
  have HP1 := Lib.hid (HP0.out.below hb1)
  have HB1 := Lib.hid (HB0.out.trans (hb1.mono HB0.out.size))
  have HL1 := Lib.hid hbs1
  have HC1 : Hid (l.length ≤ c1) := Lib.hid (by
    rcases ho1.2 with ⟨h0, h1⟩ | ⟨g', cap, cur, e, _, _, hnc, _⟩
    · simp at h0; rw [h1]; omega
    · injection e with e1 e2 e3; rw [e3]; simpa using hnc)
  have HO1 : Hid (Off (AdF p) A1 l) := Lib.hid (fun _ k hk => adF_lt HP0.out (ho1.fresh k hk))
  have hnil : ([] : List UInt8) ++ l = l := List.nil_append l
  clear ho1 hgr1 hbs1 hg1 hnil
  have hbl : d.b.length ≤ 67108864 := by have := HH.out.ok.len; have := HH.out.ok.few; omega
  have hfl : f.b.length ≤ 67108864 := by have := HH.out.rok.len; have := HH.out.rok.few; omega
  have hz1 : w.heap.size < w1.heap.size := World.block_lt_of_cell? w1 _ k0
  obtain ⟨f2, Hf2⟩ : ∃ f2 : Fl, Hid (f2 = ⟨f.b, f.worn, f.steps, f.left, f.pick, false⟩) := ⟨_, rfl⟩
  obtain ⟨rl, rc, Hr⟩ : ∃ rl rc, Hid (readOf f2 t n = (rl, rc)) := ⟨_, _, rfl⟩
  have Hpe : Hid (peekOf d t n = rl) := Lib.hid (by rw [sim_peek HH.out.sim, ← Hf2.out, Hr.out])
  go_wp2_with fail
  refine (rcopy_any HP1.out.ref HH.out.rok (by rw [← HH.out.sim.worn]; exact HH.out.pos) HP1.out.size).mono ?_
  rintro e w2 ⟨gc, gcB, gcW, ccB, ccW, rfl, hr2, hb2, hgc⟩
  obtain ⟨AP, cP, hg2, hbp2, hap2⟩ := hr2.cells
  have e5 : w2.cell? ⟨gc, 5, none⟩ = some (.bool f.dark) := by rw [cell_of_row _ _ _ _ _ _ hg2]; rfl
  have f5 : w2.frozen? ⟨gc, 5, none⟩ = false := frozen_of_row w2 gc 5 _ _ hg2
  have o2 : Only (fun k => k = gc) w2 (w2.setCell ⟨gc, 5, none⟩ (.bool false)) := Only.setCell (p := ⟨gc, 5, none⟩) (Only.refl (fun k => k = gc) w2) (.inl rfl) _
  have hr3 : Hid (RefFl (w2.setCell ⟨gc, 5, none⟩ (.bool false)) gc gcB gcW ccB ccW N f2) := Lib.hid (by
    rw [Hf2.out]
    exact hr2.upd o2 (hbp2.only o2 (fun k hk => (hap2 k hk).1)) hap2 (heap_setCell_same _ _ _ _ _ _ hg2))
  have hb2x : Below w1.heap.size w1 (w2.setCell ⟨gc, 5, none⟩ (.bool false)) := hb2.trans (o2.below hb2.size (fun k hk e => by omega))
  have HB2 := Lib.hid hb2x
  have HP2 := Lib.hid (HP1.out.below hb2x)
  have j1 : w2.cell? ⟨w.heap.size, 1, none⟩ = some (.int .i64 t) := by rw [hb2.cell (p := ⟨w.heap.size, 1, none⟩) hz1]; exact k1
  have j2 : w2.cell? ⟨w.heap.size, 2, none⟩ = some (.int .i64 n) := by rw [hb2.cell (p := ⟨w.heap.size, 2, none⟩) hz1]; exact k2
  have hne : w.heap.size ≠ gc := by omega
  have hne2 : gc ≠ w.heap.size := by omega
  have K1 := Lib.hid k1
  have K2 := Lib.hid k2
  clear hr2 hg2 hbp2 hap2 o2 hb2x k0 k1 k2 k3
  obtain ⟨w2s, Hw2s⟩ : ∃ w2s, Hid (w2.setCell ⟨gc, 5, none⟩ (.bool false) = w2s) := ⟨_, rfl⟩
  rw [Hw2s.out] at hr3 HB2 HP2
  have h2 := rread_any hr3.out t n t1 t2 n1 n2 (by rw [Hf2.out]; show f.b.length ≤ _; omega)
  rw [Hr.out] at h2
  have HR2 := Lib.hid h2
  clear h2
  go_wp2_with fail
  rw [Hw2s.out]
  refine HR2.out.mono ?_
  rintro e w3 ⟨v3, rfl, ho3, hb3⟩
  obtain ⟨A3, c3, rfl, hbs3, -⟩ := ho3.form
  have hb13 := below_on HB2.out hb3
  have HB3 := Lib.hid (below_on HB1.out hb13)
  have HP3 := Lib.hid (HP2.out.below hb3)
  have hz3 : w.heap.size < w3.heap.size := by have := hb13.size; omega
  have i1 : w3.cell? ⟨w.heap.size, 1, none⟩ = some (.int .i64 t) := by rw [hb13.cell (p := ⟨w.heap.size, 1, none⟩) hz1]; exact K1.out
  have i2 : w3.cell? ⟨w.heap.size, 2, none⟩ = some (.int .i64 n) := by rw [hb13.cell (p := ⟨w.heap.size, 2, none⟩) hz1]; exact K2.out
  have L1 : ∀ W, Below w3.heap.size w3 W → W.cell? ⟨w.heap.size, 1, none⟩ = some (.int .i64 t) := fun W hW => by rw [hW.cell (p := ⟨w.heap.size, 1, none⟩) hz3]; exact i1
  have L2 : ∀ W, Below w3.heap.size w3 W → W.cell? ⟨w.heap.size, 2, none⟩ = some (.int .i64 n) := fun W hW => by rw [hW.cell (p := ⟨w.heap.size, 2, none⟩) hz3]; exact i2
  obtain ⟨s, Hs⟩ : ∃ s, Hid (strB rl = s) := ⟨_, rfl⟩
  have m3 : ∀ W, Below w3.heap.size w3 W → (convert 30 9 (.slice A3 rl.length c3)).run Try.prog W = .ok (.string s) W := fun W hW => conv_now (hbs3.below hW) rfl Hs.out
  have HPK : Hid (∀ W, Below w3.heap.size w3 W → Calls Try.prog 17 #[.pointer (some ⟨p.g, 0, none⟩), .int .i64 t, .int .i64 n] W (RetOb 5 W rl)) := Lib.hid (fun W hW => by
    have := dpeek_any (HP3.out.below hW).dev t n t1 t2 n1 n2 (by omega)
    rw [Hpe.out] at this
    exact this)
  have HX3 := Lib.hid hbs3
  clear ho3 hb3 hbs3 hb13 j1 j2 i1 i2 e5 f5
  go_wp2_with fail
  refine wp_region_noPanic ?_
  refine wp_region_held_drew (S := fun W => Below w3.heap.size w3 W) (by kernel_rfl) (by exact (Below.refl _ _).drew) (fun hS => ?_)
  refine' take_at 0 rfl (by kernel_rfl) (by kernel_rfl) (by kernel_rfl) (fun _ _ _ h => h) (by rfl) hS ?_ ?_ ?_
  rotate_left 2
  · intro W hSW; go_simp; try with_reducible rfl
  · simp only [List.set_cons_succ, List.set_cons_zero]; rfl
  refine' take_at 1 rfl (by kernel_rfl) (by kernel_rfl) (by kernel_rfl) (fun _ _ _ h => h) (by rfl) hS ?_ ?_ ?_
  rotate_left 2
  · intro W hSW; go_simp; try with_reducible rfl
  · simp only [List.set_cons_succ, List.set_cons_zero]; rfl
  refine' take_at 2 rfl (by kernel_rfl) (by kernel_rfl) (by kernel_rfl) (fun _ _ _ h => h) (by rfl) hS ?_ ?_ ?_
  rotate_left 2
  · intro W hSW; go_simp; try with_reducible rfl
  · simp only [List.set_cons_succ, List.set_cons_zero]; rfl
  refine' take_at 3 rfl (by kernel_rfl) (by kernel_rfl) (by kernel_rfl) (fun _ _ _ h => h) (by rfl) hS ?_ ?_ ?_
  rotate_left 2
  · intro W hSW; go_simp; try with_reducible rfl
  · simp only [List.set_cons_succ, List.set_cons_zero]; rfl
  refine' take_at 4 rfl (by kernel_rfl) (by kernel_rfl) (by kernel_rfl) (fun _ _ _ h => h) (by rfl) hS ?_ ?_ ?_
  rotate_left 2
  · intro W hSW; go_simp; try with_reducible rfl
  · simp only [List.set_cons_succ, List.set_cons_zero]; rfl
  refine' take_at 7 rfl (by kernel_rfl) (by kernel_rfl) (by kernel_rfl) (fun _ _ _ h => h) (by rfl) hS ?_ ?_ ?_
  rotate_left 2
  · intro W hSW; go_simp; try with_reducible rfl
  · simp only [List.set_cons_succ, List.set_cons_zero]; rfl
  refine' take_at 8 rfl (by kernel_rfl) (by kernel_rfl) (by kernel_rfl) (fun _ _ _ h => h) (by rfl) hS ?_ ?_ ?_
  rotate_left 2
  · intro W hSW; go_simp; try with_reducible rfl
  · simp only [List.set_cons_succ, List.set_cons_zero]; rfl
  refine call_at 5 rfl (by kernel_rfl) (by rfl) (fun K hK => ?_)
  go_simp
  refine (HPK.out _ hS).mono ?_
  rintro e w7 ⟨v7, rfl, ho7, hb7⟩
  obtain ⟨A7, c7, rfl, hbs7, -⟩ := ho7.form
  have kS7 := hS.trans (hb7.mono hS.size)
  have m7 : ∀ W, Below w7.heap.size w7 W → (convert 30 9 (.slice A7 rl.length c7)).run Try.prog W = .ok (.string s) W := fun W hW => conv_now (hbs7.below hW) rfl Hs.out
  have HX7 := Lib.hid hbs7
  clear hS ho7 hbs7
  refine hK.out _ _ (by exact kS7) (fun hS => ?_)
  clear hK K
  refine held_mono (S2 := fun W => Below w7.heap.size w7 W) (fun W hW => kS7.trans (hW.mono kS7.size)) _ _ _ _ ?_
  replace hS : Below w7.heap.size w7 w7 := Below.refl _ _
  refine' take_at 6 rfl (by kernel_rfl) (by kernel_rfl) (by kernel_rfl) (fun _ _ _ h => h) (by rfl) hS ?_ ?_ ?_
  rotate_left 2
  · intro W hSW; go_simp; try with_reducible rfl
  · simp only [List.set_cons_succ, List.set_cons_zero]; rfl
  refine' take_at 9 rfl (by kernel_rfl) (by kernel_rfl) (by kernel_rfl) (fun _ _ _ h => h) (by rfl) hS ?_ ?_ ?_
  rotate_left 2
  · intro W hSW; go_simp; try with_reducible rfl
  · simp only [List.set_cons_succ, List.set_cons_zero]; rfl
  refine' take_at 10 rfl (by kernel_rfl) (by kernel_rfl) (by kernel_rfl) (fun _ _ _ h => h) (by rfl) hS ?_ ?_ ?_
  rotate_left 2
  · intro W hSW; go_simp; try with_reducible rfl
  · simp only [List.set_cons_succ, List.set_cons_zero]; rfl
  refine wpAnyH_done (by kernel_rfl) ?_ _
  refine NoPanic.normal ?_
  go_wp2_with fail
  go_ret
  exact ⟨rfl, d, f, HP3.out.below (kS7.trans (hS.mono kS7.size)), HH.out.sim, (NumFact.same HH.out.ok (by omega)), HH.out.rok, (Only.of_below ⟨HB3.out.os, HB3.out.tape, HB3.out.output, HB3.out.size, HB3.out.block⟩).trans (Only.of_below (kS7.trans (hS.mono kS7.size)))⟩
end Go.Proofs.Ytlnpfndjdilfhaa
