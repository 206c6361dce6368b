/- The contract of bootjacklaw3.do: a call on both regions answers alike and leaves both flashes alike. Written by wip/tools/mk_do3.py. -/
import Derived.Test.YtmhcogpjgllgjaaReg3
import Derived.Test.YtmhcogpjgllgjaaLaw2Do
import Derived.Deep.RegionHeld3
namespace Go.Proofs.Ytmhcogpjgllgjaa
open Go.RowKit
set_option linter.unusedVariables false

/-- the four cells of a call, boxed, and the three of each region's value -/
structure Boxes (W : World) (Z : Nat) (q q2 x y kd : Value) (t n : Int) (A : Option Addr) (z c : Nat) : Prop where
  r0 : W.cell? ⟨Z, 0, none⟩ = some q
  r1 : W.cell? ⟨Z, 1, none⟩ = some x
  r2 : W.cell? ⟨Z, 2, none⟩ = some y
  s0 : W.cell? ⟨Z + 1, 0, none⟩ = some q2
  s1 : W.cell? ⟨Z + 1, 1, none⟩ = some x
  s2 : W.cell? ⟨Z + 1, 2, none⟩ = some y
  k0 : W.cell? ⟨Z + 2, 0, none⟩ = some kd
  k1 : W.cell? ⟨Z + 2, 1, none⟩ = some (.int .i64 t)
  k2 : W.cell? ⟨Z + 2, 2, none⟩ = some (.int .i64 n)
  k3 : W.cell? ⟨Z + 2, 3, none⟩ = some (.slice A z c)
theorem boxes_of (w : World) (q q2 x y kd : Value) (t n : Int) (A : Option Addr) (z c : Nat) (E1 E2 E3 : TypeId) (F : Nat → Prop) (hF : ∀ j, w.heap.size ≤ j → ¬ F j) :
    ∀ W, Only F (((w.alloc (.cells #[q, x, y] E1)).alloc (.cells #[q2, x, y] E2)).alloc (.cells #[kd, .int .i64 t, .int .i64 n, .slice A z c] E3)) W → Boxes W w.heap.size q q2 x y kd t n A z c := fun W hW => by
  obtain ⟨w2, e2⟩ : ∃ w2, (w.alloc (.cells #[q, x, y] E1)).alloc (.cells #[q2, x, y] E2) = w2 := ⟨_, rfl⟩
  have z2 : w2.heap.size = w.heap.size + 2 := by rw [← e2]; simp
  have h0 : w2.heap[w.heap.size]? = some (.cells #[q, x, y] E1 (0, 0)) := by rw [← e2]; exact heap_alloc2_old _ _ _
  have h1 : w2.heap[w.heap.size + 1]? = some (.cells #[q2, x, y] E2 (0, 0)) := by rw [← e2]; exact heap_alloc2_new _ _ _
  rw [e2] at hW
  have k2 := heap_alloc_new w2 (.cells #[kd, .int .i64 t, .int .i64 n, .slice A z c] E3)
  rw [z2] at k2
  have k0 := (Below.heap_alloc w2 (.cells #[kd, .int .i64 t, .int .i64 n, .slice A z c] E3) w.heap.size (by omega)).trans h0
  have k1 := (Below.heap_alloc w2 (.cells #[kd, .int .i64 t, .int .i64 n, .slice A z c] E3) (w.heap.size + 1) (by omega)).trans h1
  have g0 := (hW.block w.heap.size (by simp; omega) (hF _ (by omega))).trans k0
  have g1 := (hW.block (w.heap.size + 1) (by simp; omega) (hF _ (by omega))).trans k1
  have g2 := (hW.block (w.heap.size + 2) (by simp; omega) (hF _ (by omega))).trans k2
  exact ⟨by rw [cell_of_row _ _ _ _ _ _ g0]; rfl, by rw [cell_of_row _ _ _ _ _ _ g0]; rfl, by rw [cell_of_row _ _ _ _ _ _ g0]; rfl,
    by rw [cell_of_row _ _ _ _ _ _ g1]; rfl, by rw [cell_of_row _ _ _ _ _ _ g1]; rfl, by rw [cell_of_row _ _ _ _ _ _ g1]; rfl,
    by rw [cell_of_row _ _ _ _ _ _ g2]; rfl, by rw [cell_of_row _ _ _ _ _ _ g2]; rfl, by rw [cell_of_row _ _ _ _ _ _ g2]; rfl, by rw [cell_of_row _ _ _ _ _ _ g2]; rfl⟩
theorem Boxes.below {W W' : World} {Z : Nat} {q q2 x y kd : Value} {t n : Int} {A : Option Addr} {z c : Nat} (h : Boxes W Z q q2 x y kd t n A z c) (hb : Below W.heap.size W W') : Boxes W' Z q q2 x y kd t n A z c := by
  have e : ∀ (b j : Nat) (v : Value), W.cell? ⟨b, j, none⟩ = some v → W'.cell? ⟨b, j, none⟩ = some v := fun b j v hv => by
    rw [hb.cell (p := ⟨b, j, none⟩) (World.block_lt_of_cell? W _ hv)]; exact hv
  exact ⟨e _ _ _ h.r0, e _ _ _ h.r1, e _ _ _ h.r2, e _ _ _ h.s0, e _ _ _ h.s1, e _ _ _ h.s2, e _ _ _ h.k0, e _ _ _ h.k1, e _ _ _ h.k2, e _ _ _ h.k3⟩

/-- the values that stand for the two regions -/
structure RgV (p : Ad) (o : Option (Nat × Nat)) (q q2 x y : Value) : Prop where
  q : q = rgQ p.g o
  q2 : q2 = rgQ p.h o
  x : x = rgX o
  y : y = rgY o

set_option maxRecDepth 100000 in
set_option maxHeartbeats 3200000 in
theorem do3_read {N : Nat} {w : World} {p : Ad} {d : Dl} {f : Fl} {o : Option (Nat × Nat)} {q q2 x y : Value} {t n : Int} {A : Option Addr} {l : List UInt8} {c : Nat} (h : DoIn N w p d f t n A l c) (ho : RgOk d.b.length o) (hv : RgV p o q q2 x y) :
    Calls Try.prog 16 #[.pointer (some ⟨p.g, 0, none⟩), .pointer (some ⟨p.h, 0, none⟩), .agg #[q, x, y], .agg #[q2, x, y], .agg #[.int .i64 1, .int .i64 t, .int .i64 n, .slice A l.length c]] w (DoPost N w p d) := by
  have t1 := h.t1
  have t2 := h.t2
  have n1 := h.n1
  have n2 := h.n2
  have hll := h.hl
  have hbx := boxes_of w q q2 x y (.int .i64 1) t n A l.length c 30 35 43 (AdF p) (fun j hj => adF_lt h.pair hj)
  obtain ⟨w0, Hw0⟩ : ∃ w0, Hid (((w.alloc (.cells #[q, x, y] 30)).alloc (.cells #[q2, x, y] 35)).alloc (.cells #[.int .i64 1, .int .i64 t, .int .i64 n, .slice A l.length c] 43) = w0) := ⟨_, rfl⟩
  have hb0 : Below w.heap.size w w0 := by rw [← Hw0.out]; exact (((Below.refl _ _).alloc (Nat.le_refl _) _).alloc (by simp) _).alloc (by simp; omega) _
  rw [Hw0.out] at hbx
  have HS0 := Lib.hid (h.bs.below hb0)
  have HP0 := Lib.hid (h.pair.below hb0)
  have HBX0 := Lib.hid hbx
  have HH := Lib.hid h
  have HB0 := Lib.hid hb0
  have HO := Lib.hid ho
  have HV := Lib.hid hv
  clear h hb0 hbx ho hv
  go_enter Try.func16, Try.ntmps16
  go_wp2_with (with_reducible refine wpList_append_bs rfl (.const (.slice none 0 0)) (.tmp 21) 41 rfl w0.heap.size 5 Try.underlying41 info5 (.slice none 0 0) [] rfl (Ob.nil_ _ _ _) A l _ c rfl rfl (by rw [Hw0.out]; exact HS0.out) (by simp; omega) (by rw [Hw0.out]; exact Nat.le_refl _) ?_)
  rw [Hw0.out]
  intro v1 w1 ho1 hgr1
  obtain ⟨A1, c1, rfl, hbs1, -⟩ := ho1.form
  have hb1 := below_of_grown hgr1
  have HBX : Hid (∀ W, Only (AdF p) w1 W → Boxes W w.heap.size q q2 x y (.int .i64 1) t n A l.length c) := Lib.hid fun W hW => HBX0.out W ((Only.of_below hb1).trans hW)
  obtain ⟨r0, r1, r2, s0, s1, s2, k0, k1, k2, k3⟩ := HBX.out w1 (Only.refl _ _)
  have HS1 := Lib.hid (HS0.out.below hb1)
  have HP1 := Lib.hid (HP0.out.below hb1)
  have HB1 := Lib.hid (HB0.out.trans (hb1.mono HB0.out.size))
  have HL1 := Lib.hid hbs1
  have HC1 : Hid (l.length ≤ c1) := Lib.hid (by
    rcases ho1.2 with ⟨h0, h1⟩ | ⟨g', cap, cur, e, _, _, hnc, _⟩
    · simp at h0; rw [h1]; omega
    · injection e with e1 e2 e3; rw [e3]; simpa using hnc)
  have HO1 : Hid (Off (AdF p) A1 l) := Lib.hid (fun _ k hk => adF_lt HP0.out (ho1.fresh k hk))
  have hnil : ([] : List UInt8) ++ l = l := List.nil_append l
  clear ho1 hgr1 hbs1 hb1 hnil
  clear s0 s1 s2
  have hbl : d.b.length ≤ 67108864 := by have := HH.out.ok.len; have := HH.out.ok.few; omega
  have hfl : f.b.length ≤ 67108864 := by have := HH.out.rok.len; have := HH.out.rok.few; omega
  have hof : RgOk f.b.length o := by rw [← HH.out.sim.b]; exact HO.out
  obtain ⟨rl, rc, Hr⟩ : ∃ rl rc, Hid (orRead f o t n = (rl, rc)) := ⟨_, _, rfl⟩
  have HDR : Hid (∀ W, Pair N W p d f → Calls Try.prog 24 #[.agg #[q, x, y], .int .i64 t, .int .i64 n] W (ReadPost W (rl, rc))) := Lib.hid fun W hW => by
    have := pair_odread hW o HO.out (by omega) t n t1 t2 n1 n2
    rw [sim_oread HH.out.sim, Hr.out, ← HV.out.q, ← HV.out.x, ← HV.out.y] at this
    exact this
  have HRR : Hid (∀ W, Pair N W p d f → Calls Try.prog 30 #[.agg #[q2, x, y], .int .i64 t, .int .i64 n] W (ReadPost W (rl, rc))) := Lib.hid fun W hW => by
    have := pair_orread hW o hof (by omega) t n t1 t2 n1 n2
    rw [Hr.out, ← HV.out.q2, ← HV.out.x, ← HV.out.y] at this
    exact this
  clear hof
  go_wp2_with fail
  (with_reducible refine (HDR.out _ HP1.out).mono ?_)
  rintro e w2 ⟨v2, rfl, ho2, hb2⟩
  obtain ⟨A2, c2, rfl, hbs2, -⟩ := ho2.form
  have HP2 := Lib.hid (HP1.out.below hb2)
  have HX2 := Lib.hid hbs2
  have HB2 := Lib.hid (below_on HB1.out hb2)
  clear r0 r1 r2 k0 k1 k2 k3
  obtain ⟨r0, r1, r2, s0, s1, s2, k0, k1, k2, k3⟩ := HBX.out w2 (Only.of_below hb2)
  clear ho2 hb2 hbs2
  go_wp2_with fail
  (with_reducible refine (HRR.out _ HP2.out).mono ?_)
  rintro e w3 ⟨v3, rfl, ho3, hb3⟩
  obtain ⟨A3, c3, rfl, hbs3, -⟩ := ho3.form
  have HP3 := Lib.hid (HP2.out.below hb3)
  have HB3 := Lib.hid (below_on HB2.out hb3)
  obtain ⟨s, Hs⟩ : ∃ s, Hid (strB rl = s) := ⟨_, rfl⟩
  have m2 : (convert 41 9 (.slice A2 rl.length c2)).run Try.prog w3 = .ok (.string s) w3 := conv_now (HX2.out.below hb3) rfl Hs.out
  have m3 : (convert 41 9 (.slice A3 rl.length c3)).run Try.prog w3 = .ok (.string s) w3 := conv_now hbs3 rfl Hs.out
  have HX3 := Lib.hid hbs3
  clear ho3 hb3 hbs3 r0 r1 r2 s0 s1 s2 k0 k1 k2 k3
  go_wp2_with (go_at_call 13; refine (num3_any _ _).mono ?_; rintro e w4 ⟨rfl, rfl⟩)
  go_ret
  exact ⟨rfl, d, f, HP3.out, HH.out.sim, (NumFact.same HH.out.ok (by omega)), HH.out.rok, Only.of_below ⟨HB3.out.os, HB3.out.tape, HB3.out.output, HB3.out.size, HB3.out.block⟩⟩

set_option maxRecDepth 100000 in
set_option maxHeartbeats 3200000 in
theorem do3_program {N : Nat} {w : World} {p : Ad} {d : Dl} {f : Fl} {o : Option (Nat × Nat)} {q q2 x y : Value} {t n : Int} {A : Option Addr} {l : List UInt8} {c : Nat} (h : DoIn N w p d f t n A l c) (ho : RgOk d.b.length o) (hv : RgV p o q q2 x y) :
    Calls Try.prog 16 #[.pointer (some ⟨p.g, 0, none⟩), .pointer (some ⟨p.h, 0, none⟩), .agg #[q, x, y], .agg #[q2, x, y], .agg #[.int .i64 2, .int .i64 t, .int .i64 n, .slice A l.length c]] w (DoPost N w p d) := by
  have t1 := h.t1
  have t2 := h.t2
  have n1 := h.n1
  have n2 := h.n2
  have hll := h.hl
  have hbx := boxes_of w q q2 x y (.int .i64 2) t n A l.length c 30 35 43 (AdF p) (fun j hj => adF_lt h.pair hj)
  obtain ⟨w0, Hw0⟩ : ∃ w0, Hid (((w.alloc (.cells #[q, x, y] 30)).alloc (.cells #[q2, x, y] 35)).alloc (.cells #[.int .i64 2, .int .i64 t, .int .i64 n, .slice A l.length c] 43) = w0) := ⟨_, rfl⟩
  have hb0 : Below w.heap.size w w0 := by rw [← Hw0.out]; exact (((Below.refl _ _).alloc (Nat.le_refl _) _).alloc (by simp) _).alloc (by simp; omega) _
  rw [Hw0.out] at hbx
  have HS0 := Lib.hid (h.bs.below hb0)
  have HP0 := Lib.hid (h.pair.below hb0)
  have HBX0 := Lib.hid hbx
  have HH := Lib.hid h
  have HB0 := Lib.hid hb0
  have HO := Lib.hid ho
  have HV := Lib.hid hv
  clear h hb0 hbx ho hv
  go_enter Try.func16, Try.ntmps16
  go_wp2_with (with_reducible refine wpList_append_bs rfl (.const (.slice none 0 0)) (.tmp 21) 41 rfl w0.heap.size 5 Try.underlying41 info5 (.slice none 0 0) [] rfl (Ob.nil_ _ _ _) A l _ c rfl rfl (by rw [Hw0.out]; exact HS0.out) (by simp; omega) (by rw [Hw0.out]; exact Nat.le_refl _) ?_)
  rw [Hw0.out]
  intro v1 w1 ho1 hgr1
  obtain ⟨A1, c1, rfl, hbs1, -⟩ := ho1.form
  have hb1 := below_of_grown hgr1
  have HBX : Hid (∀ W, Only (AdF p) w1 W → Boxes W w.heap.size q q2 x y (.int .i64 2) t n A l.length c) := Lib.hid fun W hW => HBX0.out W ((Only.of_below hb1).trans hW)
  obtain ⟨r0, r1, r2, s0, s1, s2, k0, k1, k2, k3⟩ := HBX.out w1 (Only.refl _ _)
  have HS1 := Lib.hid (HS0.out.below hb1)
  have HP1 := Lib.hid (HP0.out.below hb1)
  have HB1 := Lib.hid (HB0.out.trans (hb1.mono HB0.out.size))
  have HL1 := Lib.hid hbs1
  have HC1 : Hid (l.length ≤ c1) := Lib.hid (by
    rcases ho1.2 with ⟨h0, h1⟩ | ⟨g', cap, cur, e, _, _, hnc, _⟩
    · simp at h0; rw [h1]; omega
    · injection e with e1 e2 e3; rw [e3]; simpa using hnc)
  have HO1 : Hid (Off (AdF p) A1 l) := Lib.hid (fun _ k hk => adF_lt HP0.out (ho1.fresh k hk))
  have hnil : ([] : List UInt8) ++ l = l := List.nil_append l
  clear ho1 hgr1 hbs1 hb1 hnil
  have hS0 : Only (AdF p) w1 w1 := Only.refl _ _
  have R0 : ∀ W, Only (AdF p) w1 W → W.cell? ⟨w.heap.size, 0, none⟩ = some q := fun W hW => (HBX.out W hW).r0
  have R1 : ∀ W, Only (AdF p) w1 W → W.cell? ⟨w.heap.size, 1, none⟩ = some x := fun W hW => (HBX.out W hW).r1
  have R2 : ∀ W, Only (AdF p) w1 W → W.cell? ⟨w.heap.size, 2, none⟩ = some y := fun W hW => (HBX.out W hW).r2
  have S0 : ∀ W, Only (AdF p) w1 W → W.cell? ⟨w.heap.size + 1, 0, none⟩ = some q2 := fun W hW => (HBX.out W hW).s0
  have S1 : ∀ W, Only (AdF p) w1 W → W.cell? ⟨w.heap.size + 1, 1, none⟩ = some x := fun W hW => (HBX.out W hW).s1
  have S2 : ∀ W, Only (AdF p) w1 W → W.cell? ⟨w.heap.size + 1, 2, none⟩ = some y := fun W hW => (HBX.out W hW).s2
  have L1 : ∀ W, Only (AdF p) w1 W → W.cell? ⟨w.heap.size + 2, 1, none⟩ = some (.int .i64 t) := fun W hW => (HBX.out W hW).k1
  have L3 : ∀ W, Only (AdF p) w1 W → W.cell? ⟨w.heap.size + 2, 3, none⟩ = some (.slice A l.length c) := fun W hW => (HBX.out W hW).k3
  have LA : Hid (∀ W, Only (AdF p) w1 W → Bs W A l) := Lib.hid (fun W hW => HS1.out.offs HH.out.off hW)
  have LB : Hid (∀ W, Only (AdF p) w1 W → Bs W A1 l) := Lib.hid (fun W hW => HL1.out.offs HO1.out hW)
  have HPx : Hid (Pair N w1.drew p d f) := Lib.hid (HP1.out.below (Below.refl _ _).drew)
  have hok := HH.out.ok
  have hrok := HH.out.rok
  have hst := HH.out.st
  have hfs : f.steps ≤ 1099511627776 := by rw [← HH.out.sim.steps]; exact hst
  have hbl : d.b.length ≤ 67108864 := by have := hok.len; have := hok.few; omega
  have hfl : f.b.length ≤ 67108864 := by have := hrok.len; have := hrok.few; omega
  have hof : RgOk f.b.length o := by rw [← HH.out.sim.b]; exact HO.out
  obtain ⟨dc, d', Hd⟩ : ∃ dc d', Hid (odProg d o t l = (dc, d')) := ⟨_, _, rfl⟩
  obtain ⟨rc, f', Hf⟩ : ∃ rc f', Hid (orProg f o t l = (rc, f')) := ⟨_, _, rfl⟩
  have hsim : (odProg d o t l).1 = (orProg f o t l).1 ∧ Sim (odProg d o t l).2 (orProg f o t l).2 := sim_oprog HH.out.sim hok hrok t l (by omega)
  rw [Hd.out, Hf.out] at hsim
  obtain ⟨hcode, hsim2⟩ := hsim
  replace hcode : dc = rc := hcode
  subst hcode
  have HSIM : Hid (Sim d' f') := Lib.hid hsim2
  have HNUM : Hid (NumFact d d' 1100) := Lib.hid (by have e : (odProg d o t l).2 = d' := (by rw [Hd.out]); rw [← e]; exact (odProg_num hok t l (by omega)).more (by omega))
  have HROK : Hid (FlOk f') := Lib.hid (by have e : (orProg f o t l).2 = f' := (by rw [Hf.out]); rw [← e]; exact orProg_ok hrok t l (by omega))
  have HDC : Hid (∀ W f0, Only (AdF p) w1 W → Pair N W p d f0 → Calls Try.prog 21 #[.agg #[q, x, y], .int .i64 t, .slice A1 l.length c1] W (PairPost N W p (.int .i64 dc) d' f0)) := Lib.hid (fun W f0 hW hP => by
    have := pair_odprog hP hok o HO.out t A1 l c1 (LB.out W hW) HO1.out HC1.out t1 t2 (by omega) (by omega)
    have e1 : (odProg d o t l).1 = dc := by rw [Hd.out]
    have e2 : (odProg d o t l).2 = d' := by rw [Hd.out]
    rw [e1, e2, ← HV.out.q, ← HV.out.x, ← HV.out.y] at this
    exact this)
  have HRC : Hid (∀ W d0, Only (AdF p) w1 W → Pair N W p d0 f → Calls Try.prog 31 #[.agg #[q2, x, y], .int .i64 t, .slice A l.length c] W (PairPost N W p (.int .i64 dc) d0 f')) := Lib.hid (fun W d0 hW hP => by
    have := pair_orprog hP hrok o hof t A l c (LA.out W hW) HH.out.off HH.out.hc t1 t2 (by omega) (by omega)
    have e1 : (orProg f o t l).1 = dc := by rw [Hf.out]
    have e2 : (orProg f o t l).2 = f' := by rw [Hf.out]
    rw [e1, e2, ← HV.out.q2, ← HV.out.x, ← HV.out.y] at this
    exact this)
  clear hsim2 hok hrok hof r0 r1 r2 s0 s1 s2 k1 k2 k3
  go_wp2_with fail
  go_region_held3 (fun W => Only (AdF p) w1 W) (first | assumption | exact Only.drew (Only.refl _ _)) (first
    | (go_at_call 21; (with_reducible refine (HDC.out _ _ (by assumption) HPx.out).mono ?_); rintro e w4 ⟨rfl, hP4, ho4⟩; have HPx := Lib.hid hP4; have kS := Only.trans (by assumption) ho4; clear hP4 ho4)
    | (go_at_call 31; (with_reducible refine (HRC.out _ _ (by assumption) HPx.out).mono ?_); rintro e w4 ⟨rfl, hP4, ho4⟩; have HPx := Lib.hid hP4; have kS := Only.trans (by assumption) ho4; clear hP4 ho4)
    | (go_at_call 13; refine (num3_any _ _).mono ?_; rintro e w4 ⟨rfl, rfl⟩))
  all_goals
    go_wp2_with fail
    go_ret
    exact ⟨rfl, d', f', HPx.out, HSIM.out, HNUM.out, HROK.out, (Only.of_below ⟨HB1.out.os, HB1.out.tape, HB1.out.output, HB1.out.size, HB1.out.block⟩).trans (by assumption)⟩

set_option maxRecDepth 100000 in
set_option maxHeartbeats 3200000 in
theorem do3_erase {N : Nat} {w : World} {p : Ad} {d : Dl} {f : Fl} {o : Option (Nat × Nat)} {q q2 x y : Value} {t n : Int} {A : Option Addr} {l : List UInt8} {c : Nat} (h : DoIn N w p d f t n A l c) (ho : RgOk d.b.length o) (hv : RgV p o q q2 x y) :
    Calls Try.prog 16 #[.pointer (some ⟨p.g, 0, none⟩), .pointer (some ⟨p.h, 0, none⟩), .agg #[q, x, y], .agg #[q2, x, y], .agg #[.int .i64 3, .int .i64 t, .int .i64 n, .slice A l.length c]] w (DoPost N w p d) := by
  have t1 := h.t1
  have t2 := h.t2
  have n1 := h.n1
  have n2 := h.n2
  have hll := h.hl
  have hbx := boxes_of w q q2 x y (.int .i64 3) t n A l.length c 30 35 43 (AdF p) (fun j hj => adF_lt h.pair hj)
  obtain ⟨w0, Hw0⟩ : ∃ w0, Hid (((w.alloc (.cells #[q, x, y] 30)).alloc (.cells #[q2, x, y] 35)).alloc (.cells #[.int .i64 3, .int .i64 t, .int .i64 n, .slice A l.length c] 43) = w0) := ⟨_, rfl⟩
  have hb0 : Below w.heap.size w w0 := by rw [← Hw0.out]; exact (((Below.refl _ _).alloc (Nat.le_refl _) _).alloc (by simp) _).alloc (by simp; omega) _
  rw [Hw0.out] at hbx
  have HS0 := Lib.hid (h.bs.below hb0)
  have HP0 := Lib.hid (h.pair.below hb0)
  have HBX0 := Lib.hid hbx
  have HH := Lib.hid h
  have HB0 := Lib.hid hb0
  have HO := Lib.hid ho
  have HV := Lib.hid hv
  clear h hb0 hbx ho hv
  go_enter Try.func16, Try.ntmps16
  go_wp2_with (with_reducible refine wpList_append_bs rfl (.const (.slice none 0 0)) (.tmp 21) 41 rfl w0.heap.size 5 Try.underlying41 info5 (.slice none 0 0) [] rfl (Ob.nil_ _ _ _) A l _ c rfl rfl (by rw [Hw0.out]; exact HS0.out) (by simp; omega) (by rw [Hw0.out]; exact Nat.le_refl _) ?_)
  rw [Hw0.out]
  intro v1 w1 ho1 hgr1
  obtain ⟨A1, c1, rfl, hbs1, -⟩ := ho1.form
  have hb1 := below_of_grown hgr1
  have HBX : Hid (∀ W, Only (AdF p) w1 W → Boxes W w.heap.size q q2 x y (.int .i64 3) t n A l.length c) := Lib.hid fun W hW => HBX0.out W ((Only.of_below hb1).trans hW)
  obtain ⟨r0, r1, r2, s0, s1, s2, k0, k1, k2, k3⟩ := HBX.out w1 (Only.refl _ _)
  have HS1 := Lib.hid (HS0.out.below hb1)
  have HP1 := Lib.hid (HP0.out.below hb1)
  have HB1 := Lib.hid (HB0.out.trans (hb1.mono HB0.out.size))
  have HL1 := Lib.hid hbs1
  have HC1 : Hid (l.length ≤ c1) := Lib.hid (by
    rcases ho1.2 with ⟨h0, h1⟩ | ⟨g', cap, cur, e, _, _, hnc, _⟩
    · simp at h0; rw [h1]; omega
    · injection e with e1 e2 e3; rw [e3]; simpa using hnc)
  have HO1 : Hid (Off (AdF p) A1 l) := Lib.hid (fun _ k hk => adF_lt HP0.out (ho1.fresh k hk))
  have hnil : ([] : List UInt8) ++ l = l := List.nil_append l
  clear ho1 hgr1 hbs1 hb1 hnil
  have hS0 : Only (AdF p) w1 w1 := Only.refl _ _
  have R0 : ∀ W, Only (AdF p) w1 W → W.cell? ⟨w.heap.size, 0, none⟩ = some q := fun W hW => (HBX.out W hW).r0
  have R1 : ∀ W, Only (AdF p) w1 W → W.cell? ⟨w.heap.size, 1, none⟩ = some x := fun W hW => (HBX.out W hW).r1
  have R2 : ∀ W, Only (AdF p) w1 W → W.cell? ⟨w.heap.size, 2, none⟩ = some y := fun W hW => (HBX.out W hW).r2
  have S0 : ∀ W, Only (AdF p) w1 W → W.cell? ⟨w.heap.size + 1, 0, none⟩ = some q2 := fun W hW => (HBX.out W hW).s0
  have S1 : ∀ W, Only (AdF p) w1 W → W.cell? ⟨w.heap.size + 1, 1, none⟩ = some x := fun W hW => (HBX.out W hW).s1
  have S2 : ∀ W, Only (AdF p) w1 W → W.cell? ⟨w.heap.size + 1, 2, none⟩ = some y := fun W hW => (HBX.out W hW).s2
  have L1 : ∀ W, Only (AdF p) w1 W → W.cell? ⟨w.heap.size + 2, 1, none⟩ = some (.int .i64 t) := fun W hW => (HBX.out W hW).k1
  have L3 : ∀ W, Only (AdF p) w1 W → W.cell? ⟨w.heap.size + 2, 3, none⟩ = some (.slice A l.length c) := fun W hW => (HBX.out W hW).k3
  have LA : Hid (∀ W, Only (AdF p) w1 W → Bs W A l) := Lib.hid (fun W hW => HS1.out.offs HH.out.off hW)
  have LB : Hid (∀ W, Only (AdF p) w1 W → Bs W A1 l) := Lib.hid (fun W hW => HL1.out.offs HO1.out hW)
  have HPx : Hid (Pair N w1.drew p d f) := Lib.hid (HP1.out.below (Below.refl _ _).drew)
  have hok := HH.out.ok
  have hrok := HH.out.rok
  have hst := HH.out.st
  have hfs : f.steps ≤ 1099511627776 := by rw [← HH.out.sim.steps]; exact hst
  have hbl : d.b.length ≤ 67108864 := by have := hok.len; have := hok.few; omega
  have hfl : f.b.length ≤ 67108864 := by have := hrok.len; have := hrok.few; omega
  have hof : RgOk f.b.length o := by rw [← HH.out.sim.b]; exact HO.out
  obtain ⟨dc, d', Hd⟩ : ∃ dc d', Hid (odErase d o t = (dc, d')) := ⟨_, _, rfl⟩
  obtain ⟨rc, f', Hf⟩ : ∃ rc f', Hid (orErase f o t = (rc, f')) := ⟨_, _, rfl⟩
  have hsim : (odErase d o t).1 = (orErase f o t).1 ∧ Sim (odErase d o t).2 (orErase f o t).2 := sim_oerase HH.out.sim hok hrok t (by omega)
  rw [Hd.out, Hf.out] at hsim
  obtain ⟨hcode, hsim2⟩ := hsim
  replace hcode : dc = rc := hcode
  subst hcode
  have HSIM : Hid (Sim d' f') := Lib.hid hsim2
  have HNUM : Hid (NumFact d d' 1100) := Lib.hid (by have e : (odErase d o t).2 = d' := (by rw [Hd.out]); rw [← e]; exact (odErase_num hok t (by omega) (fun x hx => by have := HH.out.wn x hx; omega)).more (by omega))
  have HROK : Hid (FlOk f') := Lib.hid (by have e : (orErase f o t).2 = f' := (by rw [Hf.out]); rw [← e]; exact orErase_ok hrok t (by omega) (fun x hx => by rw [← HH.out.sim.worn] at hx; have := HH.out.wn x hx; omega))
  have HDC : Hid (∀ W f0, Only (AdF p) w1 W → Pair N W p d f0 → Calls Try.prog 22 #[.agg #[q, x, y], .int .i64 t] W (PairPost N W p (.int .i64 dc) d' f0)) := Lib.hid (fun W f0 hW hP => by
    have := pair_oderase hP hok o HO.out t t1 t2
    have e1 : (odErase d o t).1 = dc := by rw [Hd.out]
    have e2 : (odErase d o t).2 = d' := by rw [Hd.out]
    rw [e1, e2, ← HV.out.q, ← HV.out.x, ← HV.out.y] at this
    exact this)
  have HRC : Hid (∀ W d0, Only (AdF p) w1 W → Pair N W p d0 f → Calls Try.prog 32 #[.agg #[q2, x, y], .int .i64 t] W (PairPost N W p (.int .i64 dc) d0 f')) := Lib.hid (fun W d0 hW hP => by
    have := pair_orerase hP hrok o hof t t1 t2
    have e1 : (orErase f o t).1 = dc := by rw [Hf.out]
    have e2 : (orErase f o t).2 = f' := by rw [Hf.out]
    rw [e1, e2, ← HV.out.q2, ← HV.out.x, ← HV.out.y] at this
    exact this)
  clear hsim2 hok hrok hof r0 r1 r2 s0 s1 s2 k1 k2 k3
  go_wp2_with fail
  go_region_held3 (fun W => Only (AdF p) w1 W) (first | assumption | exact Only.drew (Only.refl _ _)) (first
    | (go_at_call 22; (with_reducible refine (HDC.out _ _ (by assumption) HPx.out).mono ?_); rintro e w4 ⟨rfl, hP4, ho4⟩; have HPx := Lib.hid hP4; have kS := Only.trans (by assumption) ho4; clear hP4 ho4)
    | (go_at_call 32; (with_reducible refine (HRC.out _ _ (by assumption) HPx.out).mono ?_); rintro e w4 ⟨rfl, hP4, ho4⟩; have HPx := Lib.hid hP4; have kS := Only.trans (by assumption) ho4; clear hP4 ho4)
    | (go_at_call 13; refine (num3_any _ _).mono ?_; rintro e w4 ⟨rfl, rfl⟩))
  all_goals
    go_wp2_with fail
    go_ret
    exact ⟨rfl, d', f', HPx.out, HSIM.out, HNUM.out, HROK.out, (Only.of_below ⟨HB1.out.os, HB1.out.tape, HB1.out.output, HB1.out.size, HB1.out.block⟩).trans (by assumption)⟩

set_option maxRecDepth 100000 in
set_option maxHeartbeats 3200000 in
theorem do3_blank {N : Nat} {w : World} {p : Ad} {d : Dl} {f : Fl} {o : Option (Nat × Nat)} {q q2 x y : Value} {t n : Int} {A : Option Addr} {l : List UInt8} {c : Nat} (h : DoIn N w p d f t n A l c) (ho : RgOk d.b.length o) (hv : RgV p o q q2 x y) :
    Calls Try.prog 16 #[.pointer (some ⟨p.g, 0, none⟩), .pointer (some ⟨p.h, 0, none⟩), .agg #[q, x, y], .agg #[q2, x, y], .agg #[.int .i64 4, .int .i64 t, .int .i64 n, .slice A l.length c]] w (DoPost N w p d) := by
  have t1 := h.t1
  have t2 := h.t2
  have n1 := h.n1
  have n2 := h.n2
  have hll := h.hl
  have hbx := boxes_of w q q2 x y (.int .i64 4) t n A l.length c 30 35 43 (AdF p) (fun j hj => adF_lt h.pair hj)
  obtain ⟨w0, Hw0⟩ : ∃ w0, Hid (((w.alloc (.cells #[q, x, y] 30)).alloc (.cells #[q2, x, y] 35)).alloc (.cells #[.int .i64 4, .int .i64 t, .int .i64 n, .slice A l.length c] 43) = w0) := ⟨_, rfl⟩
  have hb0 : Below w.heap.size w w0 := by rw [← Hw0.out]; exact (((Below.refl _ _).alloc (Nat.le_refl _) _).alloc (by simp) _).alloc (by simp; omega) _
  rw [Hw0.out] at hbx
  have HS0 := Lib.hid (h.bs.below hb0)
  have HP0 := Lib.hid (h.pair.below hb0)
  have HBX0 := Lib.hid hbx
  have HH := Lib.hid h
  have HB0 := Lib.hid hb0
  have HO := Lib.hid ho
  have HV := Lib.hid hv
  clear h hb0 hbx ho hv
  go_enter Try.func16, Try.ntmps16
  go_wp2_with (with_reducible refine wpList_append_bs rfl (.const (.slice none 0 0)) (.tmp 21) 41 rfl w0.heap.size 5 Try.underlying41 info5 (.slice none 0 0) [] rfl (Ob.nil_ _ _ _) A l _ c rfl rfl (by rw [Hw0.out]; exact HS0.out) (by simp; omega) (by rw [Hw0.out]; exact Nat.le_refl _) ?_)
  rw [Hw0.out]
  intro v1 w1 ho1 hgr1
  obtain ⟨A1, c1, rfl, hbs1, -⟩ := ho1.form
  have hb1 := below_of_grown hgr1
  have HBX : Hid (∀ W, Only (AdF p) w1 W → Boxes W w.heap.size q q2 x y (.int .i64 4) t n A l.length c) := Lib.hid fun W hW => HBX0.out W ((Only.of_below hb1).trans hW)
  obtain ⟨r0, r1, r2, s0, s1, s2, k0, k1, k2, k3⟩ := HBX.out w1 (Only.refl _ _)
  have HS1 := Lib.hid (HS0.out.below hb1)
  have HP1 := Lib.hid (HP0.out.below hb1)
  have HB1 := Lib.hid (HB0.out.trans (hb1.mono HB0.out.size))
  have HL1 := Lib.hid hbs1
  have HC1 : Hid (l.length ≤ c1) := Lib.hid (by
    rcases ho1.2 with ⟨h0, h1⟩ | ⟨g', cap, cur, e, _, _, hnc, _⟩
    · simp at h0; rw [h1]; omega
    · injection e with e1 e2 e3; rw [e3]; simpa using hnc)
  have HO1 : Hid (Off (AdF p) A1 l) := Lib.hid (fun _ k hk => adF_lt HP0.out (ho1.fresh k hk))
  have hnil : ([] : List UInt8) ++ l = l := List.nil_append l
  clear ho1 hgr1 hbs1 hb1 hnil
  clear s0 s1 s2 k2 k3
  have hbl : d.b.length ≤ 67108864 := by have := HH.out.ok.len; have := HH.out.ok.few; omega
  have hfl : f.b.length ≤ 67108864 := by have := HH.out.rok.len; have := HH.out.rok.few; omega
  have hof : RgOk f.b.length o := by rw [← HH.out.sim.b]; exact HO.out
  obtain ⟨rb, rc, Hr⟩ : ∃ rb rc, Hid (orBlank f o t = (rb, rc)) := ⟨_, _, rfl⟩
  have HDR : Hid (∀ W, Pair N W p d f → Calls Try.prog 25 #[.agg #[q, x, y], .int .i64 t] W (FlagPost W (rb, rc))) := Lib.hid fun W hW => by
    have := pair_odblank hW o HO.out (by omega) t t1 t2
    rw [sim_oblank HH.out.sim, Hr.out, ← HV.out.q, ← HV.out.x, ← HV.out.y] at this
    exact this
  have HRR : Hid (∀ W, Pair N W p d f → Calls Try.prog 33 #[.agg #[q2, x, y], .int .i64 t] W (FlagPost W (rb, rc))) := Lib.hid fun W hW => by
    have := pair_orblank hW o hof (by omega) t t1 t2
    rw [Hr.out, ← HV.out.q2, ← HV.out.x, ← HV.out.y] at this
    exact this
  clear hof
  go_wp2_with fail
  (with_reducible refine (HDR.out _ HP1.out).mono ?_)
  rintro e w2 ⟨rfl, hb2⟩
  have HP2 := Lib.hid (HP1.out.below hb2)
  have HB2 := Lib.hid (below_on HB1.out hb2)
  clear r0 r1 r2 k0 k1
  obtain ⟨r0, r1, r2, s0, s1, s2, k0, k1, k2, k3⟩ := HBX.out w2 (Only.of_below hb2)
  clear hb2
  go_wp2_with fail
  (with_reducible refine (HRR.out _ HP2.out).mono ?_)
  rintro e w3 ⟨rfl, hb3⟩
  have HP3 := Lib.hid (HP2.out.below hb3)
  have HB3 := Lib.hid (below_on HB2.out hb3)
  clear hb3 r0 r1 r2 s0 s1 s2 k0 k1 k2 k3
  go_wp2_with (go_at_call 13; refine (num3_any _ _).mono ?_; rintro e w4 ⟨rfl, rfl⟩)
  go_ret
  exact ⟨rfl, d, f, HP3.out, HH.out.sim, (NumFact.same HH.out.ok (by omega)), HH.out.rok, Only.of_below ⟨HB3.out.os, HB3.out.tape, HB3.out.output, HB3.out.size, HB3.out.block⟩⟩

set_option maxRecDepth 100000 in
set_option maxHeartbeats 3200000 in
theorem do3_arm {N : Nat} {w : World} {p : Ad} {d : Dl} {f : Fl} {o : Option (Nat × Nat)} {q q2 x y : Value} {t n : Int} {A : Option Addr} {l : List UInt8} {c : Nat} (h : DoIn N w p d f t n A l c) (ho : RgOk d.b.length o) (hv : RgV p o q q2 x y) :
    Calls Try.prog 16 #[.pointer (some ⟨p.g, 0, none⟩), .pointer (some ⟨p.h, 0, none⟩), .agg #[q, x, y], .agg #[q2, x, y], .agg #[.int .i64 5, .int .i64 t, .int .i64 n, .slice A l.length c]] w (DoPost N w p d) := by
  have t1 := h.t1
  have t2 := h.t2
  have n1 := h.n1
  have n2 := h.n2
  have hll := h.hl
  have hbx := boxes_of w q q2 x y (.int .i64 5) t n A l.length c 30 35 43 (AdF p) (fun j hj => adF_lt h.pair hj)
  obtain ⟨w0, Hw0⟩ : ∃ w0, Hid (((w.alloc (.cells #[q, x, y] 30)).alloc (.cells #[q2, x, y] 35)).alloc (.cells #[.int .i64 5, .int .i64 t, .int .i64 n, .slice A l.length c] 43) = w0) := ⟨_, rfl⟩
  have hb0 : Below w.heap.size w w0 := by rw [← Hw0.out]; exact (((Below.refl _ _).alloc (Nat.le_refl _) _).alloc (by simp) _).alloc (by simp; omega) _
  rw [Hw0.out] at hbx
  have HS0 := Lib.hid (h.bs.below hb0)
  have HP0 := Lib.hid (h.pair.below hb0)
  have HBX0 := Lib.hid hbx
  have HH := Lib.hid h
  have HB0 := Lib.hid hb0
  have HO := Lib.hid ho
  have HV := Lib.hid hv
  clear h hb0 hbx ho hv
  go_enter Try.func16, Try.ntmps16
  go_wp2_with (with_reducible refine wpList_append_bs rfl (.const (.slice none 0 0)) (.tmp 21) 41 rfl w0.heap.size 5 Try.underlying41 info5 (.slice none 0 0) [] rfl (Ob.nil_ _ _ _) A l _ c rfl rfl (by rw [Hw0.out]; exact HS0.out) (by simp; omega) (by rw [Hw0.out]; exact Nat.le_refl _) ?_)
  rw [Hw0.out]
  intro v1 w1 ho1 hgr1
  obtain ⟨A1, c1, rfl, hbs1, -⟩ := ho1.form
  have hb1 := below_of_grown hgr1
  have HBX : Hid (∀ W, Only (AdF p) w1 W → Boxes W w.heap.size q q2 x y (.int .i64 5) t n A l.length c) := Lib.hid fun W hW => HBX0.out W ((Only.of_below hb1).trans hW)
  obtain ⟨r0, r1, r2, s0, s1, s2, k0, k1, k2, k3⟩ := HBX.out w1 (Only.refl _ _)
  have HS1 := Lib.hid (HS0.out.below hb1)
  have HP1 := Lib.hid (HP0.out.below hb1)
  have HB1 := Lib.hid (HB0.out.trans (hb1.mono HB0.out.size))
  have HL1 := Lib.hid hbs1
  have HC1 : Hid (l.length ≤ c1) := Lib.hid (by
    rcases ho1.2 with ⟨h0, h1⟩ | ⟨g', cap, cur, e, _, _, hnc, _⟩
    · simp at h0; rw [h1]; omega
    · injection e with e1 e2 e3; rw [e3]; simpa using hnc)
  have HO1 : Hid (Off (AdF p) A1 l) := Lib.hid (fun _ k hk => adF_lt HP0.out (ho1.fresh k hk))
  have hnil : ([] : List UInt8) ++ l = l := List.nil_append l
  clear ho1 hgr1 hbs1 hb1 hnil
  clear r0 r1 r2 s0 s1 s2
  go_wp2_with fail
  refine (pair_darm HP1.out n A1 l c1 HL1.out HC1.out (by omega)).mono ?_
  rintro e w2 ⟨rfl, hP2, ho2⟩
  have HP2 := Lib.hid hP2
  have HO2 := Lib.hid ho2
  clear k1 k2 k3 k0
  obtain ⟨r0, r1, r2, s0, s1, s2, k0, k1, k2, k3⟩ := HBX.out w2 ho2
  clear hP2 ho2 r0 r1 r2 s0 s1 s2 k0 k1
  go_wp2_with fail
  refine (pair_rarm HP2.out n A l c (HS1.out.offs HH.out.off HO2.out) (by omega)).mono ?_
  rintro e w3 ⟨rfl, hP3, ho3⟩
  have HP3 := Lib.hid hP3
  have HO3 := Lib.hid ho3
  clear hP3 ho3 k2 k3
  go_wp2_with fail
  go_ret
  exact ⟨rfl, _, _, HP3.out, sim_arm HH.out.sim HH.out.rok.s0 n l, (darmOf_num d HH.out.ok n n2 l).more (by omega), rarmOf_ok f HH.out.rok n l (by omega), ((Only.of_below ⟨HB1.out.os, HB1.out.tape, HB1.out.output, HB1.out.size, HB1.out.block⟩).trans HO2.out).trans HO3.out⟩

set_option maxRecDepth 100000 in
set_option maxHeartbeats 3200000 in
theorem do3_boot {N : Nat} {w : World} {p : Ad} {d : Dl} {f : Fl} {o : Option (Nat × Nat)} {q q2 x y : Value} {t n : Int} {A : Option Addr} {l : List UInt8} {c : Nat} (h : DoIn N w p d f t n A l c) (ho : RgOk d.b.length o) (hv : RgV p o q q2 x y) :
    Calls Try.prog 16 #[.pointer (some ⟨p.g, 0, none⟩), .pointer (some ⟨p.h, 0, none⟩), .agg #[q, x, y], .agg #[q2, x, y], .agg #[.int .i64 6, .int .i64 t, .int .i64 n, .slice A l.length c]] w (DoPost N w p d) := by
  have t1 := h.t1
  have t2 := h.t2
  have n1 := h.n1
  have n2 := h.n2
  have hll := h.hl
  have hbx := boxes_of w q q2 x y (.int .i64 6) t n A l.length c 30 35 43 (AdF p) (fun j hj => adF_lt h.pair hj)
  obtain ⟨w0, Hw0⟩ : ∃ w0, Hid (((w.alloc (.cells #[q, x, y] 30)).alloc (.cells #[q2, x, y] 35)).alloc (.cells #[.int .i64 6, .int .i64 t, .int .i64 n, .slice A l.length c] 43) = w0) := ⟨_, rfl⟩
  have hb0 : Below w.heap.size w w0 := by rw [← Hw0.out]; exact (((Below.refl _ _).alloc (Nat.le_refl _) _).alloc (by simp) _).alloc (by simp; omega) _
  rw [Hw0.out] at hbx
  have HS0 := Lib.hid (h.bs.below hb0)
  have HP0 := Lib.hid (h.pair.below hb0)
  have HBX0 := Lib.hid hbx
  have HH := Lib.hid h
  have HB0 := Lib.hid hb0
  have HO := Lib.hid ho
  have HV := Lib.hid hv
  clear h hb0 hbx ho hv
  go_enter Try.func16, Try.ntmps16
  go_wp2_with (with_reducible refine wpList_append_bs rfl (.const (.slice none 0 0)) (.tmp 21) 41 rfl w0.heap.size 5 Try.underlying41 info5 (.slice none 0 0) [] rfl (Ob.nil_ _ _ _) A l _ c rfl rfl (by rw [Hw0.out]; exact HS0.out) (by simp; omega) (by rw [Hw0.out]; exact Nat.le_refl _) ?_)
  rw [Hw0.out]
  intro v1 w1 ho1 hgr1
  obtain ⟨A1, c1, rfl, hbs1, -⟩ := ho1.form
  have hb1 := below_of_grown hgr1
  have HBX : Hid (∀ W, Only (AdF p) w1 W → Boxes W w.heap.size q q2 x y (.int .i64 6) t n A l.length c) := Lib.hid fun W hW => HBX0.out W ((Only.of_below hb1).trans hW)
  obtain ⟨r0, r1, r2, s0, s1, s2, k0, k1, k2, k3⟩ := HBX.out w1 (Only.refl _ _)
  have HS1 := Lib.hid (HS0.out.below hb1)
  have HP1 := Lib.hid (HP0.out.below hb1)
  have HB1 := Lib.hid (HB0.out.trans (hb1.mono HB0.out.size))
  have HL1 := Lib.hid hbs1
  have HC1 : Hid (l.length ≤ c1) := Lib.hid (by
    rcases ho1.2 with ⟨h0, h1⟩ | ⟨g', cap, cur, e, _, _, hnc, _⟩
    · simp at h0; rw [h1]; omega
    · injection e with e1 e2 e3; rw [e3]; simpa using hnc)
  have HO1 : Hid (Off (AdF p) A1 l) := Lib.hid (fun _ k hk => adF_lt HP0.out (ho1.fresh k hk))
  have hnil : ([] : List UInt8) ++ l = l := List.nil_append l
  clear ho1 hgr1 hbs1 hb1 hnil
  clear r0 r1 r2 s0 s1 s2 k1 k2 k3
  go_wp2_with fail
  refine (pair_dboot HP1.out).mono ?_
  rintro e w2 ⟨rfl, hP2, ho2⟩
  have HP2 := Lib.hid hP2
  have HO2 := Lib.hid ho2
  clear hP2 ho2 k0
  go_wp2_with fail
  refine (pair_rboot HP2.out).mono ?_
  rintro e w3 ⟨rfl, hP3, ho3⟩
  have HP3 := Lib.hid hP3
  have HO3 := Lib.hid ho3
  clear hP3 ho3
  go_wp2_with fail
  go_ret
  have hok := HH.out.ok
  have hrok := HH.out.rok
  exact ⟨rfl, _, _, HP3.out, sim_boot HH.out.sim, ⟨⟨hok.len, hok.few, hok.worn, hok.s0, hok.s1, by show (0 : Int) ≤ 0; omega, by show (0 : Int) ≤ _; omega, by show ([] : List UInt8).length ≤ _; simp⟩, by show d.steps ≤ _; omega, rfl, fun M hM x hx => by have := hM x hx; omega⟩,
    ⟨hrok.len, hrok.few, hrok.worn, hrok.s0, hrok.s1, by show (-1 : Int) ≤ -1; omega, by show (-1 : Int) ≤ _; omega, by show ([] : List UInt8).length ≤ _; simp⟩, ((Only.of_below ⟨HB1.out.os, HB1.out.tape, HB1.out.output, HB1.out.size, HB1.out.block⟩).trans HO2.out).trans HO3.out⟩

set_option maxRecDepth 100000 in
set_option maxHeartbeats 3200000 in
theorem do3_none {N : Nat} {w : World} {p : Ad} {d : Dl} {f : Fl} {o : Option (Nat × Nat)} {q q2 x y : Value} {kd t n : Int} {A : Option Addr} {l : List UInt8} {c : Nat} (h : DoIn N w p d f t n A l c) (ho : RgOk d.b.length o) (hv : RgV p o q q2 x y) (q1 : (kd == 1) = false) (qq : (kd == 2) = false) (q3 : (kd == 3) = false) (q4 : (kd == 4) = false) (q5 : (kd == 5) = false) (q6 : (kd == 6) = false) :
    Calls Try.prog 16 #[.pointer (some ⟨p.g, 0, none⟩), .pointer (some ⟨p.h, 0, none⟩), .agg #[q, x, y], .agg #[q2, x, y], .agg #[.int .i64 kd, .int .i64 t, .int .i64 n, .slice A l.length c]] w (DoPost N w p d) := by
  have t1 := h.t1
  have t2 := h.t2
  have n1 := h.n1
  have n2 := h.n2
  have hll := h.hl
  have hbx := boxes_of w q q2 x y (.int .i64 kd) t n A l.length c 30 35 43 (AdF p) (fun j hj => adF_lt h.pair hj)
  obtain ⟨w0, Hw0⟩ : ∃ w0, Hid (((w.alloc (.cells #[q, x, y] 30)).alloc (.cells #[q2, x, y] 35)).alloc (.cells #[.int .i64 kd, .int .i64 t, .int .i64 n, .slice A l.length c] 43) = w0) := ⟨_, rfl⟩
  have hb0 : Below w.heap.size w w0 := by rw [← Hw0.out]; exact (((Below.refl _ _).alloc (Nat.le_refl _) _).alloc (by simp) _).alloc (by simp; omega) _
  rw [Hw0.out] at hbx
  have HS0 := Lib.hid (h.bs.below hb0)
  have HP0 := Lib.hid (h.pair.below hb0)
  have HBX0 := Lib.hid hbx
  have HH := Lib.hid h
  have HB0 := Lib.hid hb0
  have HO := Lib.hid ho
  have HV := Lib.hid hv
  clear h hb0 hbx ho hv
  go_enter Try.func16, Try.ntmps16
  go_wp2_with (with_reducible refine wpList_append_bs rfl (.const (.slice none 0 0)) (.tmp 21) 41 rfl w0.heap.size 5 Try.underlying41 info5 (.slice none 0 0) [] rfl (Ob.nil_ _ _ _) A l _ c rfl rfl (by rw [Hw0.out]; exact HS0.out) (by simp; omega) (by rw [Hw0.out]; exact Nat.le_refl _) ?_)
  rw [Hw0.out]
  intro v1 w1 ho1 hgr1
  obtain ⟨A1, c1, rfl, hbs1, -⟩ := ho1.form
  have hb1 := below_of_grown hgr1
  have HBX : Hid (∀ W, Only (AdF p) w1 W → Boxes W w.heap.size q q2 x y (.int .i64 kd) t n A l.length c) := Lib.hid fun W hW => HBX0.out W ((Only.of_below hb1).trans hW)
  obtain ⟨r0, r1, r2, s0, s1, s2, k0, k1, k2, k3⟩ := HBX.out w1 (Only.refl _ _)
  have HS1 := Lib.hid (HS0.out.below hb1)
  have HP1 := Lib.hid (HP0.out.below hb1)
  have HB1 := Lib.hid (HB0.out.trans (hb1.mono HB0.out.size))
  have HL1 := Lib.hid hbs1
  have HC1 : Hid (l.length ≤ c1) := Lib.hid (by
    rcases ho1.2 with ⟨h0, h1⟩ | ⟨g', cap, cur, e, _, _, hnc, _⟩
    · simp at h0; rw [h1]; omega
    · injection e with e1 e2 e3; rw [e3]; simpa using hnc)
  have HO1 : Hid (Off (AdF p) A1 l) := Lib.hid (fun _ k hk => adF_lt HP0.out (ho1.fresh k hk))
  have hnil : ([] : List UInt8) ++ l = l := List.nil_append l
  clear ho1 hgr1 hbs1 hb1 hnil
  clear r0 r1 r2 s0 s1 s2 k1 k2 k3
  go_wp2_with fail
  go_ret
  exact ⟨rfl, d, f, HP1.out, HH.out.sim, (NumFact.same HH.out.ok (by omega)), HH.out.rok, (Only.of_below ⟨HB1.out.os, HB1.out.tape, HB1.out.output, HB1.out.size, HB1.out.block⟩)⟩

theorem do3_any {N : Nat} {w : World} {p : Ad} {d : Dl} {f : Fl} {o : Option (Nat × Nat)} {q q2 x y : Value} (kd : Int) {t n : Int} {A : Option Addr} {l : List UInt8} {c : Nat} (h : DoIn N w p d f t n A l c) (ho : RgOk d.b.length o) (hv : RgV p o q q2 x y) :
    Calls Try.prog 16 #[.pointer (some ⟨p.g, 0, none⟩), .pointer (some ⟨p.h, 0, none⟩), .agg #[q, x, y], .agg #[q2, x, y], .agg #[.int .i64 kd, .int .i64 t, .int .i64 n, .slice A l.length c]] w (DoPost N w p d) := by
  by_cases e1 : kd = 1
  · subst e1; exact do3_read h ho hv
  by_cases e2 : kd = 2
  · subst e2; exact do3_program h ho hv
  by_cases e3 : kd = 3
  · subst e3; exact do3_erase h ho hv
  by_cases e4 : kd = 4
  · subst e4; exact do3_blank h ho hv
  by_cases e5 : kd = 5
  · subst e5; exact do3_arm h ho hv
  by_cases e6 : kd = 6
  · subst e6; exact do3_boot h ho hv
  exact do3_none h ho hv (by simpa using e1) (by simpa using e2) (by simpa using e3) (by simpa using e4) (by simpa using e5) (by simpa using e6)

end Go.Proofs.Ytmhcogpjgllgjaa

