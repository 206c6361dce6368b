/- The contract of bootjacklaw2.do: a call on both flashes answers alike and leaves them alike. Written by wip/tools/mk_do2.py. -/
import Derived.Test.YtlnpfndjdilfhaaPair
import Derived.Deep.RegionHeld3
namespace Go.Proofs.Ytlnpfndjdilfhaa
open Go.RowKit
set_option linter.unusedVariables false

/-- what is known as a call begins -/
structure DoIn (N : Nat) (w : World) (p : Ad) (d : Dl) (f : Fl) (t n : Int) (A : Option Addr) (l : List UInt8) (c : Nat) : Prop where
  pair : Pair N w p d f
  sim : Sim d f
  ok : DlOk d
  rok : FlOk f
  bs : Bs w A l
  off : Off (AdF p) A l
  hc : l.length ≤ c
  hl : l.length ≤ 1100
  st : d.steps ≤ 1099511627776
  wn : ∀ x ∈ d.worn, x ≤ 1099511627776
  pos : 0 < d.worn.length
  t1 : -9223372036854775808 ≤ t
  t2 : t ≤ 9223372036854775807
  n1 : -9223372036854775808 ≤ n
  n2 : n ≤ 9223372036854775807

def DoPost (N : Nat) (w : World) (p : Ad) (d : Dl) (e : Ending) (w' : World) : Prop :=
  e = .returned (.bool true) ∧ ∃ d' f', Pair N w' p d' f' ∧ Sim d' f' ∧ NumFact d d' 1100 ∧ FlOk f' ∧ Only (AdF p) w w'

theorem NumFact.more {d d' : Dl} {s r : Int} (h : NumFact d d' s) (hr : s ≤ r) : NumFact d d' r := ⟨h.ok, by have := h.steps; omega, h.len, h.worn⟩
theorem bs_alloc {w : World} {A : Option Addr} {l : List UInt8} (h : Bs w A l) (o : Obj) : Bs (w.alloc o) A l := h.below ((Below.refl _ _).alloc (Nat.le_refl _) o)
theorem adF_lt {N : Nat} {w : World} {p : Ad} {d : Dl} {f : Fl} (h : Pair N w p d f) {j : Nat} (hj : w.heap.size ≤ j) : ¬ AdF p j := fun hf => by
  have := h.lo j hf
  have := h.size
  omega

set_option maxRecDepth 100000 in
set_option maxHeartbeats 3200000 in
theorem do_program {N : Nat} {w : World} {p : Ad} {d : Dl} {f : Fl} {t n : Int} {A : Option Addr} {l : List UInt8} {c : Nat} (h : DoIn N w p d f t n A l c) :
    Calls Try.prog 11 #[.pointer (some ⟨p.g, 0, none⟩), .pointer (some ⟨p.h, 0, none⟩), .agg #[.int .i64 2, .int .i64 t, .int .i64 n, .slice A l.length c]] w (DoPost N w p d) := by
  have t1 := h.t1
  have t2 := h.t2
  have n1 := h.n1
  have n2 := h.n2
  have hll := h.hl
  obtain ⟨w0, Hw0⟩ : ∃ w0, Hid (w.alloc (.cells #[.int .i64 2, .int .i64 t, .int .i64 n, .slice A l.length c] 32) = w0) := ⟨_, rfl⟩
  have hb0 : Below w.heap.size w w0 := by rw [← Hw0.out]; exact (Below.refl _ _).alloc (Nat.le_refl _) _
  have hz0 : w0.heap.size = w.heap.size + 1 := by rw [← Hw0.out]; simp
  have hg0 : w0.heap[w.heap.size]? = some (.cells #[.int .i64 2, .int .i64 t, .int .i64 n, .slice A l.length c] 32 (0, 0)) := by rw [← Hw0.out]; exact heap_alloc_new _ _
  have HS0 := Lib.hid (h.bs.below hb0)
  have HP0 := Lib.hid (h.pair.below hb0)
  have Hz0 := Lib.hid hz0
  have HG0 := Lib.hid hg0
  have HH := Lib.hid h
  have HB0 := Lib.hid hb0
  have hzz : w.heap.size < w0.heap.size := by omega
  clear h hz0 hg0 hb0
  go_enter Try.func11, Try.ntmps11
  go_wp2_with (with_reducible refine wpList_append_bs rfl (.const (.slice none 0 0)) (.tmp 16) 30 rfl w0.heap.size 5 Try.underlying30 info5 (.slice none 0 0) [] rfl (Ob.nil_ _ _ _) A l _ c rfl rfl (by rw [Hw0.out]; exact HS0.out) (by simp; omega) (by rw [Hw0.out]; exact Nat.le_refl _) ?_)
  rw [Hw0.out]
  intro v1 w1 ho1 hgr1
  obtain ⟨A1, c1, rfl, hbs1, -⟩ := ho1.form
  have hb1 := below_of_grown hgr1
  have hg1 := (hb1.block _ hzz).trans HG0.out
  have k0 : w1.cell? ⟨w.heap.size, 0, none⟩ = some (.int .i64 2) := by rw [cell_of_row _ _ _ _ _ _ hg1]; rfl
  have k1 : w1.cell? ⟨w.heap.size, 1, none⟩ = some (.int .i64 t) := by rw [cell_of_row _ _ _ _ _ _ hg1]; rfl
  have k2 : w1.cell? ⟨w.heap.size, 2, none⟩ = some (.int .i64 n) := by rw [cell_of_row _ _ _ _ _ _ hg1]; rfl
  have k3 : w1.cell? ⟨w.heap.size, 3, none⟩ = some (.slice A l.length c) := by rw [cell_of_row _ _ _ _ _ _ hg1]; rfl
  have HS1 := Lib.hid (HS0.out.below hb1)
  have HP1 := Lib.hid (HP0.out.below hb1)
  have HB1 := Lib.hid (HB0.out.trans (hb1.mono HB0.out.size))
  have HL1 := Lib.hid hbs1
  have HC1 : Hid (l.length ≤ c1) := Lib.hid (by
    rcases ho1.2 with ⟨h0, h1⟩ | ⟨g', cap, cur, e, _, _, hnc, _⟩
    · simp at h0; rw [h1]; omega
    · injection e with e1 e2 e3; rw [e3]; simpa using hnc)
  have HO1 : Hid (Off (AdF p) A1 l) := Lib.hid (fun _ k hk => adF_lt HP0.out (ho1.fresh k hk))
  have hnil : ([] : List UInt8) ++ l = l := List.nil_append l
  clear ho1 hgr1 hbs1 hg1 hnil
  have hS0 : Only (AdF p) w1 w1 := Only.refl _ _
  have hgz : ¬ AdF p w.heap.size := adF_lt HH.out.pair (Nat.le_refl _)
  have L1 : ∀ W, Only (AdF p) w1 W → W.cell? ⟨w.heap.size, 1, none⟩ = some (.int .i64 t) := fun W hW => by
    rw [World.cell?_of_block (hW.block _ (World.block_lt_of_cell? w1 _ k1) hgz)]; exact k1
  have L3 : ∀ W, Only (AdF p) w1 W → W.cell? ⟨w.heap.size, 3, none⟩ = some (.slice A l.length c) := fun W hW => by
    rw [World.cell?_of_block (hW.block _ (World.block_lt_of_cell? w1 _ k3) hgz)]; exact k3
  have LA : Hid (∀ W, Only (AdF p) w1 W → Bs W A l) := Lib.hid (fun W hW => HS1.out.offs HH.out.off hW)
  have LB : Hid (∀ W, Only (AdF p) w1 W → Bs W A1 l) := Lib.hid (fun W hW => HL1.out.offs HO1.out hW)
  have HPx : Hid (Pair N w1.drew p d f) := Lib.hid (HP1.out.below (Below.refl _ _).drew)
  have hok := HH.out.ok
  have hrok := HH.out.rok
  have hst := HH.out.st
  have hfs : f.steps ≤ 1099511627776 := by rw [← HH.out.sim.steps]; exact hst
  have hbl : d.b.length ≤ 67108864 := by have := hok.len; have := hok.few; omega
  have hfl : f.b.length ≤ 67108864 := by have := hrok.len; have := hrok.few; omega
  obtain ⟨dc, d', Hd⟩ : ∃ dc d', Hid (dprogOf d t l = (dc, d')) := ⟨_, _, rfl⟩
  obtain ⟨rc, f', Hf⟩ : ∃ rc f', Hid (rprogOf f t l = (rc, f')) := ⟨_, _, rfl⟩
  have hsim := sim_prog HH.out.sim hok hrok t l (by omega)
  rw [Hd.out, Hf.out] at hsim
  obtain ⟨hcode, hsim2⟩ := hsim
  replace hcode : dc = rc := hcode
  subst hcode
  have HSIM : Hid (Sim d' f') := Lib.hid hsim2
  have HNUM : Hid (NumFact d d' 1100) := Lib.hid (by have e : (dprogOf d t l).2 = d' := (by rw [Hd.out]); rw [← e]; exact (dprogOf_num d hok t l (by omega)).more (by omega))
  have HROK : Hid (FlOk f') := Lib.hid (by have e : (rprogOf f t l).2 = f' := (by rw [Hf.out]); rw [← e]; exact rprogOf_ok f hrok t l (by omega))
  have HDC : Hid (∀ W f0, Only (AdF p) w1 W → Pair N W p d f0 → Calls Try.prog 24 #[.pointer (some ⟨p.g, 0, none⟩), .int .i64 t, .slice A1 l.length c1] W (PairPost N W p (.int .i64 dc) d' f0)) := Lib.hid (fun W f0 hW hP => by
    have := pair_dprog hP hok t A1 l c1 (LB.out W hW) HO1.out HC1.out t1 t2 (by omega) (by omega)
    have e1 : (dprogOf d t l).1 = dc := by rw [Hd.out]
    have e2 : (dprogOf d t l).2 = d' := by rw [Hd.out]
    rw [e1, e2] at this
    exact this)
  have HRC : Hid (∀ W d0, Only (AdF p) w1 W → Pair N W p d0 f → Calls Try.prog 31 #[.pointer (some ⟨p.h, 0, none⟩), .int .i64 t, .slice A l.length c] W (PairPost N W p (.int .i64 dc) d0 f')) := Lib.hid (fun W d0 hW hP => by
    have := pair_rprog hP hrok t A l c (LA.out W hW) HH.out.off HH.out.hc t1 t2 (by omega) (by omega)
    have e1 : (rprogOf f t l).1 = dc := by rw [Hf.out]
    have e2 : (rprogOf f t l).2 = f' := by rw [Hf.out]
    rw [e1, e2] at this
    exact this)
  clear hsim2 hok hrok hgz
  go_wp2_with fail
  go_region_held3 (fun W => Only (AdF p) w1 W) (first | assumption | exact Only.drew (Only.refl _ _)) (first
    | (go_at_call 24; refine (HDC.out _ _ (by assumption) HPx.out).mono ?_; rintro e w4 ⟨rfl, hP4, ho4⟩; have HPx := Lib.hid hP4; have kS := Only.trans (by assumption) ho4; clear hP4 ho4)
    | (go_at_call 31; refine (HRC.out _ _ (by assumption) HPx.out).mono ?_; rintro e w4 ⟨rfl, hP4, ho4⟩; have HPx := Lib.hid hP4; have kS := Only.trans (by assumption) ho4; clear hP4 ho4)
    | (go_at_call 21; refine (num2_any _ _).mono ?_; rintro e w4 ⟨rfl, rfl⟩))
  all_goals
    go_wp2_with fail
    go_ret
    exact ⟨rfl, d', f', HPx.out, HSIM.out, HNUM.out, HROK.out, (Only.of_below ⟨HB1.out.os, HB1.out.tape, HB1.out.output, HB1.out.size, HB1.out.block⟩).trans (by assumption)⟩

set_option maxRecDepth 100000 in
set_option maxHeartbeats 3200000 in
theorem do_erase {N : Nat} {w : World} {p : Ad} {d : Dl} {f : Fl} {t n : Int} {A : Option Addr} {l : List UInt8} {c : Nat} (h : DoIn N w p d f t n A l c) :
    Calls Try.prog 11 #[.pointer (some ⟨p.g, 0, none⟩), .pointer (some ⟨p.h, 0, none⟩), .agg #[.int .i64 3, .int .i64 t, .int .i64 n, .slice A l.length c]] w (DoPost N w p d) := by
  have t1 := h.t1
  have t2 := h.t2
  have n1 := h.n1
  have n2 := h.n2
  have hll := h.hl
  obtain ⟨w0, Hw0⟩ : ∃ w0, Hid (w.alloc (.cells #[.int .i64 3, .int .i64 t, .int .i64 n, .slice A l.length c] 32) = w0) := ⟨_, rfl⟩
  have hb0 : Below w.heap.size w w0 := by rw [← Hw0.out]; exact (Below.refl _ _).alloc (Nat.le_refl _) _
  have hz0 : w0.heap.size = w.heap.size + 1 := by rw [← Hw0.out]; simp
  have hg0 : w0.heap[w.heap.size]? = some (.cells #[.int .i64 3, .int .i64 t, .int .i64 n, .slice A l.length c] 32 (0, 0)) := by rw [← Hw0.out]; exact heap_alloc_new _ _
  have HS0 := Lib.hid (h.bs.below hb0)
  have HP0 := Lib.hid (h.pair.below hb0)
  have Hz0 := Lib.hid hz0
  have HG0 := Lib.hid hg0
  have HH := Lib.hid h
  have HB0 := Lib.hid hb0
  have hzz : w.heap.size < w0.heap.size := by omega
  clear h hz0 hg0 hb0
  go_enter Try.func11, Try.ntmps11
  go_wp2_with (with_reducible refine wpList_append_bs rfl (.const (.slice none 0 0)) (.tmp 16) 30 rfl w0.heap.size 5 Try.underlying30 info5 (.slice none 0 0) [] rfl (Ob.nil_ _ _ _) A l _ c rfl rfl (by rw [Hw0.out]; exact HS0.out) (by simp; omega) (by rw [Hw0.out]; exact Nat.le_refl _) ?_)
  rw [Hw0.out]
  intro v1 w1 ho1 hgr1
  obtain ⟨A1, c1, rfl, hbs1, -⟩ := ho1.form
  have hb1 := below_of_grown hgr1
  have hg1 := (hb1.block _ hzz).trans HG0.out
  have k0 : w1.cell? ⟨w.heap.size, 0, none⟩ = some (.int .i64 3) := by rw [cell_of_row _ _ _ _ _ _ hg1]; rfl
  have k1 : w1.cell? ⟨w.heap.size, 1, none⟩ = some (.int .i64 t) := by rw [cell_of_row _ _ _ _ _ _ hg1]; rfl
  have k2 : w1.cell? ⟨w.heap.size, 2, none⟩ = some (.int .i64 n) := by rw [cell_of_row _ _ _ _ _ _ hg1]; rfl
  have k3 : w1.cell? ⟨w.heap.size, 3, none⟩ = some (.slice A l.length c) := by rw [cell_of_row _ _ _ _ _ _ hg1]; rfl
  have HS1 := Lib.hid (HS0.out.below hb1)
  have HP1 := Lib.hid (HP0.out.below hb1)
  have HB1 := Lib.hid (HB0.out.trans (hb1.mono HB0.out.size))
  have HL1 := Lib.hid hbs1
  have HC1 : Hid (l.length ≤ c1) := Lib.hid (by
    rcases ho1.2 with ⟨h0, h1⟩ | ⟨g', cap, cur, e, _, _, hnc, _⟩
    · simp at h0; rw [h1]; omega
    · injection e with e1 e2 e3; rw [e3]; simpa using hnc)
  have HO1 : Hid (Off (AdF p) A1 l) := Lib.hid (fun _ k hk => adF_lt HP0.out (ho1.fresh k hk))
  have hnil : ([] : List UInt8) ++ l = l := List.nil_append l
  clear ho1 hgr1 hbs1 hg1 hnil
  have hS0 : Only (AdF p) w1 w1 := Only.refl _ _
  have hgz : ¬ AdF p w.heap.size := adF_lt HH.out.pair (Nat.le_refl _)
  have L1 : ∀ W, Only (AdF p) w1 W → W.cell? ⟨w.heap.size, 1, none⟩ = some (.int .i64 t) := fun W hW => by
    rw [World.cell?_of_block (hW.block _ (World.block_lt_of_cell? w1 _ k1) hgz)]; exact k1
  have L3 : ∀ W, Only (AdF p) w1 W → W.cell? ⟨w.heap.size, 3, none⟩ = some (.slice A l.length c) := fun W hW => by
    rw [World.cell?_of_block (hW.block _ (World.block_lt_of_cell? w1 _ k3) hgz)]; exact k3
  have LA : Hid (∀ W, Only (AdF p) w1 W → Bs W A l) := Lib.hid (fun W hW => HS1.out.offs HH.out.off hW)
  have LB : Hid (∀ W, Only (AdF p) w1 W → Bs W A1 l) := Lib.hid (fun W hW => HL1.out.offs HO1.out hW)
  have HPx : Hid (Pair N w1.drew p d f) := Lib.hid (HP1.out.below (Below.refl _ _).drew)
  have hok := HH.out.ok
  have hrok := HH.out.rok
  have hst := HH.out.st
  have hfs : f.steps ≤ 1099511627776 := by rw [← HH.out.sim.steps]; exact hst
  have hbl : d.b.length ≤ 67108864 := by have := hok.len; have := hok.few; omega
  have hfl : f.b.length ≤ 67108864 := by have := hrok.len; have := hrok.few; omega
  obtain ⟨dc, d', Hd⟩ : ∃ dc d', Hid (deraseOf d t = (dc, d')) := ⟨_, _, rfl⟩
  obtain ⟨rc, f', Hf⟩ : ∃ rc f', Hid (eraseOf f t = (rc, f')) := ⟨_, _, rfl⟩
  have hsim := sim_erase HH.out.sim hok hrok t (by omega)
  rw [Hd.out, Hf.out] at hsim
  obtain ⟨hcode, hsim2⟩ := hsim
  replace hcode : dc = rc := hcode
  subst hcode
  have HSIM : Hid (Sim d' f') := Lib.hid hsim2
  have HNUM : Hid (NumFact d d' 1100) := Lib.hid (by have e : (deraseOf d t).2 = d' := (by rw [Hd.out]); rw [← e]; exact (deraseOf_num d hok t (by omega) (fun x hx => by have := HH.out.wn x hx; omega)).more (by omega))
  have HROK : Hid (FlOk f') := Lib.hid (by have e : (eraseOf f t).2 = f' := (by rw [Hf.out]); rw [← e]; exact eraseOf_ok f hrok t (by omega) (fun x hx => by rw [← HH.out.sim.worn] at hx; have := HH.out.wn x hx; omega))
  have HDC : Hid (∀ W f0, Only (AdF p) w1 W → Pair N W p d f0 → Calls Try.prog 20 #[.pointer (some ⟨p.g, 0, none⟩), .int .i64 t] W (PairPost N W p (.int .i64 dc) d' f0)) := Lib.hid (fun W f0 hW hP => by
    have := pair_derase hP hok t
    have e1 : (deraseOf d t).1 = dc := by rw [Hd.out]
    have e2 : (deraseOf d t).2 = d' := by rw [Hd.out]
    rw [e1, e2] at this
    exact this)
  have HRC : Hid (∀ W d0, Only (AdF p) w1 W → Pair N W p d0 f → Calls Try.prog 32 #[.pointer (some ⟨p.h, 0, none⟩), .int .i64 t] W (PairPost N W p (.int .i64 dc) d0 f')) := Lib.hid (fun W d0 hW hP => by
    have := pair_rerase hP hrok t
    have e1 : (eraseOf f t).1 = dc := by rw [Hf.out]
    have e2 : (eraseOf f t).2 = f' := by rw [Hf.out]
    rw [e1, e2] at this
    exact this)
  clear hsim2 hok hrok hgz
  go_wp2_with fail
  go_region_held3 (fun W => Only (AdF p) w1 W) (first | assumption | exact Only.drew (Only.refl _ _)) (first
    | (go_at_call 20; refine (HDC.out _ _ (by assumption) HPx.out).mono ?_; rintro e w4 ⟨rfl, hP4, ho4⟩; have HPx := Lib.hid hP4; have kS := Only.trans (by assumption) ho4; clear hP4 ho4)
    | (go_at_call 32; refine (HRC.out _ _ (by assumption) HPx.out).mono ?_; rintro e w4 ⟨rfl, hP4, ho4⟩; have HPx := Lib.hid hP4; have kS := Only.trans (by assumption) ho4; clear hP4 ho4)
    | (go_at_call 21; refine (num2_any _ _).mono ?_; rintro e w4 ⟨rfl, rfl⟩))
  all_goals
    go_wp2_with fail
    go_ret
    exact ⟨rfl, d', f', HPx.out, HSIM.out, HNUM.out, HROK.out, (Only.of_below ⟨HB1.out.os, HB1.out.tape, HB1.out.output, HB1.out.size, HB1.out.block⟩).trans (by assumption)⟩

def dspoilP (d : Dl) (t : Int) (l : List UInt8) : Int × Dl := (spoilCode d.b t l, dspoilOf d t l)
def rspoilP (f : Fl) (t : Int) (l : List UInt8) : Int × Fl := (spoilCode f.b t l, rspoilOf f t l)

set_option maxRecDepth 100000 in
set_option maxHeartbeats 3200000 in
theorem do_spoil {N : Nat} {w : World} {p : Ad} {d : Dl} {f : Fl} {t n : Int} {A : Option Addr} {l : List UInt8} {c : Nat} (h : DoIn N w p d f t n A l c) :
    Calls Try.prog 11 #[.pointer (some ⟨p.g, 0, none⟩), .pointer (some ⟨p.h, 0, none⟩), .agg #[.int .i64 6, .int .i64 t, .int .i64 n, .slice A l.length c]] w (DoPost N w p d) := by
  have t1 := h.t1
  have t2 := h.t2
  have n1 := h.n1
  have n2 := h.n2
  have hll := h.hl
  obtain ⟨w0, Hw0⟩ : ∃ w0, Hid (w.alloc (.cells #[.int .i64 6, .int .i64 t, .int .i64 n, .slice A l.length c] 32) = w0) := ⟨_, rfl⟩
  have hb0 : Below w.heap.size w w0 := by rw [← Hw0.out]; exact (Below.refl _ _).alloc (Nat.le_refl _) _
  have hz0 : w0.heap.size = w.heap.size + 1 := by rw [← Hw0.out]; simp
  have hg0 : w0.heap[w.heap.size]? = some (.cells #[.int .i64 6, .int .i64 t, .int .i64 n, .slice A l.length c] 32 (0, 0)) := by rw [← Hw0.out]; exact heap_alloc_new _ _
  have HS0 := Lib.hid (h.bs.below hb0)
  have HP0 := Lib.hid (h.pair.below hb0)
  have Hz0 := Lib.hid hz0
  have HG0 := Lib.hid hg0
  have HH := Lib.hid h
  have HB0 := Lib.hid hb0
  have hzz : w.heap.size < w0.heap.size := by omega
  clear h hz0 hg0 hb0
  go_enter Try.func11, Try.ntmps11
  go_wp2_with (with_reducible refine wpList_append_bs rfl (.const (.slice none 0 0)) (.tmp 16) 30 rfl w0.heap.size 5 Try.underlying30 info5 (.slice none 0 0) [] rfl (Ob.nil_ _ _ _) A l _ c rfl rfl (by rw [Hw0.out]; exact HS0.out) (by simp; omega) (by rw [Hw0.out]; exact Nat.le_refl _) ?_)
  rw [Hw0.out]
  intro v1 w1 ho1 hgr1
  obtain ⟨A1, c1, rfl, hbs1, -⟩ := ho1.form
  have hb1 := below_of_grown hgr1
  have hg1 := (hb1.block _ hzz).trans HG0.out
  have k0 : w1.cell? ⟨w.heap.size, 0, none⟩ = some (.int .i64 6) := by rw [cell_of_row _ _ _ _ _ _ hg1]; rfl
  have k1 : w1.cell? ⟨w.heap.size, 1, none⟩ = some (.int .i64 t) := by rw [cell_of_row _ _ _ _ _ _ hg1]; rfl
  have k2 : w1.cell? ⟨w.heap.size, 2, none⟩ = some (.int .i64 n) := by rw [cell_of_row _ _ _ _ _ _ hg1]; rfl
  have k3 : w1.cell? ⟨w.heap.size, 3, none⟩ = some (.slice A l.length c) := by rw [cell_of_row _ _ _ _ _ _ hg1]; rfl
  have HS1 := Lib.hid (HS0.out.below hb1)
  have HP1 := Lib.hid (HP0.out.below hb1)
  have HB1 := Lib.hid (HB0.out.trans (hb1.mono HB0.out.size))
  have HL1 := Lib.hid hbs1
  have HC1 : Hid (l.length ≤ c1) := Lib.hid (by
    rcases ho1.2 with ⟨h0, h1⟩ | ⟨g', cap, cur, e, _, _, hnc, _⟩
    · simp at h0; rw [h1]; omega
    · injection e with e1 e2 e3; rw [e3]; simpa using hnc)
  have HO1 : Hid (Off (AdF p) A1 l) := Lib.hid (fun _ k hk => adF_lt HP0.out (ho1.fresh k hk))
  have hnil : ([] : List UInt8) ++ l = l := List.nil_append l
  clear ho1 hgr1 hbs1 hg1 hnil
  have hS0 : Only (AdF p) w1 w1 := Only.refl _ _
  have hgz : ¬ AdF p w.heap.size := adF_lt HH.out.pair (Nat.le_refl _)
  have L1 : ∀ W, Only (AdF p) w1 W → W.cell? ⟨w.heap.size, 1, none⟩ = some (.int .i64 t) := fun W hW => by
    rw [World.cell?_of_block (hW.block _ (World.block_lt_of_cell? w1 _ k1) hgz)]; exact k1
  have L3 : ∀ W, Only (AdF p) w1 W → W.cell? ⟨w.heap.size, 3, none⟩ = some (.slice A l.length c) := fun W hW => by
    rw [World.cell?_of_block (hW.block _ (World.block_lt_of_cell? w1 _ k3) hgz)]; exact k3
  have LA : Hid (∀ W, Only (AdF p) w1 W → Bs W A l) := Lib.hid (fun W hW => HS1.out.offs HH.out.off hW)
  have LB : Hid (∀ W, Only (AdF p) w1 W → Bs W A1 l) := Lib.hid (fun W hW => HL1.out.offs HO1.out hW)
  have HPx : Hid (Pair N w1.drew p d f) := Lib.hid (HP1.out.below (Below.refl _ _).drew)
  have hok := HH.out.ok
  have hrok := HH.out.rok
  have hst := HH.out.st
  have hfs : f.steps ≤ 1099511627776 := by rw [← HH.out.sim.steps]; exact hst
  have hbl : d.b.length ≤ 67108864 := by have := hok.len; have := hok.few; omega
  have hfl : f.b.length ≤ 67108864 := by have := hrok.len; have := hrok.few; omega
  obtain ⟨dc, d', Hd⟩ : ∃ dc d', Hid (dspoilP d t l = (dc, d')) := ⟨_, _, rfl⟩
  obtain ⟨rc, f', Hf⟩ : ∃ rc f', Hid (rspoilP f t l = (rc, f')) := ⟨_, _, rfl⟩
  have hsim := (show (dspoilP d t l).1 = (rspoilP f t l).1 ∧ Sim (dspoilP d t l).2 (rspoilP f t l).2 from ⟨by show spoilCode d.b t l = spoilCode f.b t l; rw [HH.out.sim.b], sim_spoil HH.out.sim t l⟩)
  rw [Hd.out, Hf.out] at hsim
  obtain ⟨hcode, hsim2⟩ := hsim
  replace hcode : dc = rc := hcode
  subst hcode
  have HSIM : Hid (Sim d' f') := Lib.hid hsim2
  have HNUM : Hid (NumFact d d' 1100) := Lib.hid (by have e : (dspoilP d t l).2 = d' := (by rw [Hd.out]); rw [← e]; exact (show NumFact d (dspoilOf d t l) 0 from dspoilOf_num d hok t l).more (by omega))
  have HROK : Hid (FlOk f') := Lib.hid (by have e : (rspoilP f t l).2 = f' := (by rw [Hf.out]); rw [← e]; exact rspoilOf_ok f hrok t l)
  have HDC : Hid (∀ W f0, Only (AdF p) w1 W → Pair N W p d f0 → Calls Try.prog 18 #[.pointer (some ⟨p.g, 0, none⟩), .int .i64 t, .slice A1 l.length c1] W (PairPost N W p (.int .i64 dc) d' f0)) := Lib.hid (fun W f0 hW hP => by
    have := (show Calls Try.prog 18 #[.pointer (some ⟨p.g, 0, none⟩), .int .i64 t, .slice A1 l.length c1] W (PairPost N W p (.int .i64 (dspoilP d t l).1) (dspoilP d t l).2 f0) from pair_dspoil hP t A1 l c1 (LB.out W hW) t1 t2 (by omega) (by omega))
    have e1 : (dspoilP d t l).1 = dc := by rw [Hd.out]
    have e2 : (dspoilP d t l).2 = d' := by rw [Hd.out]
    rw [e1, e2] at this
    exact this)
  have HRC : Hid (∀ W d0, Only (AdF p) w1 W → Pair N W p d0 f → Calls Try.prog 35 #[.pointer (some ⟨p.h, 0, none⟩), .int .i64 t, .slice A l.length c] W (PairPost N W p (.int .i64 dc) d0 f')) := Lib.hid (fun W d0 hW hP => by
    have := (show Calls Try.prog 35 #[.pointer (some ⟨p.h, 0, none⟩), .int .i64 t, .slice A l.length c] W (PairPost N W p (.int .i64 (rspoilP f t l).1) d0 (rspoilP f t l).2) from pair_rspoil hP t A l c (LA.out W hW) HH.out.off t1 t2 (by omega) (by omega))
    have e1 : (rspoilP f t l).1 = dc := by rw [Hf.out]
    have e2 : (rspoilP f t l).2 = f' := by rw [Hf.out]
    rw [e1, e2] at this
    exact this)
  clear hsim2 hok hrok hgz
  go_wp2_with fail
  go_region_held3 (fun W => Only (AdF p) w1 W) (first | assumption | exact Only.drew (Only.refl _ _)) (first
    | (go_at_call 18; refine (HDC.out _ _ (by assumption) HPx.out).mono ?_; rintro e w4 ⟨rfl, hP4, ho4⟩; have HPx := Lib.hid hP4; have kS := Only.trans (by assumption) ho4; clear hP4 ho4)
    | (go_at_call 35; refine (HRC.out _ _ (by assumption) HPx.out).mono ?_; rintro e w4 ⟨rfl, hP4, ho4⟩; have HPx := Lib.hid hP4; have kS := Only.trans (by assumption) ho4; clear hP4 ho4)
    | (go_at_call 21; refine (num2_any _ _).mono ?_; rintro e w4 ⟨rfl, rfl⟩))
  all_goals
    go_wp2_with fail
    go_ret
    exact ⟨rfl, d', f', HPx.out, HSIM.out, HNUM.out, HROK.out, (Only.of_below ⟨HB1.out.os, HB1.out.tape, HB1.out.output, HB1.out.size, HB1.out.block⟩).trans (by assumption)⟩

set_option maxRecDepth 100000 in
set_option maxHeartbeats 3200000 in
theorem do_arm {N : Nat} {w : World} {p : Ad} {d : Dl} {f : Fl} {t n : Int} {A : Option Addr} {l : List UInt8} {c : Nat} (h : DoIn N w p d f t n A l c) :
    Calls Try.prog 11 #[.pointer (some ⟨p.g, 0, none⟩), .pointer (some ⟨p.h, 0, none⟩), .agg #[.int .i64 4, .int .i64 t, .int .i64 n, .slice A l.length c]] w (DoPost N w p d) := by
  have t1 := h.t1
  have t2 := h.t2
  have n1 := h.n1
  have n2 := h.n2
  have hll := h.hl
  obtain ⟨w0, Hw0⟩ : ∃ w0, Hid (w.alloc (.cells #[.int .i64 4, .int .i64 t, .int .i64 n, .slice A l.length c] 32) = w0) := ⟨_, rfl⟩
  have hb0 : Below w.heap.size w w0 := by rw [← Hw0.out]; exact (Below.refl _ _).alloc (Nat.le_refl _) _
  have hz0 : w0.heap.size = w.heap.size + 1 := by rw [← Hw0.out]; simp
  have hg0 : w0.heap[w.heap.size]? = some (.cells #[.int .i64 4, .int .i64 t, .int .i64 n, .slice A l.length c] 32 (0, 0)) := by rw [← Hw0.out]; exact heap_alloc_new _ _
  have HS0 := Lib.hid (h.bs.below hb0)
  have HP0 := Lib.hid (h.pair.below hb0)
  have Hz0 := Lib.hid hz0
  have HG0 := Lib.hid hg0
  have HH := Lib.hid h
  have HB0 := Lib.hid hb0
  have hzz : w.heap.size < w0.heap.size := by omega
  clear h hz0 hg0 hb0
  go_enter Try.func11, Try.ntmps11
  go_wp2_with (with_reducible refine wpList_append_bs rfl (.const (.slice none 0 0)) (.tmp 16) 30 rfl w0.heap.size 5 Try.underlying30 info5 (.slice none 0 0) [] rfl (Ob.nil_ _ _ _) A l _ c rfl rfl (by rw [Hw0.out]; exact HS0.out) (by simp; omega) (by rw [Hw0.out]; exact Nat.le_refl _) ?_)
  rw [Hw0.out]
  intro v1 w1 ho1 hgr1
  obtain ⟨A1, c1, rfl, hbs1, -⟩ := ho1.form
  have hb1 := below_of_grown hgr1
  have hg1 := (hb1.block _ hzz).trans HG0.out
  have k0 : w1.cell? ⟨w.heap.size, 0, none⟩ = some (.int .i64 4) := by rw [cell_of_row _ _ _ _ _ _ hg1]; rfl
  have k1 : w1.cell? ⟨w.heap.size, 1, none⟩ = some (.int .i64 t) := by rw [cell_of_row _ _ _ _ _ _ hg1]; rfl
  have k2 : w1.cell? ⟨w.heap.size, 2, none⟩ = some (.int .i64 n) := by rw [cell_of_row _ _ _ _ _ _ hg1]; rfl
  have k3 : w1.cell? ⟨w.heap.size, 3, none⟩ = some (.slice A l.length c) := by rw [cell_of_row _ _ _ _ _ _ hg1]; rfl
  have HS1 := Lib.hid (HS0.out.below hb1)
  have HP1 := Lib.hid (HP0.out.below hb1)
  have HB1 := Lib.hid (HB0.out.trans (hb1.mono HB0.out.size))
  have HL1 := Lib.hid hbs1
  have HC1 : Hid (l.length ≤ c1) := Lib.hid (by
    rcases ho1.2 with ⟨h0, h1⟩ | ⟨g', cap, cur, e, _, _, hnc, _⟩
    · simp at h0; rw [h1]; omega
    · injection e with e1 e2 e3; rw [e3]; simpa using hnc)
  have HO1 : Hid (Off (AdF p) A1 l) := Lib.hid (fun _ k hk => adF_lt HP0.out (ho1.fresh k hk))
  have hnil : ([] : List UInt8) ++ l = l := List.nil_append l
  clear ho1 hgr1 hbs1 hg1 hnil
  have hgz : ¬ AdF p w.heap.size := adF_lt HH.out.pair (Nat.le_refl _)
  go_wp2_with fail
  refine (pair_darm HP1.out n A1 l c1 HL1.out HC1.out (by omega)).mono ?_
  rintro e w2 ⟨rfl, hP2, ho2⟩
  have j2 : w2.cell? ⟨w.heap.size, 2, none⟩ = some (.int .i64 n) := by rw [World.cell?_of_block (ho2.block _ (World.block_lt_of_cell? w1 _ k2) hgz)]; exact k2
  have j3 : w2.cell? ⟨w.heap.size, 3, none⟩ = some (.slice A l.length c) := by rw [World.cell?_of_block (ho2.block _ (World.block_lt_of_cell? w1 _ k3) hgz)]; exact k3
  have HP2 := Lib.hid hP2
  have HO2 := Lib.hid ho2
  clear hP2 ho2 k1 k2 k3 k0
  go_wp2_with fail
  refine (pair_rarm HP2.out n A l c (HS1.out.offs HH.out.off HO2.out) (by omega)).mono ?_
  rintro e w3 ⟨rfl, hP3, ho3⟩
  have HP3 := Lib.hid hP3
  have HO3 := Lib.hid ho3
  clear hP3 ho3 j2 j3
  go_wp2_with fail
  go_ret
  exact ⟨rfl, _, _, HP3.out, sim_arm HH.out.sim HH.out.rok.s0 n l, (darmOf_num d HH.out.ok n n2 l).more (by omega), rarmOf_ok f HH.out.rok n l (by omega), ((Only.of_below ⟨HB1.out.os, HB1.out.tape, HB1.out.output, HB1.out.size, HB1.out.block⟩).trans HO2.out).trans HO3.out⟩

set_option maxRecDepth 100000 in
set_option maxHeartbeats 3200000 in
theorem do_boot {N : Nat} {w : World} {p : Ad} {d : Dl} {f : Fl} {t n : Int} {A : Option Addr} {l : List UInt8} {c : Nat} (h : DoIn N w p d f t n A l c) :
    Calls Try.prog 11 #[.pointer (some ⟨p.g, 0, none⟩), .pointer (some ⟨p.h, 0, none⟩), .agg #[.int .i64 5, .int .i64 t, .int .i64 n, .slice A l.length c]] w (DoPost N w p d) := by
  have t1 := h.t1
  have t2 := h.t2
  have n1 := h.n1
  have n2 := h.n2
  have hll := h.hl
  obtain ⟨w0, Hw0⟩ : ∃ w0, Hid (w.alloc (.cells #[.int .i64 5, .int .i64 t, .int .i64 n, .slice A l.length c] 32) = w0) := ⟨_, rfl⟩
  have hb0 : Below w.heap.size w w0 := by rw [← Hw0.out]; exact (Below.refl _ _).alloc (Nat.le_refl _) _
  have hz0 : w0.heap.size = w.heap.size + 1 := by rw [← Hw0.out]; simp
  have hg0 : w0.heap[w.heap.size]? = some (.cells #[.int .i64 5, .int .i64 t, .int .i64 n, .slice A l.length c] 32 (0, 0)) := by rw [← Hw0.out]; exact heap_alloc_new _ _
  have HS0 := Lib.hid (h.bs.below hb0)
  have HP0 := Lib.hid (h.pair.below hb0)
  have Hz0 := Lib.hid hz0
  have HG0 := Lib.hid hg0
  have HH := Lib.hid h
  have HB0 := Lib.hid hb0
  have hzz : w.heap.size < w0.heap.size := by omega
  clear h hz0 hg0 hb0
  go_enter Try.func11, Try.ntmps11
  go_wp2_with (with_reducible refine wpList_append_bs rfl (.const (.slice none 0 0)) (.tmp 16) 30 rfl w0.heap.size 5 Try.underlying30 info5 (.slice none 0 0) [] rfl (Ob.nil_ _ _ _) A l _ c rfl rfl (by rw [Hw0.out]; exact HS0.out) (by simp; omega) (by rw [Hw0.out]; exact Nat.le_refl _) ?_)
  rw [Hw0.out]
  intro v1 w1 ho1 hgr1
  obtain ⟨A1, c1, rfl, hbs1, -⟩ := ho1.form
  have hb1 := below_of_grown hgr1
  have hg1 := (hb1.block _ hzz).trans HG0.out
  have k0 : w1.cell? ⟨w.heap.size, 0, none⟩ = some (.int .i64 5) := by rw [cell_of_row _ _ _ _ _ _ hg1]; rfl
  have k1 : w1.cell? ⟨w.heap.size, 1, none⟩ = some (.int .i64 t) := by rw [cell_of_row _ _ _ _ _ _ hg1]; rfl
  have k2 : w1.cell? ⟨w.heap.size, 2, none⟩ = some (.int .i64 n) := by rw [cell_of_row _ _ _ _ _ _ hg1]; rfl
  have k3 : w1.cell? ⟨w.heap.size, 3, none⟩ = some (.slice A l.length c) := by rw [cell_of_row _ _ _ _ _ _ hg1]; rfl
  have HS1 := Lib.hid (HS0.out.below hb1)
  have HP1 := Lib.hid (HP0.out.below hb1)
  have HB1 := Lib.hid (HB0.out.trans (hb1.mono HB0.out.size))
  have HL1 := Lib.hid hbs1
  have HC1 : Hid (l.length ≤ c1) := Lib.hid (by
    rcases ho1.2 with ⟨h0, h1⟩ | ⟨g', cap, cur, e, _, _, hnc, _⟩
    · simp at h0; rw [h1]; omega
    · injection e with e1 e2 e3; rw [e3]; simpa using hnc)
  have HO1 : Hid (Off (AdF p) A1 l) := Lib.hid (fun _ k hk => adF_lt HP0.out (ho1.fresh k hk))
  have hnil : ([] : List UInt8) ++ l = l := List.nil_append l
  clear ho1 hgr1 hbs1 hg1 hnil
  clear k1 k2 k3
  go_wp2_with fail
  refine (pair_dboot HP1.out).mono ?_
  rintro e w2 ⟨rfl, hP2, ho2⟩
  have HP2 := Lib.hid hP2
  have HO2 := Lib.hid ho2
  clear hP2 ho2 k0
  go_wp2_with fail
  refine (pair_rboot HP2.out).mono ?_
  rintro e w3 ⟨rfl, hP3, ho3⟩
  have HP3 := Lib.hid hP3
  have HO3 := Lib.hid ho3
  clear hP3 ho3
  go_wp2_with fail
  go_ret
  have hok := HH.out.ok
  have hrok := HH.out.rok
  exact ⟨rfl, _, _, HP3.out, sim_boot HH.out.sim, ⟨⟨hok.len, hok.few, hok.worn, hok.s0, hok.s1, by show (0 : Int) ≤ 0; omega, by show (0 : Int) ≤ _; omega, by show ([] : List UInt8).length ≤ _; simp⟩, by show d.steps ≤ _; omega, rfl, fun M hM x hx => by have := hM x hx; omega⟩,
    ⟨hrok.len, hrok.few, hrok.worn, hrok.s0, hrok.s1, by show (-1 : Int) ≤ -1; omega, by show (-1 : Int) ≤ _; omega, by show ([] : List UInt8).length ≤ _; simp⟩, ((Only.of_below ⟨HB1.out.os, HB1.out.tape, HB1.out.output, HB1.out.size, HB1.out.block⟩).trans HO2.out).trans HO3.out⟩

set_option maxRecDepth 100000 in
set_option maxHeartbeats 3200000 in
theorem do_read {N : Nat} {w : World} {p : Ad} {d : Dl} {f : Fl} {t n : Int} {A : Option Addr} {l : List UInt8} {c : Nat} (h : DoIn N w p d f t n A l c) :
    Calls Try.prog 11 #[.pointer (some ⟨p.g, 0, none⟩), .pointer (some ⟨p.h, 0, none⟩), .agg #[.int .i64 1, .int .i64 t, .int .i64 n, .slice A l.length c]] w (DoPost N w p d) := by
  have t1 := h.t1
  have t2 := h.t2
  have n1 := h.n1
  have n2 := h.n2
  have hll := h.hl
  obtain ⟨w0, Hw0⟩ : ∃ w0, Hid (w.alloc (.cells #[.int .i64 1, .int .i64 t, .int .i64 n, .slice A l.length c] 32) = w0) := ⟨_, rfl⟩
  have hb0 : Below w.heap.size w w0 := by rw [← Hw0.out]; exact (Below.refl _ _).alloc (Nat.le_refl _) _
  have hz0 : w0.heap.size = w.heap.size + 1 := by rw [← Hw0.out]; simp
  have hg0 : w0.heap[w.heap.size]? = some (.cells #[.int .i64 1, .int .i64 t, .int .i64 n, .slice A l.length c] 32 (0, 0)) := by rw [← Hw0.out]; exact heap_alloc_new _ _
  have HS0 := Lib.hid (h.bs.below hb0)
  have HP0 := Lib.hid (h.pair.below hb0)
  have Hz0 := Lib.hid hz0
  have HG0 := Lib.hid hg0
  have HH := Lib.hid h
  have HB0 := Lib.hid hb0
  have hzz : w.heap.size < w0.heap.size := by omega
  clear h hz0 hg0 hb0
  go_enter Try.func11, Try.ntmps11
  go_wp2_with (with_reducible refine wpList_append_bs rfl (.const (.slice none 0 0)) (.tmp 16) 30 rfl w0.heap.size 5 Try.underlying30 info5 (.slice none 0 0) [] rfl (Ob.nil_ _ _ _) A l _ c rfl rfl (by rw [Hw0.out]; exact HS0.out) (by simp; omega) (by rw [Hw0.out]; exact Nat.le_refl _) ?_)
  rw [Hw0.out]
  intro v1 w1 ho1 hgr1
  obtain ⟨A1, c1, rfl, hbs1, -⟩ := ho1.form
  have hb1 := below_of_grown hgr1
  have hg1 := (hb1.block _ hzz).trans HG0.out
  have k0 : w1.cell? ⟨w.heap.size, 0, none⟩ = some (.int .i64 1) := by rw [cell_of_row _ _ _ _ _ _ hg1]; rfl
  have k1 : w1.cell? ⟨w.heap.size, 1, none⟩ = some (.int .i64 t) := by rw [cell_of_row _ _ _ _ _ _ hg1]; rfl
  have k2 : w1.cell? ⟨w.heap.size, 2, none⟩ = some (.int .i64 n) := by rw [cell_of_row _ _ _ _ _ _ hg1]; rfl
  have k3 : w1.cell? ⟨w.heap.size, 3, none⟩ = some (.slice A l.length c) := by rw [cell_of_row _ _ _ _ _ _ hg1]; rfl
  have HS1 := Lib.hid (HS0.out.below hb1)
  have HP1 := Lib.hid (HP0.out.below hb1)
  have HB1 := Lib.hid (HB0.out.trans (hb1.mono HB0.out.size))
  have HL1 := Lib.hid hbs1
  have HC1 : Hid (l.length ≤ c1) := Lib.hid (by
    rcases ho1.2 with ⟨h0, h1⟩ | ⟨g', cap, cur, e, _, _, hnc, _⟩
    · simp at h0; rw [h1]; omega
    · injection e with e1 e2 e3; rw [e3]; simpa using hnc)
  have HO1 : Hid (Off (AdF p) A1 l) := Lib.hid (fun _ k hk => adF_lt HP0.out (ho1.fresh k hk))
  have hnil : ([] : List UInt8) ++ l = l := List.nil_append l
  clear ho1 hgr1 hbs1 hg1 hnil
  have hbl : d.b.length ≤ 67108864 := by have := HH.out.ok.len; have := HH.out.ok.few; omega
  have hfl : f.b.length ≤ 67108864 := by have := HH.out.rok.len; have := HH.out.rok.few; omega
  obtain ⟨rl, rc, Hr⟩ : ∃ rl rc, Hid (readOf f t n = (rl, rc)) := ⟨_, _, rfl⟩
  have h1 := dread_any HP1.out.dev t n t1 t2 n1 n2 (by omega)
  rw [sim_read HH.out.sim, Hr.out] at h1
  have HR1 := Lib.hid h1
  clear h1
  go_wp2_with fail
  refine HR1.out.mono ?_
  rintro e w2 ⟨v2, rfl, ho2, hb2⟩
  obtain ⟨A2, c2, rfl, hbs2, -⟩ := ho2.form
  have hz1 : w.heap.size < w1.heap.size := World.block_lt_of_cell? w1 _ k0
  have j1 : w2.cell? ⟨w.heap.size, 1, none⟩ = some (.int .i64 t) := by rw [hb2.cell (p := ⟨w.heap.size, 1, none⟩) hz1]; exact k1
  have j2 : w2.cell? ⟨w.heap.size, 2, none⟩ = some (.int .i64 n) := by rw [hb2.cell (p := ⟨w.heap.size, 2, none⟩) hz1]; exact k2
  have HP2 := Lib.hid (HP1.out.below hb2)
  have HX2 := Lib.hid hbs2
  have HB2 := Lib.hid (below_on HB1.out hb2)
  clear ho2 hb2 hbs2 k0 k1 k2 k3
  have h2 := rread_any HP2.out.ref t n t1 t2 n1 n2 (by omega)
  rw [Hr.out] at h2
  have HR2 := Lib.hid h2
  clear h2
  go_wp2_with fail
  refine HR2.out.mono ?_
  rintro e w3 ⟨v3, rfl, ho3, hb3⟩
  obtain ⟨A3, c3, rfl, hbs3, -⟩ := ho3.form
  have HP3 := Lib.hid (HP2.out.below hb3)
  have HB3 := Lib.hid (below_on HB2.out hb3)
  obtain ⟨s, Hs⟩ : ∃ s, Hid (strB rl = s) := ⟨_, rfl⟩
  have m2 : (convert 30 9 (.slice A2 rl.length c2)).run Try.prog w3 = .ok (.string s) w3 := conv_now (HX2.out.below hb3) rfl Hs.out
  have m3 : (convert 30 9 (.slice A3 rl.length c3)).run Try.prog w3 = .ok (.string s) w3 := conv_now hbs3 rfl Hs.out
  have HX3 := Lib.hid hbs3
  clear ho3 hb3 hbs3 j1 j2
  go_wp2_with (go_at_call 21; refine (num2_any _ _).mono ?_; rintro e w4 ⟨rfl, rfl⟩)
  go_ret
  exact ⟨rfl, d, f, HP3.out, HH.out.sim, (NumFact.same HH.out.ok (by omega)), HH.out.rok, Only.of_below ⟨HB3.out.os, HB3.out.tape, HB3.out.output, HB3.out.size, HB3.out.block⟩⟩

set_option maxRecDepth 100000 in
set_option maxHeartbeats 3200000 in
theorem do_none {N : Nat} {w : World} {p : Ad} {d : Dl} {f : Fl} {kd t n : Int} {A : Option Addr} {l : List UInt8} {c : Nat} (h : DoIn N w p d f t n A l c) (q1 : (kd == 1) = false) (q2 : (kd == 2) = false) (q3 : (kd == 3) = false) (q4 : (kd == 4) = false) (q5 : (kd == 5) = false) (q6 : (kd == 6) = false) (q7 : (kd == 7) = false) :
    Calls Try.prog 11 #[.pointer (some ⟨p.g, 0, none⟩), .pointer (some ⟨p.h, 0, none⟩), .agg #[.int .i64 kd, .int .i64 t, .int .i64 n, .slice A l.length c]] w (DoPost N w p d) := by
  have t1 := h.t1
  have t2 := h.t2
  have n1 := h.n1
  have n2 := h.n2
  have hll := h.hl
  obtain ⟨w0, Hw0⟩ : ∃ w0, Hid (w.alloc (.cells #[.int .i64 kd, .int .i64 t, .int .i64 n, .slice A l.length c] 32) = w0) := ⟨_, rfl⟩
  have hb0 : Below w.heap.size w w0 := by rw [← Hw0.out]; exact (Below.refl _ _).alloc (Nat.le_refl _) _
  have hz0 : w0.heap.size = w.heap.size + 1 := by rw [← Hw0.out]; simp
  have hg0 : w0.heap[w.heap.size]? = some (.cells #[.int .i64 kd, .int .i64 t, .int .i64 n, .slice A l.length c] 32 (0, 0)) := by rw [← Hw0.out]; exact heap_alloc_new _ _
  have HS0 := Lib.hid (h.bs.below hb0)
  have HP0 := Lib.hid (h.pair.below hb0)
  have Hz0 := Lib.hid hz0
  have HG0 := Lib.hid hg0
  have HH := Lib.hid h
  have HB0 := Lib.hid hb0
  have hzz : w.heap.size < w0.heap.size := by omega
  clear h hz0 hg0 hb0
  go_enter Try.func11, Try.ntmps11
  go_wp2_with (with_reducible refine wpList_append_bs rfl (.const (.slice none 0 0)) (.tmp 16) 30 rfl w0.heap.size 5 Try.underlying30 info5 (.slice none 0 0) [] rfl (Ob.nil_ _ _ _) A l _ c rfl rfl (by rw [Hw0.out]; exact HS0.out) (by simp; omega) (by rw [Hw0.out]; exact Nat.le_refl _) ?_)
  rw [Hw0.out]
  intro v1 w1 ho1 hgr1
  obtain ⟨A1, c1, rfl, hbs1, -⟩ := ho1.form
  have hb1 := below_of_grown hgr1
  have hg1 := (hb1.block _ hzz).trans HG0.out
  have k0 : w1.cell? ⟨w.heap.size, 0, none⟩ = some (.int .i64 kd) := by rw [cell_of_row _ _ _ _ _ _ hg1]; rfl
  have k1 : w1.cell? ⟨w.heap.size, 1, none⟩ = some (.int .i64 t) := by rw [cell_of_row _ _ _ _ _ _ hg1]; rfl
  have k2 : w1.cell? ⟨w.heap.size, 2, none⟩ = some (.int .i64 n) := by rw [cell_of_row _ _ _ _ _ _ hg1]; rfl
  have k3 : w1.cell? ⟨w.heap.size, 3, none⟩ = some (.slice A l.length c) := by rw [cell_of_row _ _ _ _ _ _ hg1]; rfl
  have HS1 := Lib.hid (HS0.out.below hb1)
  have HP1 := Lib.hid (HP0.out.below hb1)
  have HB1 := Lib.hid (HB0.out.trans (hb1.mono HB0.out.size))
  have HL1 := Lib.hid hbs1
  have HC1 : Hid (l.length ≤ c1) := Lib.hid (by
    rcases ho1.2 with ⟨h0, h1⟩ | ⟨g', cap, cur, e, _, _, hnc, _⟩
    · simp at h0; rw [h1]; omega
    · injection e with e1 e2 e3; rw [e3]; simpa using hnc)
  have HO1 : Hid (Off (AdF p) A1 l) := Lib.hid (fun _ k hk => adF_lt HP0.out (ho1.fresh k hk))
  have hnil : ([] : List UInt8) ++ l = l := List.nil_append l
  clear ho1 hgr1 hbs1 hg1 hnil
  go_wp2_with fail
  go_ret
  exact ⟨rfl, d, f, HP1.out, HH.out.sim, (NumFact.same HH.out.ok (by omega)), HH.out.rok, (Only.of_below ⟨HB1.out.os, HB1.out.tape, HB1.out.output, HB1.out.size, HB1.out.block⟩)⟩

end Go.Proofs.Ytlnpfndjdilfhaa
