/- The contract of the reference's Erase. -/
import Derived.Test.YtlnpfndjdilfhaaRefArm
import Derived.Test.YtlnpfndjdilfhaaRefHalf
import Derived.Test.YtlnpfndjdilfhaaRefBlank
import Derived.Test.YtlnpfndjdilfhaaRegion
import Derived.Deep.RegionHeld3
import Derived.IntWalk
namespace Go.Proofs.Ytlnpfndjdilfhaa
open Go.RowKit
set_option linter.unusedVariables false

def withW (fl : Fl) (l : List Int) : Fl := ⟨fl.b, l, fl.steps, fl.left, fl.pick, fl.dark⟩

/-- only the row of counts has turned -/
theorem RefFl.withW {w w' : World} {g gB gW cB cW N : Nat} {fl : Fl} (h : RefFl w g gB gW cB cW N fl) (ho : Only (fun k => k = gW) w w') {l : List Int} (hlen : l.length = fl.worn.length) (hb : Wb w' gW cW l) :
    RefFl w' g gB gW cB cW N (withW fl l) := by
  obtain ⟨n1, n2, n3⟩ := h.ne
  obtain ⟨AP, cP, hg, hbp, hap⟩ := h.cells
  refine ⟨⟨AP, cP, ?_, hbp.only ho (fun k hk => (hap k hk).2.2.1), hap⟩, h.bytes.only ho (by rintro k ⟨a, e, rfl⟩; injection e with e; subst e; exact n3), hb⟩
  rw [ho.block g (Array.getElem?_eq_some_iff.1 hg).1 n2]
  have e : (Ytlnpfndjdilfhaa.withW fl l).worn.length = fl.worn.length := hlen
  rw [e]
  exact hg

theorem Wb.set_ {w : World} {g c : Nat} {l : List Int} (h : Wb w g c l) (k : Nat) (x : Int) : Wb (w.setCell ⟨g, k, none⟩ (.int .i64 x)) g c (l.set k x) := by
  have := (World.ownsRow.stored h k (.int .i64 x)).1
  unfold Wb
  rw [List.map_set, List.length_set]
  exact this
theorem Wb.frozen {w : World} {g c : Nat} {l : List Int} (h : Wb w g c l) (k : Nat) : w.frozen? ⟨g, k, none⟩ = false := World.ownsRow.frozenAt h k

/-- Erase, of a sector that there is, with power on -/
def eraseIn (fl : Fl) (x : Nat) : Int × Fl :=
  match stepOf (withW fl (fl.worn.set x (fl.worn.getD x 0 + 1))) with
  | (true, f) => (5, ⟨laid f.b (1024 * x) (halfB (cut f.b (1024 * x) 1024) f.pick), f.worn, f.steps, f.left, [], f.dark⟩)
  | (false, f) => (0, withB f (laid f.b (1024 * x) (List.replicate 1024 255)))
def eraseOf (fl : Fl) (s : Int) : Int × Fl :=
  if fl.dark then (5, fl) else if 0 ≤ s ∧ s < fl.worn.length then eraseIn fl s.toNat else (2, fl)

/-- what is asked of a flash's numbers -/
structure FlOk (fl : Fl) : Prop where
  len : fl.b.length = 1024 * fl.worn.length
  few : fl.worn.length ≤ 65536
  worn : ∀ x ∈ fl.worn, 0 ≤ x ∧ x ≤ 4611686018427387904
  s0 : 0 ≤ fl.steps
  s1 : fl.steps ≤ 4611686018427387904
  l0 : -1 ≤ fl.left
  l1 : fl.left ≤ 4611686018427387904
  p : fl.pick.length ≤ 2147483648

def ErasePost (w : World) (g gB gW cB cW N : Nat) (r : Int × Fl) (e : Ending) (w' : World) : Prop :=
  e = .returned (.int .i64 r.1) ∧ RefFl w' g gB gW cB cW N r.2 ∧ Only (FlF g gB gW) w w'

theorem Only.toF {w w' : World} {g gB gW : Nat} {F : Nat → Prop} (h : Only F w w') (hF : ∀ k, F k → k = g ∨ k = gB ∨ k = gW) : Only (FlF g gB gW) w w' := h.mono fun k _ hk => hF k hk

theorem RefFl.below {w w' : World} {g gB gW cB cW N : Nat} {fl : Fl} (h : RefFl w g gB gW cB cW N fl) (hb : Below w.heap.size w w') : RefFl w' g gB gW cB cW N fl :=
  h.only (F := fun _ => False) ⟨hb.os, hb.tape, hb.output, hb.size, fun k hk _ => hb.block k hk⟩ (fun h => h) (fun h => h) (fun h => h) (fun _ _ _ _ h => h)

theorem Ob.fresh {E : TypeId} {w : World} {base : Nat} {A : Option Addr} {n c : Nat} {l : List UInt8} (h : Ob E w base (.slice A n c) l) : ∀ k, At A k → base ≤ k := by
  obtain ⟨A', c', e, _, hf⟩ := h.form
  injection e with e1 e2 e3
  subst e1
  rintro k ⟨a, rfl, rfl⟩
  rcases hf with hf | ⟨g', hf, hle, _⟩
  · cases hf
  · injection hf with hf; subst hf; exact hle

/-- a part of a row of bytes -/
theorem slice_at (u : World) (g o y z n c : Nat) (hyz : y ≤ z) (hzc : z ≤ c) (hne : ¬ c = y) :
    (Instr.slice 30 (.slice (some ⟨g, o, none⟩) n c) (some (.int .i64 (y : Int))) (some (.int .i64 (z : Int))) none).run Try.prog u = .ok (.slice (some ⟨g, o + y, none⟩) (z - y) (c - y)) u := by
  have ht : Try.prog.underlying 30 = some (.slice (Try.prog.elem 30)) := by kernel_rfl
  have hs : ∀ W : World, (sizeOf (Try.prog.elem 30)).run Try.prog W = .ok 1 W := fun W => by kernel_rfl
  rw [run_slice_lh u _ _ _ _ ht _ _ _ _ (by omega) (by omega) (by omega), hs]
  simp only [Result.andThen, sliced, Int.toNat_natCast, if_neg hne, Option.map_some, Nat.mul_one]
  congr 3
  unfold Addr.add
  split <;> simp_all

theorem stepOf_b (f : Fl) : (stepOf f).2.b = f.b ∧ (stepOf f).2.worn = f.worn ∧ (stepOf f).2.pick = f.pick := by
  unfold stepOf
  split
  · exact ⟨rfl, rfl, rfl⟩
  · split <;> exact ⟨rfl, rfl, rfl⟩
theorem rstep_is {g gB gW cB cW N : Nat} {fl f2 : Fl} {t : Bool} {w : World} (h : RefFl w g gB gW cB cW N fl) (H : Hid (stepOf fl = (t, f2))) (hs1 : 0 ≤ fl.steps) (hs2 : fl.steps ≤ 4611686018427387904) (hl1 : -1 ≤ fl.left) (hl2 : fl.left ≤ 4611686018427387904) :
    Calls Try.prog 47 #[.pointer (some ⟨g, 0, none⟩)] w fun e w' => e = .returned (.bool t) ∧ RefFl w' g gB gW cB cW N f2 ∧ Only (fun k => k = g) w w' :=
  (rstep_any h hs1 hs2 hl1 hl2).mono fun e w' ⟨he, hr, ho⟩ => by rw [H.out] at he hr; exact ⟨he, hr, ho⟩

set_option maxRecDepth 100000 in
set_option maxHeartbeats 1600000 in
theorem rerase_in {g gB gW cB cW N : Nat} {fl : Fl} {w : World} (h : RefFl w g gB gW cB cW N fl) (ok : FlOk fl) (x : Nat) (hx : x < fl.worn.length) (hd : fl.dark = false) :
    Calls Try.prog 32 #[.pointer (some ⟨g, 0, none⟩), .int .i64 (x : Int)] w (ErasePost w g gB gW cB cW N (eraseIn fl x)) := by
  obtain ⟨AP, cP, hg, hbp, hap⟩ := h.cells
  obtain ⟨n1, n2, n3⟩ := h.ne
  have c1 : w.cell? ⟨g, 1, none⟩ = some (.slice (some ⟨gW, 0, none⟩) fl.worn.length cW) := by rw [cell_of_row _ _ _ _ _ _ hg]; rfl
  have c5 : w.cell? ⟨g, 5, none⟩ = some (.bool false) := by rw [cell_of_row _ _ _ _ _ _ hg, ← hd]; rfl
  have cx := h.counts.at_ hx
  have fx := h.counts.frozen x
  have hwx : 0 ≤ fl.worn.getD x 0 ∧ fl.worn.getD x 0 ≤ 4611686018427387904 := by
    have := ok.worn fl.worn[x] (List.getElem_mem hx)
    simpa [List.getD, List.getElem?_eq_getElem hx] using this
  unfold eraseIn
  obtain ⟨v, Hv⟩ : ∃ v, Hid (fl.worn.getD x 0 = v) := ⟨_, rfl⟩
  rw [Hv.out] at cx hwx ⊢
  have hst := h.counts.set_ x (v + 1)
  have o1 : Only (fun k => k = gW) w (w.setCell ⟨gW, x, none⟩ (.int .i64 (v + 1))) := Only.setCell (p := ⟨gW, x, none⟩) (Only.refl (fun k => k = gW) w) (.inl rfl) _
  obtain ⟨fl1, Hfl1⟩ : ∃ f, Hid (withW fl (fl.worn.set x (v + 1)) = f) := ⟨_, rfl⟩
  rw [Hfl1.out]
  have h1 : Hid (RefFl (w.setCell ⟨gW, x, none⟩ (.int .i64 (v + 1))) g gB gW cB cW N fl1) := Lib.hid (by
    have := h.withW o1 (l := fl.worn.set x (v + 1)) (by simp) hst
    rw [Hfl1.out] at this
    exact this)
  have O1 := Lib.hid o1
  have hfew := ok.few
  have hlen := ok.len
  obtain ⟨y, hy⟩ : ∃ y : Nat, (x : Int) * 1024 = (y : Int) := ⟨x * 1024, by omega⟩
  have hyb : y + 1024 ≤ fl.b.length := by omega
  have hyx : 1024 * x = y := by omega
  have Hyx := Lib.hid hyx
  have Hlen := Lib.hid hlen
  have OK := Lib.hid ok
  rw [hyx]
  have k0 : 0 ≤ fl1.steps ∧ fl1.steps ≤ 4611686018427387904 ∧ -1 ≤ fl1.left ∧ fl1.left ≤ 4611686018427387904 := by
    rw [← Hfl1.out]; exact ⟨ok.s0, ok.s1, ok.l0, ok.l1⟩
  obtain ⟨k1, k2, k3, k4⟩ := k0
  have hp1 : fl.pick.length ≤ 2147483648 := ok.p
  have hfb : fl1.b = fl.b ∧ fl1.pick = fl.pick := by rw [← Hfl1.out]; exact ⟨rfl, rfl⟩
  obtain ⟨t, f2, Hst⟩ : ∃ t f2, Hid (stepOf fl1 = (t, f2)) := ⟨_, _, rfl⟩
  have hf2 := stepOf_b fl1
  rw [Hst.out] at hf2 ⊢
  obtain ⟨e1, -, e3⟩ := hf2
  have hb2 : Hid (f2.b = fl.b) := e1.trans hfb.1
  have hp2 : Hid (f2.pick = fl.pick) := e3.trans hfb.2
  have hyb2 : y + 1024 ≤ f2.b.length := by rw [hb2.out]; exact hyb
  have hlb2 : f2.b.length ≤ 2147483648 := by rw [hb2.out]; omega
  have hpl2 : f2.pick.length ≤ 2147483648 := by rw [hp2.out]; exact hp1
  obtain ⟨bl, Hbl⟩ : ∃ l, Hid (List.replicate 1024 (255 : UInt8) = l) := ⟨_, rfl⟩
  rw [Hbl.out]
  have HBL : Hid (∀ W : World, Calls Try.prog 29 #[.int .i64 1024] W (RetOb 5 W bl)) := Lib.hid (fun W => by
    refine (rblank_any 1024 W (by omega) (by omega)).mono fun e w' ⟨v, he, ho, hb⟩ => ⟨v, he, ?_, hb⟩
    have e1 : (max 0 (min (1024 : Int) 65536)).toNat = 1024 := by decide
    rw [e1, Hbl.out] at ho
    exact ho)
  have Hbln : Hid (bl.length = 1024) := Lib.hid (by rw [← Hbl.out, List.length_replicate])
  clear hyx hlen ok hst o1 hg hbp hap h e1 e3 hfb
  cases t with
  | false =>
    go_enter Try.func32, Try.ntmps32
    go_wp2_with fail
    refine (rstep_is h1.out Hst k1 k2 k3 k4).mono ?_
    rintro e w1 ⟨rfl, hr, ho⟩
    have O2 : Hid (Only (FlF g gB gW) w w1) := Lib.hid ((O1.out.toF (fun k hk => .inr (.inr hk))).trans (ho.toF (fun k hk => .inl hk)))
    clear ho
    go_wp2_with fail
    obtain ⟨-, zB, -⟩ := hr.blk
    refine (HBL.out _).mono ?_
    rintro e w2 ⟨v2, rfl, ho2, kb2⟩
    obtain ⟨A2, c2, rfl, q2, -⟩ := ho2.form
    have fr2 : ∀ k, At A2 k → k ≠ gB := fun k hk e => by have := ho2.fresh k hk; omega
    clear ho2
    rw [Hbln.out]
    go_wp2_with fail
    have HS := rset_any (hr.below kb2) y A2 bl c2 q2 (fun _ => fr2) (by rw [Hbln.out]; exact hyb2) hlb2
    rw [Hbln.out] at HS
    refine HS.mono ?_
    clear HS
    rintro e w3 ⟨rfl, hr3, ho3⟩
    have O3 : Hid (Only (FlF g gB gW) w w3) := Lib.hid ((O2.out.trans (Only.of_below kb2)).trans (ho3.toF (fun k hk => .inr (.inl hk))))
    go_wp2_with fail
    go_ret
    exact ⟨rfl, hr3, O3.out⟩
  | true =>
    go_enter Try.func32, Try.ntmps32
    go_wp2_with fail
    refine (rstep_is h1.out Hst k1 k2 k3 k4).mono ?_
    rintro e w1 ⟨rfl, hr, ho⟩
    have O2 : Hid (Only (FlF g gB gW) w w1) := Lib.hid ((O1.out.toF (fun k hk => .inr (.inr hk))).trans (ho.toF (fun k hk => .inl hk)))
    clear ho
    obtain ⟨AP, cP, hg, hbp, hap⟩ := hr.cells
    have c0 : w1.cell? ⟨g, 0, none⟩ = some (.slice (some ⟨gB, 0, none⟩) f2.b.length cB) := by rw [cell_of_row _ _ _ _ _ _ hg]; rfl
    have c4 : w1.cell? ⟨g, 4, none⟩ = some (.slice AP f2.pick.length cP) := by rw [cell_of_row _ _ _ _ _ _ hg]; rfl
    have hbB := hr.bytes.bs
    have hcapB : f2.b.length ≤ cB := by
      rcases hr.bytes.2 with ⟨h', _⟩ | ⟨g', cap, cur, e, _, _, hnc, _⟩
      · simp at h'
      · injection e with e1 e2 e3; subst e3; exact hnc
    clear hg
    have L0 : ∀ W, Only (fun k => k = gB) w1 W → W.cell? ⟨g, 0, none⟩ = some (.slice (some ⟨gB, 0, none⟩) f2.b.length cB) := fun W hW => by
      rw [World.cell?_of_block (hW.block g (World.block_lt_of_cell? w1 _ c0) n1)]; exact c0
    have L4 : ∀ W, Only (fun k => k = gB) w1 W → W.cell? ⟨g, 4, none⟩ = some (.slice AP f2.pick.length cP) := fun W hW => by
      rw [World.cell?_of_block (hW.block g (World.block_lt_of_cell? w1 _ c0) n1)]; exact c4
    go_wp2_with fail
    obtain ⟨z, hz⟩ : ∃ z : Nat, z = y + 1024 := ⟨_, rfl⟩
    have z1 : (y : Int) + 1024 = (z : Int) := by omega
    have z2 : IntKind.i64.wrap ((y : Int) + 1024) = (z : Int) := by rw [z1]; exact IntWalk.i64_in _ (by omega)
    have z3 : ¬ cB = y := by omega
    have z9 : IntKind.i64.wrap (z : Int) = (z : Int) := IntWalk.i64_in _ (by omega)
    have z4 : (z : Int) ≤ (cB : Int) := by omega
    have z5 : (y : Int) ≤ (z : Int) := by omega
    have z6 : z ≤ cB := by omega
    have z7 : y ≤ z := by omega
    have z8 : z ≤ f2.b.length := by omega
    have Hz := Lib.hid hz
    have Hyb := Lib.hid hyb
    have Hyb2 := Lib.hid hyb2
    clear hz hyb hyb2 hy
    have zs : ∀ W : World, (Instr.slice 30 (.slice (some ⟨gB, 0, none⟩) f2.b.length cB) (some (.int .i64 (y : Int))) (some (.int .i64 (z : Int))) none).run Try.prog W = .ok (.slice (some ⟨gB, y, none⟩) (z - y) (cB - y)) W := fun W => by
      have := slice_at W gB 0 y z f2.b.length cB z7 z6 z3
      rwa [Nat.zero_add] at this
    have hcl : Hid (z - y = (cut f2.b y 1024).length) := Lib.hid (by rw [cut_len (by have := Hyb2.out; omega), Hz.out]; omega)
    have hbc : Hid (Bs w1 (some ⟨gB, y, none⟩) (cut f2.b y 1024)) := hbB.cut Hyb2.out
    have HH : Hid (∀ W, W = w1.drew → Calls Try.prog 50 #[.slice (some ⟨gB, y, none⟩) (z - y) (cB - y), .slice AP f2.pick.length cP] W (RetOb 5 W (halfB (cut f2.b y 1024) f2.pick))) := Lib.hid (fun W hW => by
      subst hW
      rw [hcl.out]
      exact rhalf_any _ _ _ _ _ _ _ hbc.out hbp (by rw [← hcl.out]; omega) hpl2)
    have Hr := Lib.hid hr
    have zB : Hid (gB < w1.heap.size) := hr.blk.2.1
    have hhl : Hid ((halfB (cut f2.b y 1024) f2.pick).length = 1024) := Lib.hid (by rw [halfB_len, cut_len Hyb2.out])
    obtain ⟨hv, HV⟩ : ∃ l, Hid (halfB (cut f2.b y 1024) f2.pick = l) := ⟨_, rfl⟩
    rw [HV.out] at HH hhl ⊢
    clear hbB hbp hap hr
    go_region_held3 (fun W => Only (fun k => k = gB) w1 W) (first | assumption | exact Only.drew (Only.refl _ _)) (first
      | (go_at_call 50; refine (HH.out _ rfl).mono ?_; rintro e w4 ⟨v4, rfl, ho4, hb4⟩; obtain ⟨A4, c4', rfl, hbs4, hf4⟩ := ho4.form; have kb4 : Only (fun k => k = gB) w1 w4 := Only.of_below ⟨hb4.os, hb4.tape, hb4.output, hb4.size, hb4.block⟩)
      | (go_at_call 48; refine (rset_any (Hr.out.below ⟨hb4.os, hb4.tape, hb4.output, hb4.size, hb4.block⟩) y A4 hv c4' hbs4 (fun _ k hk e => by have := ho4.fresh k hk; have : gB < w1.drew.heap.size := zB.out; omega) (by rw [hhl.out]; exact Hyb2.out) hlb2).mono ?_; rintro e w5 ⟨rfl, hr5, ho5⟩; have kb5 : Only (fun k => k = gB) w1 w5 := kb4.trans ho5))
    obtain ⟨AP5, cP5, hg5, -, -⟩ := hr5.cells
    have c45 : w5.cell? ⟨g, 4, none⟩ = some (.slice AP5 f2.pick.length cP5) := by rw [cell_of_row _ _ _ _ _ _ hg5]; rfl
    have f45 : w5.frozen? ⟨g, 4, none⟩ = false := frozen_of_row w5 g 4 _ _ hg5
    have o6 : Only (fun k => k = g) w5 (w5.setCell ⟨g, 4, none⟩ (.slice none 0 0)) := Only.setCell (p := ⟨g, 4, none⟩) (Only.refl (fun k => k = g) w5) (.inl rfl) _
    have HP : Hid (ErasePost w g gB gW cB cW N (5, ⟨laid f2.b y hv, f2.worn, f2.steps, f2.left, [], f2.dark⟩) (.returned (.int .i64 5)) (w5.setCell ⟨g, 4, none⟩ (.slice none 0 0))) := Lib.hid
      ⟨rfl, hr5.upd (AP := none) (cP := 0) (p := []) o6 (Bs.nil_ _ _) (by rintro k ⟨a, e, _⟩; cases e) (heap_setCell_same _ _ _ _ _ _ hg5), (O2.out.trans (kb5.toF (fun k hk => .inr (.inl hk)))).trans (o6.toF (fun k hk => .inl hk))⟩
    clear hg5 o6 kb5 kb4 ho5 hr5 L0 L4 hb4 ho4 hbs4
    go_wp2_with fail
    go_ret
    rw [HV.out]
    exact HP.out

set_option maxHeartbeats 400000 in
theorem rerase_any {g gB gW cB cW N : Nat} {fl : Fl} {w : World} (h : RefFl w g gB gW cB cW N fl) (ok : FlOk fl) (s : Int) :
    Calls Try.prog 32 #[.pointer (some ⟨g, 0, none⟩), .int .i64 s] w (ErasePost w g gB gW cB cW N (eraseOf fl s)) := by
  unfold eraseOf
  cases hd : fl.dark with
  | true =>
    rw [if_pos rfl]
    obtain ⟨AP, cP, hg, -, -⟩ := h.cells
    have c5 : w.cell? ⟨g, 5, none⟩ = some (.bool true) := by rw [cell_of_row _ _ _ _ _ _ hg, ← hd]; rfl
    clear hg hd
    go_enter Try.func32, Try.ntmps32
    go_wp2_with fail
    go_ret
    exact ⟨rfl, h, Only.refl _ _⟩
  | false =>
    rw [if_neg (by simp)]
    by_cases hin : 0 ≤ s ∧ s < fl.worn.length
    · rw [if_pos hin]
      obtain ⟨x, rfl⟩ := Int.eq_ofNat_of_zero_le hin.1
      rw [Int.toNat_natCast]
      exact rerase_in h ok x (by omega) hd
    · rw [if_neg hin]
      obtain ⟨AP, cP, hg, -, -⟩ := h.cells
      have c5 : w.cell? ⟨g, 5, none⟩ = some (.bool false) := by rw [cell_of_row _ _ _ _ _ _ hg, ← hd]; rfl
      have c1 : w.cell? ⟨g, 1, none⟩ = some (.slice (some ⟨gW, 0, none⟩) fl.worn.length cW) := by rw [cell_of_row _ _ _ _ _ _ hg]; rfl
      clear hg hd
      by_cases hs : s < 0
      · clear hin
        go_enter Try.func32, Try.ntmps32
        go_wp2_with fail
        go_ret
        exact ⟨rfl, h, Only.refl _ _⟩
      · have hs2 : (fl.worn.length : Int) ≤ s := by omega
        clear hin
        go_enter Try.func32, Try.ntmps32
        go_wp2_with fail
        go_ret
        exact ⟨rfl, h, Only.refl _ _⟩
end Go.Proofs.Ytlnpfndjdilfhaa
