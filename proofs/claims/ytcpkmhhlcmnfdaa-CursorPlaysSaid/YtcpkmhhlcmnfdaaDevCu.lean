/- The contracts of the program's cursor: clean, prepare, program, add. -/
import Derived.Test.YtcpkmhhlcmnfdaaCuMem
namespace Go.Proofs.Ytcpkmhhlcmnfdaa
open Go.RowKit
set_option linter.unusedVariables false
set_option maxRecDepth 100000

set_option maxHeartbeats 1600000 in
theorem cclean_any {g gB gW cB cW N : Nat} {d : Dl} {w : World} (h : DevFl w g gB gW cB cW N d) (ok : DlOk d) (a c : Nat) (ha : a ≤ 65536) (hc : c ≤ 65536) (hrg : (a + c) * 1024 ≤ d.b.length) (s : Int) (s1 : -9223372036854775808 ≤ s) (s2 : s ≤ 9223372036854775807) :
    Calls Try.prog 62 #[.agg #[.pointer (some ⟨g, 0, none⟩), .int .i64 (a : Int), .int .i64 (c : Int)], .int .i64 s] w (DErasePost w g gB gW cB cW N (dgClean d a c s)) := by
  have hlen : d.b.length ≤ 2147483648 := by have := ok.len; have := ok.few; omega
  have hcell := box_cells w (.pointer (some ⟨g, 0, none⟩)) (.int .i64 (a : Int)) (.int .i64 (c : Int)) 35
  have hb0 : Below w.heap.size w (w.alloc (.cells #[.pointer (some ⟨g, 0, none⟩), .int .i64 (a : Int), .int .i64 (c : Int)] 35)) := (Below.refl _ _).alloc (Nat.le_refl _) _
  have HB0 := Lib.hid hb0
  have H0 := Lib.hid (h.below hb0)
  have HCELL := Lib.hid hcell
  have HOK := Lib.hid ok
  have hbl := dgblank_any H0.out a c ha hc s s1 s2 hlen hrg
  unfold dgClean
  obtain ⟨q, e, Hr⟩ : ∃ q e, Hid (dgBlank d a c s = (q, e)) := ⟨_, _, rfl⟩
  rw [Hr.out] at hbl ⊢
  have HBL := Lib.hid hbl
  clear h hb0 hcell hbl ok
  by_cases hq : e ≠ 0 ∨ q = true
  · have hif : (if (q, e).2 ≠ 0 ∨ (q, e).1 = true then ((q, e).2, d) else dgErase d a c s) = (e, d) := if_pos hq
    rw [hif]
    clear hif
    go_enter Try.func62, Try.ntmps62
    go_wp2_with fail
    (with_reducible refine HBL.out.mono ?_)
    rintro e2 w2 ⟨rfl, hb2⟩
    have HF2 := Lib.hid (H0.out.below hb2)
    have HB2 := Lib.hid (below_on HB0.out hb2)
    clear hb2
    by_cases he : e = 0
    · have hqt : q = true := by rcases hq with h | h; exact absurd he h; exact h
      subst he
      subst hqt
      go_wp2_with fail
      go_ret
      exact ⟨rfl, HF2.out, Only.of_below HB2.out⟩
    · have he2 : (e == 0) = false := by simpa using he
      clear hq
      go_wp2_with fail
      go_ret
      exact ⟨rfl, HF2.out, Only.of_below HB2.out⟩
  · obtain ⟨rfl, rfl⟩ : e = 0 ∧ q = false := ⟨by omega, by cases q <;> simp_all⟩
    have hif : (if (false, (0 : Int)).2 ≠ 0 ∨ (false, (0 : Int)).1 = true then ((false, (0 : Int)).2, d) else dgErase d a c s) = dgErase d a c s := if_neg (by simp)
    rw [hif]
    clear hif hq
    obtain ⟨kc, f', Hf⟩ : ∃ kc f', Hid (dgErase d a c s = (kc, f')) := ⟨_, _, rfl⟩
    rw [Hf.out]
    go_enter Try.func62, Try.ntmps62
    go_wp2_with fail
    (with_reducible refine HBL.out.mono ?_)
    rintro e2 w2 ⟨rfl, hb2⟩
    have HF2 := Lib.hid (H0.out.below hb2)
    have HB2 := Lib.hid (below_on HB0.out hb2)
    obtain ⟨m0, m1, m2⟩ := HCELL.out w2 hb2
    clear hb2
    have her := dgerase_any HF2.out HOK.out a c ha hc s s1 s2
    rw [Hf.out] at her
    have HER := Lib.hid her
    clear her
    go_wp2_with fail
    (with_reducible refine HER.out.mono ?_)
    rintro e3 w3 ⟨rfl, hf3, ho3⟩
    have HF3 := Lib.hid hf3
    have HO3 := Lib.hid ((Only.of_below HB2.out).trans ho3)
    clear hf3 ho3
    go_wp2_with fail
    go_ret
    exact ⟨rfl, HF3.out, HO3.out⟩

/-- what is to be picked is not made more -/
theorem pick_step (d : Dl) : (dstepOf d).2.pick.length ≤ d.pick.length := by
  unfold dstepOf
  split
  · split
    · exact Nat.le_refl _
    · simp
  · exact Nat.le_refl _
theorem pick_word (d : Dl) (a : Nat) (m : List UInt8) : (dwordOf d a m).2.pick.length ≤ d.pick.length := by
  have h := pick_step d
  unfold dwordOf
  split
  · rename_i p f e; rw [e] at h; exact h
  · rename_i f e; rw [e] at h; exact h
theorem pick_progTo (d : Dl) (a : Nat) (m : List UInt8) : ∀ k, (dprogTo d a m k).2.pick.length ≤ d.pick.length
  | 0 => Nat.le_refl _
  | k + 1 => by
    have ih := pick_progTo d a m k
    unfold dprogTo
    split
    · exact Nat.le_trans (pick_word _ _ _) ih
    · exact ih
theorem pick_prog (d : Dl) (a c : Nat) (t : Int) (m : List UInt8) : (dgProg d a c t m).2.pick.length ≤ d.pick.length := by
  unfold dgProg dprogOf
  repeat (first | exact Nat.le_refl _ | exact pick_progTo _ _ _ _ | split)
theorem pick_erase (d : Dl) (a c : Nat) (s : Int) : (dgErase d a c s).2.pick.length ≤ d.pick.length := by
  have hin : ∀ x, (deraseIn d x).2.pick.length ≤ d.pick.length := fun x => by
    have h := pick_step (dwithW d (d.worn.set x (d.worn.getD x 0 + 1)))
    unfold deraseIn
    split
    · rename_i p f e; rw [e] at h; exact h
    · rename_i f e; rw [e] at h; exact h
  unfold dgErase deraseOf
  repeat (first | exact hin _ | exact Nat.le_refl _ | split)
theorem pick_clean (d : Dl) (a c : Nat) (s : Int) : (dgClean d a c s).2.pick.length ≤ d.pick.length := by
  unfold dgClean
  split
  · exact Nat.le_refl _
  · exact pick_erase d a c s

def OwnF (fa : FA) (g : Nat) (j : Nat) : Prop := fa.F j ∨ j = g
structure CPost (w : World) (fa : FA) (G g a c n : Nat) (wd : Nat → UInt8) (hl : Nat) (dead : Int) (r : Int × Cp Dl) (e : Ending) (w' : World) : Prop where
  ret : e = .returned (.int .i64 r.1)
  fl : FlIn fa G w' r.2.d
  cu : CuM w' g fa.g a c n r.2.hi wd hl dead
  only : Only (OwnF fa g) w w'

def aheadOf (g : Nat) (w : World) : Nat := match w.cell? ⟨g, 13, none⟩ with | some (.int _ n) => n.toNat | _ => 0
theorem aheadOf_eq {w : World} {g gf a c n hi : Nat} {wd : Nat → UInt8} {hl : Nat} {dead : Int} (u : CuM w g gf a c n hi wd hl dead) : aheadOf g w = hi := by
  unfold aheadOf
  rw [u.c13]
  simp

theorem FlIn.apart {fa : FA} {G : Nat} {w w' : World} {d : Dl} (h : FlIn fa G w d) {F : Nat → Prop} (ho : Only F w w') (hF : ∀ j, F j → ¬ fa.F j ∧ j ≤ G) : FlIn fa G w' d := by
  obtain ⟨N, h, hp⟩ := h
  obtain ⟨AP, cP, hg, hbp, hap⟩ := h.cells
  have n1 : ¬ F fa.g := fun e => (hF _ e).1 (.inl rfl)
  have n2 : ¬ F fa.gB := fun e => (hF _ e).1 (.inr (.inl rfl))
  have n3 : ¬ F fa.gW := fun e => (hF _ e).1 (.inr (.inr rfl))
  refine ⟨N, ⟨⟨AP, cP, by rw [ho.block fa.g (Array.getElem?_eq_some_iff.1 hg).1 n1]; exact hg, ?_, hap⟩, h.bytes.only ho ?_, h.counts.only ho n3⟩, hp⟩
  · intro hl
    exact hbp.only ho (fun k hk e => by have := hp hl; have := (hap k hk).2.2.2; have := (hF k e).2; omega) hl
  · rintro k ⟨a, e, rfl⟩
    injection e with e
    subst e
    exact n2
theorem FlIn.own {fa : FA} {G g : Nat} {w w' : World} {d : Dl} (h : FlIn fa G w d) (hq : ¬ fa.F g) (hG : g ≤ G) (ho : Only (fun k => k = g) w w') : FlIn fa G w' d := h.apart ho fun j e => by subst e; exact ⟨hq, hG⟩
theorem FlIn.below {fa : FA} {g : Nat} {w w' : World} {d : Dl} (h : FlIn fa g w d) (hb : Below w.heap.size w w') : FlIn fa g w' d := by
  obtain ⟨N, h, hp⟩ := h
  exact ⟨N, h.below hb, hp⟩
theorem FlIn.blk {fa : FA} {g : Nat} {w : World} {d : Dl} (h : FlIn fa g w d) : ∀ j, fa.F j → j < w.heap.size := by
  obtain ⟨N, h, hp⟩ := h
  obtain ⟨b1, b2, b3⟩ := h.blk
  rintro j (rfl | rfl | rfl) <;> omega
theorem fl_post {fa : FA} {g : Nat} {w : World} {d d' : Dl} (hpk : d'.pick.length ≤ d.pick.length) {N : Nat} (hp : 0 < d.pick.length → g < N) {r : Int} {e : Ending} {w' : World} (h : DErasePost w fa.g fa.gB fa.gW fa.cB fa.cW N (r, d') e w') :
    e = .returned (.int .i64 r) ∧ FlIn fa g w' d' ∧ Only fa.F w w' := ⟨h.1, ⟨N, h.2.1, fun q => hp (by omega)⟩, h.2.2⟩
theorem fl_clean {fa : FA} {g : Nat} {w : World} {d : Dl} (h : FlIn fa g w d) (ok : DlOk d) (a c : Nat) (ha : a ≤ 65536) (hc : c ≤ 65536) (hrg : (a + c) * 1024 ≤ d.b.length) (s : Int) (s1 : -9223372036854775808 ≤ s) (s2 : s ≤ 9223372036854775807) :
    Calls Try.prog 62 #[.agg #[.pointer (some ⟨fa.g, 0, none⟩), .int .i64 (a : Int), .int .i64 (c : Int)], .int .i64 s] w fun e w' => e = .returned (.int .i64 (dgClean d a c s).1) ∧ FlIn fa g w' (dgClean d a c s).2 ∧ Only fa.F w w' := by
  obtain ⟨N, h, hp⟩ := h
  exact (cclean_any h ok a c ha hc hrg s s1 s2).mono fun e w' hpost => fl_post (pick_clean d a c s) hp hpost
theorem fl_prog {fa : FA} {g : Nat} {w : World} {d : Dl} (h : FlIn fa g w d) (ok : DlOk d) (a c : Nat) (ha : a ≤ 65536) (hc : c ≤ 65536) (t : Int) (t1 : -9223372036854775808 ≤ t) (t2 : t ≤ 9223372036854775807)
    (A : Option Addr) (m : List UInt8) (z : Nat) (hm : Bs w A m) (hA : Off fa.F A m) (hz : m.length ≤ z) (hmz : m.length ≤ 2147483648) (hst : d.steps + m.length ≤ 4611686018427387904) :
    Calls Try.prog 57 #[.agg #[.pointer (some ⟨fa.g, 0, none⟩), .int .i64 (a : Int), .int .i64 (c : Int)], .int .i64 t, .slice A m.length z] w fun e w' => e = .returned (.int .i64 (dgProg d a c t m).1) ∧ FlIn fa g w' (dgProg d a c t m).2 ∧ Only fa.F w w' := by
  obtain ⟨N, h, hp⟩ := h
  exact (dgprog_any h ok a c ha hc t t1 t2 A m z hm hA hz hmz hst).mono fun e w' hpost => fl_post (pick_prog d a c t m) hp hpost

set_option maxHeartbeats 3200000 in
theorem cprepare_any {fa : FA} {G g a c n : Nat} {wd : Nat → UInt8} {hl : Nat} {dead : Int} {w : World} {x : Cp Dl} (hf : FlIn fa G w x.d) (hG : g ≤ G) (rm : Room x.d 2) (hu : CuM w g fa.g a c n x.hi wd hl dead) (hout : ¬ fa.F g) (s : Nat) (hs : s < c) (hsx : s ≤ x.hi) (ha : a ≤ 65536) (hc : c ≤ 65536) (hlen : (a + c) * 1024 ≤ x.d.b.length) :
    Calls Try.prog 56 #[.pointer (some ⟨g, 0, none⟩), .int .i64 (s : Int)] w (CPost w fa G g a c n wd hl dead (preps a c (min (s + 2) c - x.hi) x)) := by
  obtain ⟨E, HE⟩ : ∃ E, Hid (min (s + 2) c = E) := ⟨_, rfl⟩
  rw [HE.out]
  have hE : E ≤ 65536 := by have := HE.out; omega
  have hm : (if (c : Int) < (s : Int) + 2 then (c : Int) else (s : Int) + 2) = (E : Int) := by
    have := HE.out
    split <;> omega
  have hEx : E - x.hi ≤ 2 := by have := HE.out; omega
  have hq : (c : Int) * 1024 / 1024 = (c : Int) := by omega
  have k0 := hu.c0
  have k1 := hu.c1
  have k2 := hu.c2
  have HU := Lib.hid hu
  have HF := Lib.hid hf
  have RM := Lib.hid rm
  have HLEN := Lib.hid hlen
  clear hu hf rm hlen
  go_enter Try.func56, Try.ntmps56
  go_wp2_with fail
  refine (dgsize_any _ _ c _ hc).mono ?_
  rintro e w1 ⟨rfl, hb1⟩
  have HU1 := Lib.hid (HU.out.below hb1)
  have HF1 := Lib.hid (HF.out.below hb1)
  have HO1 : Hid (Only (OwnF fa g) w w1) := Lib.hid (Only.of_below hb1)
  clear k0 k1 k2 hb1
  go_wp2_with fail
  go_loopw [] (fun wr => ∃ (y : Cp Dl) (k : Nat), y.hi + k = max x.hi E ∧ x.hi ≤ y.hi ∧ k ≤ 2 ∧ Hid (preps a c (E - x.hi) x = preps a c k y) ∧ Hid (Room y.d (k : Int)) ∧ Hid (FlIn fa G wr y.d) ∧ Hid (CuM wr g fa.g a c n y.hi wd hl dead) ∧ Hid (Only (OwnF fa g) w wr) ∧ Hid ((a + c) * 1024 ≤ y.d.b.length)) (fun wr => E - aheadOf g wr)
  case atStart => exact ⟨x, E - x.hi, by omega, Nat.le_refl _, hEx, rfl, Lib.hid (RM.out.less (by omega)), HF1, HU1, HO1, HLEN⟩
  case round =>
    obtain ⟨y, k, hyk, hxy, hk2, HP, HR, HFy, HUy, HOy, HLy⟩ := hrel
    have k13 := HUy.out.c13
    by_cases hlt : y.hi < E
    · obtain ⟨j, rfl⟩ : ∃ j, k = j + 1 := ⟨k - 1, by omega⟩
      have hE2 : y.hi ≤ 65536 := by omega
      have L0 : ∀ W, Only fa.F wr W → W.cell? ⟨g, 0, none⟩ = some (.pointer (some ⟨fa.g, 0, none⟩)) := fun W hW => (HUy.out.only hW hout).c0
      have L1 : ∀ W, Only fa.F wr W → W.cell? ⟨g, 1, none⟩ = some (.int .i64 (a : Int)) := fun W hW => (HUy.out.only hW hout).c1
      have L2 : ∀ W, Only fa.F wr W → W.cell? ⟨g, 2, none⟩ = some (.int .i64 (c : Int)) := fun W hW => (HUy.out.only hW hout).c2
      have L13 : ∀ W, Only fa.F wr W → W.cell? ⟨g, 13, none⟩ = some (.int .i64 (y.hi : Int)) := fun W hW => (HUy.out.only hW hout).c13
      have hcl := fl_clean (HFy.out.below (Below.refl _ _).drew) HR.out.ok a c ha hc HLy.out (y.hi : Int) (by omega) (by omega)
      have hrm := HR.out
      have hcn := clean_cn (a := a) (c := c) (s := (y.hi : Int)) (HR.out.less (n := 1) (by omega))
      have hbl := hcn.blen HR.out.ok
      have ej : ((j + 1 : Nat) : Int) = 1 + (j : Int) := by omega
      rw [ej] at hrm
      have hrm2 : Room (dgClean y.d a c (y.hi : Int)).2 (j : Int) := Room.after (k := 1) (n := (j : Int)) hrm hcn
      have hnext : preps a c (j + 1) y = if (dgClean y.d a c (y.hi : Int)).1 ≠ 0 then ((dgClean y.d a c (y.hi : Int)).1, ⟨(dgClean y.d a c (y.hi : Int)).2, y.hi, y.ent⟩) else preps a c j ⟨(dgClean y.d a c (y.hi : Int)).2, y.hi + 1, y.ent⟩ := rfl
      obtain ⟨rc, rd, Hr⟩ : ∃ rc rd, Hid (dgClean y.d a c (y.hi : Int) = (rc, rd)) := ⟨_, _, rfl⟩
      rw [Hr.out] at hcl hbl hrm2 hnext
      dsimp only at hcl hbl hrm2 hnext
      have HCL := Lib.hid hcl
      have HRM2 := Lib.hid hrm2
      have HBL : Hid ((a + c) * 1024 ≤ rd.b.length) := Lib.hid (by rw [hbl]; exact HLy.out)
      have HNX := Lib.hid hnext
      have hS0 : Only fa.F wr wr := Only.refl _ _
      have HUr : Hid (∀ W, Only fa.F wr W → CuM W g fa.g a c n y.hi wd hl dead) := Lib.hid fun W hW => HUy.out.only hW hout
      clear hcl hbl hrm2 hnext hcn hrm ej
      by_cases hrc : rc = 0
      · subst hrc
        go_wp2_with fail
        go_region_held3 (fun W => Only fa.F wr W) (first | assumption | exact Only.drew (by assumption)) (first
          | (go_at_call 62; (with_reducible refine HCL.out.mono ?_); rintro e w4 ⟨rfl, hd4, ho4⟩; have HD4 := Lib.hid hd4; have kS := Only.trans (by assumption) ho4; clear hd4 ho4))
        have m13 := L13 w4 kS
        have fr13 := (HUr.out w4 kS).fr 13
        have hu5 := (HUr.out w4 kS).setHi (y.hi + 1)
        rw [show ((y.hi + 1 : Nat) : Int) = (y.hi : Int) + 1 by omega] at hu5
        have ho5 := (Only.refl (fun k => k = g) w4).own 13 (.int .i64 ((y.hi : Int) + 1))
        have HF5 := Lib.hid (HD4.out.own hout hG ho5)
        have HO5 : Hid (Only (OwnF fa g) w _) := Lib.hid ((HOy.out.trans (kS.mono fun _ _ h => .inl h)).trans (ho5.mono fun _ _ h => .inr h))
        have HU5 := Lib.hid hu5
        clear hu5 ho5
        go_wp2_with fail
        go_roundw
        case rel => exact ⟨⟨rd, y.hi + 1, y.ent⟩, j, by dsimp only; omega, by dsimp only; omega, by omega, Lib.hid (by rw [HP.out, HNX.out, if_neg (by simp)]), HRM2, HF5, HU5, HO5, HBL⟩
        case measure => rw [aheadOf_eq HU5.out, aheadOf_eq HUy.out]; omega
      · have hrc2 : (rc == 0) = false := by simpa using hrc
        go_wp2_with fail
        go_region_held3 (fun W => Only fa.F wr W) (first | assumption | exact Only.drew (by assumption)) (first
          | (go_at_call 62; (with_reducible refine HCL.out.mono ?_); rintro e w4 ⟨rfl, hd4, ho4⟩; have HD4 := Lib.hid hd4; have kS := Only.trans (by assumption) ho4; clear hd4 ho4))
        have HUe := Lib.hid (HUr.out w4 kS)
        have HOe : Hid (Only (OwnF fa g) w w4) := Lib.hid (HOy.out.trans (kS.mono fun _ _ h => .inl h))
        clear kS
        go_wp2_with fail
        go_ret
        rw [HP.out, HNX.out, if_pos hrc]
        exact ⟨rfl, HD4.out, HUe.out, HOe.out⟩
    · have hk0 : k = 0 := by omega
      subst hk0
      go_wp2_with fail
      go_ret
      rw [HP.out]
      exact ⟨rfl, HFy.out, HUy.out, HOy.out⟩

structure AddPost (w : World) (g gf a c n hi : Nat) (wd : Nat → UInt8) (hl : Nat) (dead : Int) (x : UInt8) (e : Ending) (w' : World) : Prop where
  ret : e = .returned (.tuple #[])
  cu : CuM w' g gf a c (n + 1) hi (fun i => if i = hl then x else wd i) (hl + 1) dead
  only : Only (fun k => k = g) w w'

set_option maxHeartbeats 1600000 in
theorem cadd_any {g gf a c n hi : Nat} {wd : Nat → UInt8} {hl : Nat} {dead : Int} {w : World} (hu : CuM w g gf a c n hi wd hl dead) (h8 : hl < 8) (hn : n ≤ 67108864) (x : UInt8) :
    Calls Try.prog 46 #[.pointer (some ⟨g, 0, none⟩), .int .u8 (x.toNat : Int)] w (AddPost w g gf a c n hi wd hl dead x) := by
  have k3 := hu.c3
  have kw : w.cell? ⟨g, 4 + hl, none⟩ = some (.int .u8 ((wd hl).toNat : Int)) := hu.cw h8
  have h8' : (hl : Int) < 8 := by omega
  have k12 := hu.c12
  have f3 := hu.fr 3
  have fw := hu.fr (4 + hl)
  have f12 := hu.fr 12
  have hu1 := hu.setW h8 x
  have hu2 := hu1.setH (hl + 1)
  have hu3 := hu2.setN (n + 1)
  rw [show ((hl + 1 : Nat) : Int) = (hl : Int) + 1 by omega] at hu2 hu3
  rw [show ((n + 1 : Nat) : Int) = (n : Int) + 1 by omega] at hu3
  have ho : Only (fun k => k = g) w _ := (((Only.refl (fun k => k = g) w).own (4 + hl) (bval x)).own 12 (.int .i64 ((hl : Int) + 1))).own 3 (.int .i64 ((n : Int) + 1))
  have HU3 := Lib.hid hu3
  have HO := Lib.hid ho
  clear hu hu1 hu2 hu3 ho
  go_enter Try.func46, Try.ntmps46
  go_wp2_with fail
  go_region
  all_goals
    go_wp2_with fail
    go_end0
    exact ⟨rfl, HU3.out.below (Below.refl _ _).drew, HO.out.drew⟩
end Go.Proofs.Ytcpkmhhlcmnfdaa

