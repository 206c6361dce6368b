/- The contracts of the program's cursor: program, At, Held, Write, Flush. -/
import Derived.Test.YtcpkmhhlcmnfdaaDevCu
namespace Go.Proofs.Ytcpkmhhlcmnfdaa
open Go.RowKit
set_option linter.unusedVariables false
set_option maxRecDepth 100000

set_option maxHeartbeats 3200000 in
theorem cprogram_any {fa : FA} {G g a c n : Nat} {wd : Nat → UInt8} {hl : Nat} {dead : Int} {w : World} {x : Cp Dl} (hf : FlIn fa G w x.d) (hG : g ≤ G) (rm : Room x.d 10) (hu : CuM w g fa.g a c n x.hi wd hl dead) (hout : ¬ fa.F g) (hhl : hl ≤ n) (hnb : n ≤ 67108864) (hn : n - hl < c * 1024) (hrd : Ready c x ((n - hl) / 1024))
    (ha : a ≤ 65536) (hc : c ≤ 65536) (hlen : (a + c) * 1024 ≤ x.d.b.length) (A : Option Addr) (m : List UInt8) (k : Nat) (hm8 : m.length = 8) (hk : 8 ≤ k) (hm : ∀ W hi', CuM W g fa.g a c n hi' wd hl dead → Only (OwnF fa g) w W → Bs W A m) (hA : ∀ j, At A j → ¬ fa.F j) :
    Calls Try.prog 47 #[.pointer (some ⟨g, 0, none⟩), .slice A 8 k] w (CPost w fa G g a c n wd hl (cword (devOps a c) x (n - hl) m).1 (cword (devOps a c) x (n - hl) m)) := by
  obtain ⟨b, Hb⟩ : ∃ b, Hid (n - hl = b) := ⟨_, rfl⟩
  have hbn : (n : Int) - (hl : Int) = (b : Int) := by have := Hb.out; omega
  have hnz : b ≤ 67108864 := by have := Hb.out; omega
  rw [Hb.out] at hn hrd ⊢
  obtain ⟨s, hs⟩ : ∃ s, b / 1024 = s := ⟨_, rfl⟩
  have hq : (b : Int) / 1024 = (s : Int) := by omega
  rw [hs] at hrd
  have hsc : s < c := by omega
  have k3 := hu.c3
  have k12 := hu.c12
  have bd : Below w.heap.size w w.drew := (Below.refl _ _).drew
  have hpp := cprepare_any (hf.below bd) hG (rm.less (by omega)) (hu.below bd) hout s hsc hrd.hi ha hc hlen
  obtain ⟨e1, e2, e3, -⟩ := preps_center (a := a) hrd hsc
  have hcn := enter_cn (a := a) (c := c) (rm.less (n := 2) (by omega)) s
  have hr8 : Room (center (devOps a c) x s).2.d 8 := Room.after (k := 2) (n := 8) rm hcn
  have hbl := hcn.blen rm.ok
  have hwd : cword (devOps a c) x b m = cprog (devOps a c) (center (devOps a c) x s) b m := by unfold cword; rw [hs]
  rw [hwd]
  obtain ⟨pc, px, Hp⟩ : ∃ pc px, Hid (preps a c (min (s + 2) c - x.hi) x = (pc, px)) := ⟨_, _, rfl⟩
  obtain ⟨cc, cx, Hc⟩ : ∃ cc cx, Hid (center (devOps a c) x s = (cc, cx)) := ⟨_, _, rfl⟩
  rw [Hp.out] at hpp e1 e2 e3
  rw [Hc.out] at e1 e2 e3 hr8 hbl ⊢
  dsimp only at e1 e2 e3 hr8 hbl
  subst e1
  have HPP := Lib.hid hpp
  have HR8 := Lib.hid hr8
  have HE2 := Lib.hid e2
  have HE3 := Lib.hid e3
  have HBL : Hid ((a + c) * 1024 ≤ cx.d.b.length) := Lib.hid (by rw [hbl]; exact hlen)
  have HM := Lib.hid hm
  have HA := Lib.hid hA
  have HM8 := Lib.hid hm8
  clear hf rm hu hrd hpp e2 e3 hcn hr8 hbl hwd hm hA hm8 hlen hs
  by_cases hcc : cc = 0
  · subst hcc
    have hif : cprog (devOps a c) (0, cx) b m = ((dgProg cx.d a c (b : Int) m).1, ⟨(dgProg cx.d a c (b : Int) m).2, cx.hi, cx.ent⟩) := by unfold cprog; rw [if_neg (by simp)]; rfl
    rw [hif]
    clear hif
    obtain ⟨pk, pf, Hq⟩ : ∃ pk pf, Hid (dgProg cx.d a c (b : Int) m = (pk, pf)) := ⟨_, _, rfl⟩
    rw [Hq.out]
    go_enter Try.func47, Try.ntmps47
    go_wp2_with fail
    go_region
    go_wp2_with fail
    (with_reducible refine HPP.out.mono ?_)
    intro e2 w2 hp2
    obtain ⟨rfl, hfl, hcu, ho⟩ := hp2
    dsimp only at hfl hcu
    have m0 := hcu.c0
    have m1 := hcu.c1
    have m2 := hcu.c2
    have ho2 : Only (OwnF fa g) w w2 := (Only.of_below bd).trans ho
    have hpr := fl_prog hfl (by rw [HE2.out.symm]; exact HR8.out.ok) a c ha hc (b : Int) (by omega) (by omega) A m k (HM.out w2 _ hcu ho2) (fun _ j hj => HA.out j hj) (by rw [HM8.out]; exact hk) (by rw [HM8.out]; omega) (by have := HR8.out.steps; rw [HE2.out] at this; rw [HM8.out]; omega)
    rw [← HE2.out, Hq.out, HM8.out] at hpr
    rw [← HE3.out] at hcu
    have HPR := Lib.hid hpr
    have HCU := Lib.hid hcu
    have HO2 := Lib.hid ho2
    clear hfl hcu ho ho2 hpr
    go_wp2_with fail
    (with_reducible refine HPR.out.mono ?_)
    rintro e3 w3 ⟨rfl, hf3, ho3⟩
    have hcu3 := HCU.out.only ho3 hout
    have k14 := hcu3.c14
    have f14 := hcu3.fr 14
    have o4 := (Only.refl (fun k => k = g) w3).own 14 (.int .i64 pk)
    have HF4 := Lib.hid (hf3.own hout hG o4)
    have HU4 := Lib.hid (hcu3.setD pk)
    have HO4 : Hid (Only (OwnF fa g) w _) := Lib.hid ((HO2.out.trans (ho3.mono fun _ _ h => .inl h)).trans (o4.mono fun _ _ h => .inr h))
    clear hf3 ho3 hcu3 o4
    go_wp2_with fail
    go_ret
    exact ⟨rfl, HF4.out, HU4.out, HO4.out⟩
  · have hcc2 : (cc == 0) = false := by simpa using hcc
    have hif : cprog (devOps a c) (cc, cx) b m = (cc, cx) := by unfold cprog; rw [if_pos (show ((cc, cx) : Int × Cp Dl).1 ≠ 0 from hcc)]
    rw [hif]
    clear hif
    go_enter Try.func47, Try.ntmps47
    go_wp2_with fail
    go_region
    go_wp2_with fail
    (with_reducible refine HPP.out.mono ?_)
    intro e2 w2 hp2
    obtain ⟨rfl, hfl, hcu, ho⟩ := hp2
    dsimp only at hfl hcu
    rw [← HE3.out] at hcu
    rw [← HE2.out] at hfl
    have k14 := hcu.c14
    have f14 := hcu.fr 14
    have o4 := (Only.refl (fun k => k = g) w2).own 14 (.int .i64 cc)
    have HF4 := Lib.hid (hfl.own hout hG o4)
    have HU4 := Lib.hid (hcu.setD cc)
    have HO4 : Hid (Only (OwnF fa g) w _) := Lib.hid (((Only.of_below bd).trans ho).trans (o4.mono fun _ _ h => .inr h))
    clear hfl hcu ho o4
    go_wp2_with fail
    go_ret
    exact ⟨rfl, HF4.out, HU4.out, HO4.out⟩

/-- a cursor of the program's -/
structure CuP (a c : Nat) (fa : FA) (G g : Nat) (W : World) (u : Cu Dl) (Q : Nat → Prop) : Prop where
  q : ∀ j, Q j ↔ OwnF fa g j
  mem : ∃ wd, CuM W g fa.g a c u.at_ u.x.hi wd u.held.length u.dead ∧ ∀ i, i < u.held.length → wd i = u.held.getD i 0
  fl : FlIn fa G W u.x.d
  gG : g ≤ G
  out : ¬ fa.F g
  num : CuN c u
  len : (a + c) * 1024 ≤ u.x.d.b.length
  sz : a ≤ 65536 ∧ c ≤ 65536

theorem CuP.below {a c : Nat} {fa : FA} {G g : Nat} {W W' : World} {u : Cu Dl} {Q : Nat → Prop} (h : CuP a c fa G g W u Q) (hb : Below W.heap.size W W') : CuP a c fa G g W' u Q := by
  obtain ⟨wd, hm, hw⟩ := h.mem
  exact ⟨h.q, ⟨wd, hm.below hb, hw⟩, h.fl.below hb, h.gG, h.out, h.num, h.len, h.sz⟩
theorem cat_any {a c : Nat} {fa : FA} {G g : Nat} {W : World} {u : Cu Dl} {Q : Nat → Prop} (h : CuP a c fa G g W u Q) : Calls Try.prog 27 #[.pointer (some ⟨g, 0, none⟩)] W fun e w' => e = .returned (.int .i64 (u.at_ : Int)) ∧ W = w' := by
  obtain ⟨wd, hm, -⟩ := h.mem
  have k3 := hm.c3
  clear h hm
  go_enter Try.func27, Try.ntmps27
  go_wp2_with fail
  go_ret
  exact ⟨rfl, rfl⟩

theorem sizeOf_w8 (W : World) : (sizeOf (Try.prog.elem 83)).run Try.prog W = .ok 1 W := by kernel_rfl
theorem under_w8 : Try.prog.underlying 83 = some (.array (Try.prog.arrayLen 83) (Try.prog.elem 83)) := by kernel_rfl
theorem len_w8 : Try.prog.arrayLen 83 = 8 := by kernel_rfl
theorem run_words (g n : Nat) (hn : n ≤ 8) (u : World) : (Instr.sliceAt 83 (.pointer (some ⟨g, 4, none⟩)) none (some (.int .i64 (n : Int))) none).run Try.prog u = .ok (.slice (some ⟨g, 4, none⟩) n 8) u := by
  rw [run_sliceAt_array_h u _ _ under_w8 _ _ (by omega) (by rw [len_w8]; omega), sizeOf_w8, len_w8]
  simp only [Result.andThen, slicedAt, Int.toNat_natCast, addr_add, Nat.zero_mul, Nat.add_zero, Nat.sub_zero, ite_self]
theorem run_word8 (g : Nat) (u : World) : (Instr.sliceAt 83 (.pointer (some ⟨g, 4, none⟩)) none none none).run Try.prog u = .ok (.slice (some ⟨g, 4, none⟩) 8 8) u := by
  rw [run_sliceAt_array_all u _ _ under_w8, sizeOf_w8, len_w8]
  simp only [Result.andThen, slicedAt, addr_add, Nat.zero_mul, Nat.add_zero, Nat.sub_zero, ite_self]

set_option maxHeartbeats 800000 in
theorem cheld_any {a c : Nat} {fa : FA} {G g : Nat} {W : World} {u : Cu Dl} {Q : Nat → Prop} (h : CuP a c fa G g W u Q) : Calls Try.prog 28 #[.pointer (some ⟨g, 0, none⟩)] W (RetOb 5 W u.held) := by
  obtain ⟨wd, hm, hw⟩ := h.mem
  have k12 := hm.c12
  have h8 := h.num.hl
  have hbs := (hm.bs h8 hw).below (Below.refl _ _).drew
  obtain ⟨z, Hz⟩ : ∃ z, Hid (u.held.length = z) := ⟨_, rfl⟩
  have HC : Hid (Calls Try.prog 38 #[.slice (some ⟨g, 4, none⟩) z 8] W.drew fun e w' => ∃ v, e = .returned v ∧ Ob 5 w' W.drew.heap.size v u.held ∧ Below W.drew.heap.size W.drew w') := Lib.hid (clone_is hbs (Lib.hid Hz.out.symm) (by have := Hz.out; omega))
  rw [Hz.out] at h8
  have L12 : ∀ W', Below W.heap.size W W' → W'.cell? ⟨g, 12, none⟩ = some (.int .i64 (z : Int)) := fun W' hW => by rw [(hm.below hW).c12, Hz.out]
  have hS0 : Below W.heap.size W W := Below.refl _ _
  have zs := run_words g z h8
  clear h hm hw hbs k12
  go_enter Try.func28, Try.ntmps28
  go_wp2_with fail
  go_region_held3 (fun W' => Below W.heap.size W W') (first | assumption | exact Below.drew (by assumption)) (first
    | (go_at_call 38; (with_reducible refine HC.out.mono ?_); rintro e w4 ⟨v, rfl, ho, hb⟩; have HO := Lib.hid ho; have kS := Below.trans (by assumption) hb; clear ho hb))
  go_wp2_with fail
  go_ret
  exact ⟨_, rfl, HO.out, kS⟩

theorem laid_pad (h : List UInt8) (h8 : h.length ≤ 8) : laid (List.replicate 8 255) 0 h = cpad h := by
  unfold cpad
  refine list_ext_getD (by rw [laid_len]; simp; omega) fun i hi => ?_
  rw [laid_len] at hi
  rw [laid_get hi]
  simp at hi
  by_cases q : i < h.length
  · rw [if_pos (by omega)]; simp [List.getD, List.getElem?_append_left q]
  · rw [if_neg (by omega)]
    simp only [List.getD]
    rw [List.getElem?_append_right (by omega), List.getElem?_replicate, List.getElem?_replicate, if_pos hi, if_pos (by omega)]
/-- what Write and Flush return -/
def CCallPost (a c : Nat) (fa : FA) (G g : Nat) (W : World) (Q : Nat → Prop) (r : Int × Cu Dl) (e : Ending) (w' : World) : Prop :=
  e = .returned (.int .i64 r.1) ∧ CuP a c fa G g w' r.2 Q ∧ Only (OwnF fa g) W w'

set_option maxHeartbeats 3200000 in
theorem cflush_any {a c : Nat} {fa : FA} {G g : Nat} {W : World} {u : Cu Dl} {Q : Nat → Prop} (h : CuP a c fa G g W u Q) (rm : Room u.x.d 10) : Calls Try.prog 21 #[.pointer (some ⟨g, 0, none⟩)] W (CCallPost a c fa G g W Q (cflush (devOps a c) u)) := by
  obtain ⟨wd, hm, hw⟩ := h.mem
  have k14 := hm.c14
  have k12 := hm.c12
  have H := Lib.hid h
  have HN := Lib.hid (flush_n (a := a) h.num)
  have RM := Lib.hid rm
  obtain ⟨z, Hz⟩ : ∃ z, Hid (u.held.length = z) := ⟨_, rfl⟩
  rw [Hz.out] at k12
  by_cases hl : u.dead = 0 ∧ 0 < z
  · obtain ⟨hd, hz⟩ := hl
    obtain ⟨l1, l2, l3⟩ := h.num.live hd
    have hat := h.num.hat
    have hat2 := h.num.at_
    have hsz := h.sz
    have hcn := word_cn (a := a) (c := c) rm (u.at_ - u.held.length) (cpad_len h.num.hl)
    have hbl := hcn.blen rm.ok
    have hif : cflush (devOps a c) u = cflushed (cword (devOps a c) u.x (u.at_ - u.held.length) (cpad u.held)) u.at_ u.held := by unfold cflush; rw [if_pos ⟨hd, by rw [Hz.out]; exact hz⟩]
    rw [hif] at HN ⊢
    have hz8 : z ≤ 8 := by have := Hz.out; omega
    have HCP : Hid (laid (List.replicate 8 255) 0 (u.held.take z) = cpad u.held) := Lib.hid (by
      rw [List.take_of_length_le (by rw [Hz.out]; exact Nat.le_refl _)]
      exact laid_pad _ h.num.hl)
    have HBL : Hid (∀ W', Below W.heap.size W W' → Calls Try.prog 49 #[.int .i64 8] W' (RetOb 5 W' (List.replicate 8 255))) := Lib.hid fun W' hW => blank_any 8 W' (by omega) (by omega)
    have HFB := Lib.hid h.fl.blk
    have hgl := hm.blk
    have zs := run_words g z hz8
    rw [hd] at k14 hm
    have HM := Lib.hid hm
    have HW := Lib.hid hw
    have HCN := Lib.hid hbl
    obtain ⟨cq, Hq⟩ : ∃ cq, Hid (cword (devOps a c) u.x (u.at_ - u.held.length) (cpad u.held) = cq) := ⟨_, rfl⟩
    rw [Hq.out] at HN HCN ⊢
    clear h hm hw hif hcn hbl
    go_enter Try.func21, Try.ntmps21
    go_wp2_with fail
    refine (HBL.out _ (Below.refl _ _)).mono ?_
    rintro e w2 ⟨v2, rfl, ho2, hb2⟩
    obtain ⟨gp, cp, rfl, -, hcp, hge⟩ := ho2.formN (n := 8) (by simp) (by omega)
    have hgne : g ≠ gp := by omega
    have hgp : ¬ OwnF fa g gp := fun hx => by
      rcases hx with hx | hx
      · have := HFB.out gp hx; omega
      · omega
    have hb2d : Below w2.heap.size w2 w2.drew := (Below.refl _ _).drew
    have HM2 := Lib.hid (HM.out.below hb2)
    have L12 : ∀ W', Only (fun j => j = gp) w2 W' → W'.cell? ⟨g, 12, none⟩ = some (.int .i64 (z : Int)) := fun W' hW => by rw [(HM2.out.only hW hgne).c12, Hz.out]
    have HOW := Lib.hid (ho2.below hb2d)
    have HBS := Lib.hid ((HM2.out.below hb2d).bs (l := u.held) (by rw [Hz.out]; exact hz8) HW.out)
    have HF2 := Lib.hid (H.out.fl.below hb2)
    have hS0 : Only (fun j => j = gp) w2 w2 := Only.refl _ _
    have HB2 := Lib.hid hb2
    clear ho2 hb2 k14 k12
    go_wp2_with fail
    go_region_held3 (fun W' => Only (fun j => j = gp) w2 W') (first | assumption | exact Only.drew (by assumption)) (first
      | (refine step_copy_bs rfl (.tmp 23) (.tmp 31) 22 22 rfl W.heap.size 5 Try.underlying22 info5s gp 8 cp (List.replicate 8 255) HOW.out (some ⟨gp, 0, none⟩) 0 8 cp rfl (some ⟨g, 4, none⟩) u.held z 8 z rfl HBS.out Hz.out.symm (Nat.min_eq_left hz8).symm (fun _ => rfl) (by simp; omega) ?_; intro w5 ho5 hon5; rw [HCP.out] at ho5; have HO5 := Lib.hid ho5; have kS := Only.trans (by assumption) hon5; clear ho5 hon5))
    have B5 : Below W.heap.size W w5 := HB2.out.trans (kS.below HB2.out.size (fun k hk e => by omega))
    have hpg := cprogram_any (H.out.fl.below B5) H.out.gG RM.out (HM.out.below B5) H.out.out hat (by omega) (by have := Hz.out; omega) l3 hsz.1 hsz.2 H.out.len (some ⟨gp, 0, none⟩) (cpad u.held) cp (cpad_len H.out.num.hl) hcp
      (fun W' hi' _ ho => HO5.out.bs.only ho (by rintro k ⟨a, e, rfl⟩; injection e with e; subst e; exact hgp)) (by rintro j ⟨a, e, rfl⟩; injection e with e; subst e; exact fun hf => hgp (.inl hf))
    rw [Hq.out] at hpg
    have HPG := Lib.hid hpg
    clear hpg l1 l2 l3 kS
    go_wp2_with fail
    (with_reducible refine HPG.out.mono ?_)
    intro e w6 hp6
    obtain ⟨rfl, hfl, hcu, ho⟩ := hp6
    have HE : Hid (CCallPost a c fa G g W Q (cflushed cq u.at_ u.held) (.returned (.int .i64 cq.1)) w6) := Lib.hid ⟨rfl, ⟨H.out.q, ⟨wd, hcu, HW.out⟩, hfl, H.out.gG, H.out.out, HN.out, by show _ ≤ cq.2.d.b.length; rw [HCN.out]; exact H.out.len, hsz⟩, (Only.of_below B5).trans ho⟩
    clear hfl hcu ho
    go_wp2_with fail
    go_ret
    exact HE.out
  · have hif : cflush (devOps a c) u = (u.dead, u) := by unfold cflush; rw [if_neg (by rw [Hz.out]; exact hl)]
    rw [hif]
    clear hif hm hw h
    by_cases hd : u.dead = 0
    · have hz : z = 0 := by omega
      subst hz
      rw [hd] at k14 ⊢
      go_enter Try.func21, Try.ntmps21
      go_wp2_with fail
      go_ret
      exact ⟨rfl, H.out, Only.refl _ _⟩
    · have hd2 : (u.dead == 0) = false := by simpa using hd
      clear hl
      go_enter Try.func21, Try.ntmps21
      go_wp2_with fail
      go_ret
      exact ⟨rfl, H.out, Only.refl _ _⟩

theorem cwrite_dead {a c : Nat} {u : Cu Dl} {l : List UInt8} (h : u.dead ≠ 0) : cwrite (devOps a c) u l = (u.dead, u) := by unfold cwrite; rw [if_pos h]
theorem cwrite_range {a c : Nat} {u : Cu Dl} {l : List UInt8} (h : u.dead = 0) (h2 : c * 1024 < u.at_ + l.length) : cwrite (devOps a c) u l = (2, u) := by unfold cwrite; rw [if_neg (by simpa using h)]; exact if_pos h2
theorem cwrite_fits {a c : Nat} {u : Cu Dl} {l : List UInt8} (h : u.dead = 0) (h2 : u.at_ + l.length ≤ c * 1024) : cwrite (devOps a c) u l = ((cpushes (devOps a c) u l).dead, cpushes (devOps a c) u l) := by unfold cwrite; rw [if_neg (by simpa using h)]; exact if_neg (by show ¬ c * 1024 < _; omega)
theorem take_succ_getD (l : List UInt8) {k : Nat} (hk : k < l.length) : l.take (k + 1) = l.take k ++ [l.getD k 0] := by
  rw [List.take_add_one]
  simp [List.getD, hk]
theorem pushes_succ {a c : Nat} (u : Cu Dl) (l : List UInt8) {k : Nat} (hk : k < l.length) : cpushes (devOps a c) u (l.take (k + 1)) = cpush (devOps a c) (cpushes (devOps a c) u (l.take k)) (l.getD k 0) := by
  rw [take_succ_getD l hk, cpushes_append]
  rfl
theorem pushes_stop {a c : Nat} (u : Cu Dl) (l : List UInt8) {k : Nat} (h : (cpushes (devOps a c) u (l.take k)).dead ≠ 0) : cpushes (devOps a c) u l = cpushes (devOps a c) u (l.take k) := by
  have e : l = l.take k ++ l.drop k := (List.take_append_drop k l).symm
  rw (occs := .pos [1]) [e]
  rw [cpushes_append, cpushes_dead _ h]

set_option maxHeartbeats 6400000 in
theorem cwrite_any {a c : Nat} {fa : FA} {G g : Nat} {W : World} {u : Cu Dl} {Q : Nat → Prop} (h : CuP a c fa G g W u Q) (A : Option Addr) (l : List UInt8) (k : Nat) (hA : Bs W A l) (hoff : 0 < l.length → ∀ j, At A j → ¬ OwnF fa g j) (hk : l.length ≤ k) (hl2 : l.length ≤ 65536) (rm : Room u.x.d (10 * (l.length : Int))) :
    Calls Try.prog 19 #[.pointer (some ⟨g, 0, none⟩), .slice A l.length k] W (CCallPost a c fa G g W Q (cwrite (devOps a c) u l)) := by
  obtain ⟨wd, hm, hw⟩ := h.mem
  have k14 := hm.c14
  have H := Lib.hid h
  have HM := Lib.hid hm
  have RM := Lib.hid rm
  have HA := Lib.hid hA
  have HOFF := Lib.hid hoff
  obtain ⟨z, Hz⟩ : ∃ z, Hid (l.length = z) := ⟨_, rfl⟩
  have hc := h.sz.2
  have hat := h.num.at_
  rw [Hz.out] at hk hl2 ⊢
  clear hA hoff rm hw
  by_cases hd : u.dead = 0
  · rw [hd] at k14 hm
    have L0 : ∀ W', Below W.heap.size W W' → W'.cell? ⟨g, 0, none⟩ = some (.pointer (some ⟨fa.g, 0, none⟩)) := fun W' hW => (hm.below hW).c0
    have L1 : ∀ W', Below W.heap.size W W' → W'.cell? ⟨g, 1, none⟩ = some (.int .i64 (a : Int)) := fun W' hW => (hm.below hW).c1
    have L2 : ∀ W', Below W.heap.size W W' → W'.cell? ⟨g, 2, none⟩ = some (.int .i64 (c : Int)) := fun W' hW => (hm.below hW).c2
    have L3 : ∀ W', Below W.heap.size W W' → W'.cell? ⟨g, 3, none⟩ = some (.int .i64 (u.at_ : Int)) := fun W' hW => (hm.below hW).c3
    have hS0 : Below W.heap.size W W := Below.refl _ _
    obtain ⟨y, hy⟩ : ∃ y : Int, (c : Int) * 1024 - (u.at_ : Int) = y := ⟨_, rfl⟩
    have hwr : IntKind.i64.wrap ((c : Int) * 1024 - (u.at_ : Int)) = y := by rw [hy]; exact IntWalk.i64_in _ (by omega)
    have hwr2 : IntKind.i64.wrap y = y := IntWalk.i64_in _ (by omega)
    have HY := Lib.hid hy
    clear hm h hy
    by_cases hfit : u.at_ + z ≤ c * 1024
    · rw [cwrite_fits hd (by rw [Hz.out]; exact hfit)]
      have d1 : decide (y < (z : Int)) = false := decide_eq_false (by have := HY.out; omega)
      go_enter Try.func19, Try.ntmps19
      go_wp2_with fail
      go_region_held3 (fun W' => Below W.heap.size W W') (first | assumption | exact Below.drew (by assumption)) (first
        | (go_at_call 42; refine (dgsize_any _ _ c _ hc).mono ?_; rintro e w4 ⟨rfl, hb4⟩; have kS := below_on (by assumption) hb4; clear hb4))
      go_wp2_with fail
      go_loopw [34] (fun iv wr => ∃ i : Nat, i ≤ z ∧ iv = .int .i64 (i : Int) ∧ Hid ((cpushes (devOps a c) u (l.take i)).dead = 0) ∧ Hid (CuP a c fa G g wr (cpushes (devOps a c) u (l.take i)) Q) ∧ Hid (Only (OwnF fa g) W wr) ∧ Hid (Room (cpushes (devOps a c) u (l.take i)).x.d (10 * ((z : Int) - (i : Int)))) ∧ Hid ((cpushes (devOps a c) u (l.take i)).at_ = u.at_ + i)) (fun iv _ => z - (intOf iv).toNat)
      case atStart =>
        refine ⟨0, Nat.zero_le _, rfl, ?_⟩
        rw [List.take_zero]
        exact ⟨Lib.hid hd, Lib.hid (H.out.below kS), Lib.hid (Only.of_below kS), Lib.hid (by have := RM.out; rw [Hz.out] at this; exact this.less (by omega)), Lib.hid rfl⟩
      case round =>
        obtain ⟨i, hi, rfl, HD, HPv, HO, HR, HAT⟩ := hrel
        by_cases hlt : i < z
        · have hnx0 := pushes_succ (a := a) (c := c) u l (k := i) (by rw [Hz.out]; exact hlt)
          obtain ⟨v, Hv⟩ : ∃ v, Hid (cpushes (devOps a c) u (l.take i) = v) := ⟨_, rfl⟩
          obtain ⟨x, Hx⟩ : ∃ x, Hid (l.getD i 0 = x) := ⟨_, rfl⟩
          obtain ⟨b1, o1, hA1, hx⟩ := (HA.out.only HO.out (fun j hj => HOFF.out (by rw [Hz.out]; omega) j hj)).at_ (k := i) (by rw [Hz.out]; exact hlt)
          rw [Hv.out] at HD HPv HR HAT hnx0
          rw [Hx.out] at hx hnx0
          subst hA1
          obtain ⟨wv, hm, hw⟩ := HPv.out.mem
          obtain ⟨l1, l2, l3⟩ := HPv.out.num.live HD.out
          have hn2 := push_n (a := a) HPv.out.num (by have := HAT.out; omega) x
          have hcn := push_cn (a := a) (c := c) (u := v) (HR.out.less (by omega)) x
          have hat2 := push_at (a := a) (c := c) HD.out x
          have hrm2 : Room (cpush (devOps a c) v x).x.d (10 * ((z : Int) - ((i + 1 : Nat) : Int))) := Room.after (k := 10) (HR.out.less (by omega)) hcn
          have hlen2 : (a + c) * 1024 ≤ (cpush (devOps a c) v x).x.d.b.length := by rw [hcn.blen HR.out.ok]; exact HPv.out.len
          have hvat : v.at_ ≤ 67108864 := by have := HPv.out.num.at_; omega
          rw [HD.out] at hm
          have hadd := cadd_any hm l1 hvat x
          have hwx : ∀ i', i' < (v.held ++ [x]).length → (fun i => if i = v.held.length then x else wv i) i' = (v.held ++ [x]).getD i' 0 := fun i' hi' => by
            simp at hi'
            dsimp only
            by_cases e : i' = v.held.length
            · subst e; rw [if_pos rfl]; simp [List.getD]
            · rw [if_neg e, hw i' (by omega)]
              simp only [List.getD]
              rw [List.getElem?_append_left (by omega)]
          obtain ⟨hh, Hh⟩ : ∃ hh, Hid (v.held.length = hh) := ⟨_, rfl⟩
          have e8 : (v.held ++ [x]).length = hh + 1 := by rw [← Hh.out]; simp
          rw [Hh.out] at hadd l1 hwx
          have HADD := Lib.hid hadd
          have HNX := Lib.hid hnx0
          have HN2 := Lib.hid hn2
          have HRM2 := Lib.hid hrm2
          have HLEN2 := Lib.hid hlen2
          have HAT2 := Lib.hid hat2
          have HWX := Lib.hid hwx
          have HL2 := Lib.hid l2
          have HL3 := Lib.hid l3
          have HCN := Lib.hid hcn
          clear hnx0 hm hw hn2 hcn hat2 hrm2 hlen2 hadd hwx l2 l3
          by_cases h7 : hh + 1 < 8
          · have hpush : Hid (cpush (devOps a c) v x = ⟨v.x, v.at_ + 1, v.held ++ [x], 0⟩) := Lib.hid (by unfold cpush; rw [if_neg (by simpa using HD.out), if_neg (by omega)])
            go_wp2_with fail
            (with_reducible refine HADD.out.mono ?_)
            intro e w2 hp2
            obtain ⟨rfl, hcu, ho⟩ := hp2
            have k12 := hcu.c12
            have HP2 : Hid (CuP a c fa G g w2 (cpush (devOps a c) v x) Q) := Lib.hid ⟨H.out.q, by rw [hpush.out]; dsimp only; exact ⟨_, by rw [e8]; exact hcu, HWX.out⟩, by rw [hpush.out]; exact HPv.out.fl.own H.out.out H.out.gG ho, H.out.gG, H.out.out, HN2.out, HLEN2.out, H.out.sz⟩
            have HO2 : Hid (Only (OwnF fa g) W w2) := Lib.hid (HO.out.trans (ho.mono fun _ _ h => .inr h))
            have HD2 : Hid ((cpush (devOps a c) v x).dead = 0) := Lib.hid (by rw [hpush.out])
            clear hcu ho
            go_wp2_with fail
            go_roundw
            case rel => exact ⟨i + 1, by omega, by go_num, by rw [HNX.out]; exact HD2, by rw [HNX.out]; exact HP2, HO2, by rw [HNX.out]; exact HRM2, by rw [HNX.out]; exact Lib.hid (by rw [HAT2.out, HAT.out]; omega)⟩
            case measure => simp [intOf]; omega
          · have hpush : Hid (cpush (devOps a c) v x = cput (cword (devOps a c) v.x (v.at_ + 1 - 8) (v.held ++ [x])) (v.at_ + 1) (v.held ++ [x])) := Lib.hid (by unfold cpush; rw [if_neg (by simpa using HD.out), if_pos (by omega)])
            have hh7 : hh = 7 := by omega
            subst hh7
            have zs := run_word8 g
            obtain ⟨pc, px, Hq⟩ : ∃ pc px, Hid (cword (devOps a c) v.x (v.at_ + 1 - 8) (v.held ++ [x]) = (pc, px)) := ⟨_, _, rfl⟩
            rw [Hq.out] at hpush
            go_wp2_with fail
            (with_reducible refine HADD.out.mono ?_)
            intro e w2 hp2
            obtain ⟨rfl, hcu, ho⟩ := hp2
            have k12 : w2.cell? ⟨g, 12, none⟩ = some (.int .i64 8) := hcu.c12
            have hpg := cprogram_any (HPv.out.fl.own H.out.out H.out.gG ho) H.out.gG (HR.out.less (by omega)) hcu H.out.out (by have := HPv.out.num.hat; have := Hh.out; omega) (by have := HAT.out; omega) (by have := HAT.out; omega)
              (by have := HL3.out; rw [Hh.out] at this; rw [show v.at_ + 1 - (7 + 1) = v.at_ - 7 by omega]; exact this) H.out.sz.1 H.out.sz.2 HPv.out.len (some ⟨g, 4, none⟩) (v.held ++ [x]) 8 e8 (Nat.le_refl _)
              (fun W' hi' hm' _ => hm'.bs (l := v.held ++ [x]) (by omega) HWX.out) (by rintro j ⟨a, e, rfl⟩; injection e with e; subst e; exact H.out.out)
            rw [show v.at_ + 1 - (7 + 1) = v.at_ + 1 - 8 by omega, Hq.out] at hpg
            have HPG := Lib.hid hpg
            have HO2 : Hid (Only (OwnF fa g) W w2) := Lib.hid (HO.out.trans (ho.mono fun _ _ h => .inr h))
            clear hcu ho hpg
            by_cases hpc : pc = 0
            · subst hpc
              go_wp2_with fail
              (with_reducible refine HPG.out.mono ?_)
              intro e w3 hp3
              obtain ⟨rfl, hfl3, hcu3, ho3⟩ := hp3
              dsimp only at hfl3 hcu3
              have k12b := hcu3.c12
              have f12b := hcu3.fr 12
              have hu4 : CuM (w3.setCell ⟨g, 12, none⟩ (.int .i64 0)) g fa.g a c (v.at_ + 1) px.hi _ 0 0 := hcu3.setH 0
              have ho4 := (Only.refl (fun k => k = g) w3).own 12 (.int .i64 0)
              have hpush2 : cpush (devOps a c) v x = ⟨px, v.at_ + 1, [], 0⟩ := by rw [hpush.out]; unfold cput; dsimp only; rw [if_pos rfl]
              have HP4 : Hid (CuP a c fa G g (w3.setCell ⟨g, 12, none⟩ (.int .i64 0)) (cpush (devOps a c) v x) Q) := Lib.hid ⟨H.out.q, by rw [hpush2]; exact ⟨_, hu4, fun i hi => absurd hi (by simp)⟩, by rw [hpush2]; exact hfl3.own H.out.out H.out.gG ho4, H.out.gG, H.out.out, HN2.out, HLEN2.out, H.out.sz⟩
              have HO4 : Hid (Only (OwnF fa g) W _) := Lib.hid ((HO2.out.trans ho3).trans (ho4.mono fun _ _ h => .inr h))
              have HD4 : Hid ((cpush (devOps a c) v x).dead = 0) := Lib.hid (by rw [hpush2])
              clear hfl3 hcu3 ho3 hu4 ho4 hpush2
              go_wp2_with fail
              go_roundw
              case rel => exact ⟨i + 1, by omega, by go_num, by rw [HNX.out]; exact HD4, by rw [HNX.out]; exact HP4, HO4, by rw [HNX.out]; exact HRM2, by rw [HNX.out]; exact Lib.hid (by rw [HAT2.out, HAT.out]; omega)⟩
              case measure => simp [intOf]; omega
            · have hpc2 : (pc == 0) = false := by simpa using hpc
              go_wp2_with fail
              (with_reducible refine HPG.out.mono ?_)
              intro e w3 hp3
              obtain ⟨rfl, hfl3, hcu3, ho3⟩ := hp3
              dsimp only at hfl3 hcu3
              have hpush2 : cpush (devOps a c) v x = ⟨px, v.at_ + 1, v.held ++ [x], pc⟩ := by rw [hpush.out]; unfold cput; dsimp only; rw [if_neg hpc]
              have hend : cpushes (devOps a c) u l = cpush (devOps a c) v x := by rw [pushes_stop u l (k := i + 1) (by rw [HNX.out, hpush2]; exact hpc), HNX.out]
              have HP4 : Hid (CuP a c fa G g w3 (cpush (devOps a c) v x) Q) := Lib.hid ⟨H.out.q, by rw [hpush2]; dsimp only; exact ⟨_, by rw [e8]; exact hcu3, HWX.out⟩, by rw [hpush2]; exact hfl3, H.out.gG, H.out.out, HN2.out, HLEN2.out, H.out.sz⟩
              have HE : Hid (CCallPost a c fa G g W Q ((cpushes (devOps a c) u l).dead, cpushes (devOps a c) u l) (.returned (.int .i64 pc)) w3) := Lib.hid (by rw [hend]; exact ⟨by rw [hpush2], HP4.out, HO2.out.trans ho3⟩)
              clear hfl3 hcu3 ho3 hpush2 hend
              go_wp2_with fail
              go_ret
              exact HE.out
        · obtain rfl : i = z := by omega
          have hall : l.take i = l := List.take_of_length_le (by rw [Hz.out]; exact Nat.le_refl _)
          rw [hall] at HD HPv
          have HE : Hid (CCallPost a c fa G g W Q ((cpushes (devOps a c) u l).dead, cpushes (devOps a c) u l) (.returned (.int .i64 0)) wr) := Lib.hid ⟨by rw [HD.out], HPv.out, HO.out⟩
          clear hall
          go_wp2_with fail
          go_ret
          exact HE.out
    · have hif := cwrite_range (a := a) (c := c) (l := l) hd (by rw [Hz.out]; omega)
      rw [hif]
      have d1 : decide (y < (z : Int)) = true := decide_eq_true (by have := HY.out; omega)
      clear hif
      go_enter Try.func19, Try.ntmps19
      go_wp2_with fail
      go_region_held3 (fun W' => Below W.heap.size W W') (first | assumption | exact Below.drew (by assumption)) (first
        | (go_at_call 42; refine (dgsize_any _ _ c _ hc).mono ?_; rintro e w4 ⟨rfl, hb4⟩; have kS := below_on (by assumption) hb4; clear hb4))
      go_wp2_with fail
      go_ret
      exact ⟨rfl, H.out.below kS, Only.of_below kS⟩
  · have hd2 : (u.dead == 0) = false := by simpa using hd
    rw [cwrite_dead hd]
    clear h hm
    go_enter Try.func19, Try.ntmps19
    go_wp2_with fail
    go_ret
    exact ⟨rfl, H.out, Only.refl _ _⟩
end Go.Proofs.Ytcpkmhhlcmnfdaa

