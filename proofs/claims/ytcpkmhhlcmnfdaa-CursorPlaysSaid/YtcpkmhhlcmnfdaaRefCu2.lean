/- The contract of the reference's word. -/
import Derived.Test.YtcpkmhhlcmnfdaaRefCu
import Derived.Test.YtcpkmhhlcmnfdaaCu6
namespace Go.Proofs.Ytcpkmhhlcmnfdaa
open Go.RowKit
set_option linter.unusedVariables false
set_option maxRecDepth 100000

theorem prep_hi {D : Type} (O : COps D) {x : Cp D} {s : Nat} (h : (cprep O x s).1 = 0) (hs : s < O.c) : s < (cprep O x s).2.hi := by
  revert h
  unfold cprep
  split
  · intro _; dsimp only; omega
  · split
    · rename_i q; intro h; exact absurd h q
    · split
      · intro _; dsimp only; omega
      · split
        · intro _; dsimp only; omega
        · rename_i q; intro h; exact absurd h q
theorem prep_ent {D : Type} (O : COps D) (x : Cp D) (s : Nat) : (cprep O x s).2.ent = x.ent := by
  unfold cprep
  split
  · rfl
  · split
    · rfl
    · split
      · rfl
      · split <;> rfl

structure RWordPost (w : World) (q : CuAd) (gf hB hW kB kW N a c s0 : Nat) (F : Nat → Prop) (n : Nat) (held : List UInt8) (dead : Int) (r : Int × Cp Fl) (e : Ending) (w' : World) : Prop where
  ret : e = .returned (.int .i64 r.1)
  fl : RefFl w' gf hB hW kB kW N r.2.d
  cu : ∃ rd' en', RefCu w' N q gf a c rd' en' n held dead F ∧ RdOk s0 c r.2.hi rd' ∧ RdOk s0 c r.2.ent en'
  only : Only (fun k => FlF gf hB hW k ∨ k = q.r ∨ k = q.e) w w'

theorem ref_prog {w : World} {q : CuAd} {gf hB hW kB kW N a c s0 : Nat} {x : Cp Fl} {rd en : Nat → Bool} {n : Nat} {held : List UInt8} {dead : Int} (hf : RefFl w gf hB hW kB kW N x.d) (ok : FlOk x.d) {F : Nat → Prop} (hFF : ∀ k, FlF gf hB hW k → F k) (hu : RefCu w N q gf a c rd en n held dead F) (hr : RdOk s0 c x.hi rd) (he : RdOk s0 c x.ent en)
    (ha : a ≤ 65536) (hc : c ≤ 65536) (t : Nat) (ht : t ≤ 67108864) (A : Option Addr) (m : List UInt8) (k : Nat) (hm : Bs w A m) (hA : Off (FlF gf hB hW) A m) (hk : m.length ≤ k) (hm8 : m.length ≤ 8) (hst : x.d.steps + 8 ≤ 4611686018427387904) :
    Calls Try.prog 59 #[.agg #[.pointer (some ⟨gf, 0, none⟩), .int .i64 (a : Int), .int .i64 (c : Int)], .int .i64 (t : Int), .slice A m.length k] w (RWordPost w q gf hB hW kB kW N a c s0 F n held dead ((rgProg x.d a c (t : Int) m).1, ⟨(rgProg x.d a c (t : Int) m).2, x.hi, x.ent⟩)) :=
  (rgprog_any hf ok a c ha hc (t : Int) (by omega) (by omega) A m k hm hA hk (by omega) (by omega)).mono fun e w' ⟨h1, h2, h3⟩ => ⟨h1, h2, ⟨rd, en, hu.only h3 hFF, hr, he⟩, h3.mono fun _ _ h => .inl h⟩

theorem RWordPost.from {w w1 : World} {q : CuAd} {gf hB hW kB kW N a c s0 : Nat} {F : Nat → Prop} {n : Nat} {held : List UInt8} {dead : Int} {r : Int × Cp Fl} {e : Ending} {w' : World} (h : RWordPost w1 q gf hB hW kB kW N a c s0 F n held dead r e w') (ho : Only (fun k => FlF gf hB hW k ∨ k = q.r ∨ k = q.e) w w1) : RWordPost w q gf hB hW kB kW N a c s0 F n held dead r e w' :=
  ⟨h.ret, h.fl, h.cu, ho.trans h.only⟩

set_option maxHeartbeats 6400000 in
theorem rword_any {w : World} {q : CuAd} {gf hB hW kB kW N a c s0 : Nat} {X : Cp Dl} {x : Cp Fl} {rd en : Nat → Bool} {n : Nat} {held : List UInt8} {dead : Int} (hf : RefFl w gf hB hW kB kW N x.d) (hX : SC X x) (rm : Room X.d 10) {F : Nat → Prop} (hFF : ∀ k, FlF gf hB hW k → F k) (hu : RefCu w N q gf a c rd en n held dead F) (hr : RdOk s0 c x.hi rd) (he : RdOk s0 c x.ent en)
    (ha : a ≤ 65536) (hc : c ≤ 65535) (hcr : c + 1 ≤ q.cr) (t : Nat) (ht : t < c * 1024) (hs0 : s0 ≤ t / 1024) (hsk : t / 1024 ≤ x.hi) (hske : t / 1024 ≤ x.ent) (A : Option Addr) (m : List UInt8) (k : Nat) (hm : Bs w A m) (hA : 0 < m.length → ∀ j, At A j → j ≠ q.r ∧ j ≠ q.e ∧ ¬ FlF gf hB hW j) (hk : m.length ≤ k) (hm8 : m.length ≤ 8) :
    Calls Try.prog 48 #[.pointer (some ⟨q.g, 0, none⟩), .int .i64 (t : Int), .slice A m.length k] w (RWordPost w q gf hB hW kB kW N a c s0 F n held dead (cword (refOps a c) x t m)) := by
  obtain ⟨AH, cH, hg, hbs, hcap, hoff⟩ := hu.cells
  have k0 : w.cell? ⟨q.g, 0, none⟩ = some (.pointer (some ⟨gf, 0, none⟩)) := by rw [cell_of_row _ _ _ _ _ _ hg]; rfl
  have k1 : w.cell? ⟨q.g, 1, none⟩ = some (.int .i64 (a : Int)) := by rw [cell_of_row _ _ _ _ _ _ hg]; rfl
  have k2 : w.cell? ⟨q.g, 2, none⟩ = some (.int .i64 (c : Int)) := by rw [cell_of_row _ _ _ _ _ _ hg]; rfl
  have k7 : w.cell? ⟨q.g, 7, none⟩ = some (.slice (some ⟨q.e, 0, none⟩) (c + 1) q.ce) := by rw [cell_of_row _ _ _ _ _ _ hg]; rfl
  obtain ⟨s, hs⟩ : ∃ s : Nat, t / 1024 = s := ⟨_, rfl⟩
  rw [hs] at hs0 hsk hske
  have hsc : s < c := by omega
  have hq1 : (t : Int) / 1024 = (s : Int) := by omega
  have hen : w.cell? ⟨q.e, s, none⟩ = some (.bool (en s)) := hu.entered.at_ (by omega)
  rw [he s hs0 (by omega)] at hen
  have HF := Lib.hid hf
  have HU := Lib.hid hu
  have HRD := Lib.hid hr
  have HEN := Lib.hid he
  have HM := Lib.hid hm
  have HA := Lib.hid hA
  have HX := Lib.hid hX
  have HRM := Lib.hid rm
  have hst := rm.steps
  have hfs : x.d.steps = X.d.steps := hX.sim.steps.symm
  obtain ⟨z, Hz⟩ : ∃ z, Hid (m.length = z) := ⟨_, rfl⟩
  unfold cword center
  rw [hs]
  by_cases hse : s < x.ent
  · rw [if_pos hse]
    rw [decide_eq_true hse] at hen
    have hpr := ref_prog (s0 := s0) hf hX.rok hFF hu hr he ha (by omega) t (by omega) A m k hm (fun h j hj => (hA h j hj).2.2) hk hm8 (by omega)
    have hif : cprog (refOps a c) (0, x) t m = ((rgProg x.d a c (t : Int) m).1, ⟨(rgProg x.d a c (t : Int) m).2, x.hi, x.ent⟩) := by unfold cprog; rw [if_neg (by simp)]; rfl
    rw [hif]
    obtain ⟨pk, pf, Hp⟩ : ∃ pk pf, Hid (rgProg x.d a c (t : Int) m = (pk, pf)) := ⟨_, _, rfl⟩
    rw [Hp.out] at hpr ⊢
    rw [Hz.out] at hpr hk hm8 ⊢
    have HPR := Lib.hid hpr
    clear hf hu hr he hm hA hX rm hg hbs hoff hpr hif hs
    go_enter Try.func48, Try.ntmps48
    go_wp2_with fail
    (with_reducible refine HPR.out.mono ?_)
    intro e2 w2 hp2
    obtain ⟨rfl, hfl, hcu, ho⟩ := hp2
    have HP : Hid (RWordPost w q gf hB hW kB kW N a c s0 F n held dead (pk, ⟨pf, x.hi, x.ent⟩) (.returned (.int .i64 pk)) w2) := Lib.hid ⟨rfl, hfl, hcu, ho⟩
    clear hfl hcu ho
    go_wp2_with fail
    go_ret
    exact HP.out
  · rw [if_neg hse]
    rw [decide_eq_false hse] at hen
    have hp1 := rprep_any (s0 := s0) hf hX.rok hFF hu hr ha (by omega) hcr s hs0 hsk (by omega)
    obtain ⟨sc1, SC1⟩ := prep_sc (a := a) (c := c) hX (rm.less (by omega)) s
    have cn1 := prep_cn (a := a) (c := c) (rm.less (n := 1) (by omega)) s
    have hhi : (cprep (refOps a c) x s).1 = 0 → s < (cprep (refOps a c) x s).2.hi := fun h => prep_hi (refOps a c) h hsc
    have hent : (cprep (refOps a c) x s).2.ent = x.ent := prep_ent (refOps a c) x s
    have rm1 : Room (cprep (devOps a c) X s).2.d 9 := Room.after (k := 1) (n := 9) rm cn1
    obtain ⟨c1, x1, Hx1⟩ : ∃ c1 x1, Hid (cprep (refOps a c) x s = (c1, x1)) := ⟨_, _, rfl⟩
    obtain ⟨C1, X1, HX1⟩ : ∃ C1 X1, Hid (cprep (devOps a c) X s = (C1, X1)) := ⟨_, _, rfl⟩
    rw [Hx1.out] at hp1 sc1 SC1 hhi hent ⊢
    rw [HX1.out] at sc1 SC1 rm1
    dsimp only at SC1 hhi hent rm1
    have HP1 := Lib.hid hp1
    have HSC1 : Hid (SC X1 x1) := Lib.hid SC1
    have HRM1 : Hid (Room X1.d 9) := Lib.hid rm1
    by_cases h1 : c1 = 0
    · subst h1
      have hhi1 := hhi rfl
      have hif : (if ((0 : Int), x1).1 ≠ 0 then (0, x1) else centers (cprep (refOps a c) x1 (s + 1)) s) = centers (cprep (refOps a c) x1 (s + 1)) s := if_neg (by simp)
      rw [hif]
      clear hif
      obtain ⟨sc2, SC2⟩ := prep_sc (a := a) (c := c) SC1 (rm1.less (by omega)) (s + 1)
      have cn2 := prep_cn (a := a) (c := c) (rm1.less (n := 1) (by omega)) (s + 1)
      have rm2 : Room (cprep (devOps a c) X1 (s + 1)).2.d 8 := Room.after (k := 1) (n := 8) rm1 cn2
      have hent2 : (cprep (refOps a c) x1 (s + 1)).2.ent = x1.ent := prep_ent (refOps a c) x1 (s + 1)
      obtain ⟨c2, x2, Hx2⟩ : ∃ c2 x2, Hid (cprep (refOps a c) x1 (s + 1) = (c2, x2)) := ⟨_, _, rfl⟩
      obtain ⟨C2, X2, HX2⟩ : ∃ C2 X2, Hid (cprep (devOps a c) X1 (s + 1) = (C2, X2)) := ⟨_, _, rfl⟩
      rw [Hx2.out] at sc2 SC2 hent2 ⊢
      rw [HX2.out] at sc2 SC2 rm2
      dsimp only at SC2 hent2 rm2
      have HSC2 : Hid (SC X2 x2) := Lib.hid SC2
      have HRM2 : Hid (Room X2.d 8) := Lib.hid rm2
      by_cases h2 : c2 = 0
      · subst h2
        have hif : cprog (refOps a c) (centers (0, x2) s) t m = ((rgProg x2.d a c (t : Int) m).1, ⟨(rgProg x2.d a c (t : Int) m).2, x2.hi, s + 1⟩) := by unfold centers cprog; simp; exact ⟨rfl, rfl⟩
        rw [hif]
        obtain ⟨pk, pf, Hp⟩ : ∃ pk pf, Hid (rgProg x2.d a c (t : Int) m = (pk, pf)) := ⟨_, _, rfl⟩
        rw [Hp.out]
        rw [Hz.out] at hk hm8 ⊢
        clear hf hu hr he hm hA hX rm hg hbs hoff hif hs hp1 sc1 SC1 rm1 hhi sc2 SC2 rm2 cn1 cn2
        go_enter Try.func48, Try.ntmps48
        go_wp2_with fail
        (with_reducible refine HP1.out.mono ?_)
        intro e2 w2 hp2
        obtain ⟨rfl, hfl2, ⟨rd2, hu2, hr2⟩, ho2⟩ := hp2
        dsimp only at hfl2 hr2
        have hpp := rprep_any (s0 := s0) hfl2 HSC1.out.rok hFF hu2 hr2 ha (by omega) hcr (s + 1) (by omega) (by omega) (by omega)
        rw [Hx2.out, show ((s + 1 : Nat) : Int) = (s : Int) + 1 by omega] at hpp
        have HP2 := Lib.hid hpp
        have HO2 := Lib.hid ho2
        clear hfl2 hu2 hr2 ho2 hpp k0 k1 k2 k7 hen
        go_wp2_with fail
        (with_reducible refine HP2.out.mono ?_)
        intro e3 w3 hp3
        obtain ⟨rfl, hfl3, ⟨rd3, hu3, hr3⟩, ho3⟩ := hp3
        dsimp only at hfl3 hr3
        obtain ⟨AH3, cH3, hg3, -⟩ := hu3.cells
        have j7 : w3.cell? ⟨q.g, 7, none⟩ = some (.slice (some ⟨q.e, 0, none⟩) (c + 1) q.ce) := by rw [cell_of_row _ _ _ _ _ _ hg3]; rfl
        have j0 : w3.cell? ⟨q.g, 0, none⟩ = some (.pointer (some ⟨gf, 0, none⟩)) := by rw [cell_of_row _ _ _ _ _ _ hg3]; rfl
        have j1 : w3.cell? ⟨q.g, 1, none⟩ = some (.int .i64 (a : Int)) := by rw [cell_of_row _ _ _ _ _ _ hg3]; rfl
        have j2 : w3.cell? ⟨q.g, 2, none⟩ = some (.int .i64 (c : Int)) := by rw [cell_of_row _ _ _ _ _ _ hg3]; rfl
        have je : w3.cell? ⟨q.e, s, none⟩ = some (.bool (en s)) := hu3.entered.at_ (by omega)
        have fe : w3.frozen? ⟨q.e, s, none⟩ = false := hu3.entered.frozen s
        have hne : q.g ≠ q.e := hu3.ne.2.1
        have hne2 : q.e ≠ q.g := fun e => hne e.symm
        have hoe : Only (fun k => k = q.e) w3 (w3.setCell ⟨q.e, s, none⟩ (.bool true)) := (Only.refl (fun k => k = q.e) _).setCell (p := ⟨q.e, s, none⟩) (.inl rfl) _
        have hoe2 : Only (fun k => FlF gf hB hW k ∨ k = q.r ∨ k = q.e) w3 (w3.setCell ⟨q.e, s, none⟩ (.bool true)) := hoe.mono fun _ _ h => .inr (.inr h)
        have hnf : ¬ FlF gf hB hW q.e := fun e => hu3.off.2.2 (hFF _ e)
        have hlo := hu3.lo.2.2
        have hfl4 := hfl3.apart hoe (fun j e => by subst e; exact ⟨hlo, fun e => hnf (.inl e), fun e => hnf (.inr (.inl e)), fun e => hnf (.inr (.inr e))⟩)
        have hu4 := hu3.setEntered (s := s) (by omega)
        have ho3' : Only (fun k => FlF gf hB hW k ∨ k = q.r ∨ k = q.e) w w3 := (HO2.out.mono (fun _ _ h => h.elim .inl (fun h => .inr (.inl h)))).trans (ho3.mono (fun _ _ h => h.elim .inl (fun h => .inr (.inl h))))
        have ho4 := ho3'.trans hoe2
        have hm4 : Bs (w3.setCell ⟨q.e, s, none⟩ (.bool true)) A m := HM.out.offs (F := fun k => FlF gf hB hW k ∨ k = q.r ∨ k = q.e) (fun h j hj e => by
          obtain ⟨z1, z2, z3⟩ := HA.out h j hj
          rcases e with e | e | e
          · exact z3 e
          · exact z1 e
          · exact z2 e) ho4
        have hen4 : RdOk s0 c (s + 1) (fun j => if j = s then true else en j) := fun j h1 h2 => by
          dsimp only
          by_cases e : j = s
          · subst e; rw [if_pos rfl]; exact (decide_eq_true (by omega)).symm
          · rw [if_neg e, HEN.out j h1 h2]
            by_cases q1 : j < x.ent
            · rw [decide_eq_true q1, decide_eq_true (by omega)]
            · rw [decide_eq_false q1, decide_eq_false (by omega)]
        have hst2 := HRM2.out.steps
        have hfs2 : x2.d.steps = X2.d.steps := HSC2.out.sim.steps.symm
        have hpr := ref_prog (s0 := s0) (x := ⟨x2.d, x2.hi, s + 1⟩) hfl4 HSC2.out.rok hFF hu4 hr3 hen4 ha (by omega) t (by omega) A m k hm4 (fun h j hj => (HA.out h j hj).2.2) (by rw [Hz.out]; exact hk) (by rw [Hz.out]; exact hm8) (by dsimp only; omega)
        rw [Hp.out, Hz.out] at hpr
        have HPR := Lib.hid hpr
        have HO4 := Lib.hid ho4
        clear hfl3 hu3 hr3 ho3 hg3 hoe hoe2 hfl4 hu4 ho3' ho4 hm4 hen4 hpr
        go_wp2_with fail
        (with_reducible refine HPR.out.mono ?_)
        intro e5 w5 hp5
        have hp6 := hp5.from HO4.out
        obtain ⟨rfl, hfl5, hcu5, ho5⟩ := hp6
        have HP : Hid (RWordPost w q gf hB hW kB kW N a c s0 F n held dead (pk, ⟨pf, x2.hi, s + 1⟩) (.returned (.int .i64 pk)) w5) := Lib.hid ⟨rfl, hfl5, hcu5, ho5⟩
        clear hfl5 hcu5 ho5 hp5
        go_wp2_with fail
        go_ret
        exact HP.out
      · have hk2 : (c2 == 0) = false := by simpa using h2
        have hif : cprog (refOps a c) (centers (c2, x2) s) t m = (c2, x2) := by unfold centers; rw [if_pos (show ((c2, x2) : Int × Cp Fl).1 ≠ 0 from h2)]; unfold cprog; rw [if_pos (show ((c2, x2) : Int × Cp Fl).1 ≠ 0 from h2)]
        rw [hif]
        rw [Hz.out] at hk hm8 ⊢
        clear hf hu he hm hA hX rm hg hbs hoff hif hs hp1 sc1 SC1 rm1 hhi sc2 SC2 rm2 cn1 cn2 hr
        go_enter Try.func48, Try.ntmps48
        go_wp2_with fail
        (with_reducible refine HP1.out.mono ?_)
        intro e2 w2 hp2
        obtain ⟨rfl, hfl2, ⟨rd2, hu2, hr2⟩, ho2⟩ := hp2
        dsimp only at hfl2 hr2
        have hpp := rprep_any (s0 := s0) hfl2 HSC1.out.rok hFF hu2 hr2 ha (by omega) hcr (s + 1) (by omega) (by omega) (by omega)
        rw [Hx2.out, show ((s + 1 : Nat) : Int) = (s : Int) + 1 by omega] at hpp
        have HP2 := Lib.hid hpp
        have HO2 := Lib.hid ho2
        clear hfl2 hu2 hr2 ho2 hpp k0 k1 k2 k7 hen
        go_wp2_with fail
        (with_reducible refine HP2.out.mono ?_)
        intro e3 w3 hp3
        obtain ⟨rfl, hfl3, ⟨rd3, hu3, hr3⟩, ho3⟩ := hp3
        dsimp only at hfl3 hr3
        have HP : Hid (RWordPost w q gf hB hW kB kW N a c s0 F n held dead (c2, x2) (.returned (.int .i64 c2)) w3) := Lib.hid ⟨rfl, hfl3, ⟨rd3, en, hu3, hr3, by dsimp only; rw [hent2, hent]; exact HEN.out⟩, (HO2.out.mono (fun _ _ h => h.elim .inl (fun h => .inr (.inl h)))).trans (ho3.mono (fun _ _ h => h.elim .inl (fun h => .inr (.inl h))))⟩
        clear hfl3 hu3 hr3 ho3
        go_wp2_with fail
        go_ret
        exact HP.out
    · have hk1 : (c1 == 0) = false := by simpa using h1
      have hif : cprog (refOps a c) (if (c1, x1).1 ≠ 0 then (c1, x1) else centers (cprep (refOps a c) (c1, x1).2 (s + 1)) s) t m = (c1, x1) := by rw [if_pos (show ((c1, x1) : Int × Cp Fl).1 ≠ 0 from h1)]; unfold cprog; rw [if_pos (show ((c1, x1) : Int × Cp Fl).1 ≠ 0 from h1)]
      rw [hif]
      rw [Hz.out] at hk hm8 ⊢
      clear hf hu he hm hA hX rm hg hbs hoff hif hs hp1 sc1 SC1 rm1 hhi cn1 hr
      go_enter Try.func48, Try.ntmps48
      go_wp2_with fail
      (with_reducible refine HP1.out.mono ?_)
      intro e2 w2 hp2
      obtain ⟨rfl, hfl2, ⟨rd2, hu2, hr2⟩, ho2⟩ := hp2
      dsimp only at hfl2 hr2
      have HP : Hid (RWordPost w q gf hB hW kB kW N a c s0 F n held dead (c1, x1) (.returned (.int .i64 c1)) w2) := Lib.hid ⟨rfl, hfl2, ⟨rd2, en, hu2, hr2, by dsimp only; rw [hent]; exact HEN.out⟩, ho2.mono (fun _ _ h => h.elim .inl (fun h => .inr (.inl h)))⟩
      clear hfl2 hu2 hr2 ho2
      go_wp2_with fail
      go_ret
      exact HP.out
end Go.Proofs.Ytcpkmhhlcmnfdaa

