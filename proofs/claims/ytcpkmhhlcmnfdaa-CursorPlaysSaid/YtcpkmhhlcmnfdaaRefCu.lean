/- The reference's cursor in memory; the contracts of Clear, prepare. -/
import Derived.Test.YtcpkmhhlcmnfdaaRefRegion2
import Derived.Test.YtcpkmhhlcmnfdaaCu
import Derived.Test.YtcpkmhhlcmnfdaaPair
namespace Go.Proofs.Ytcpkmhhlcmnfdaa
open Go.RowKit
set_option linter.unusedVariables false
set_option maxRecDepth 100000

def rgClear (f : Fl) (a c : Nat) (s : Int) : Int × Fl := if (rgBlank f a c s).2 ≠ 0 ∨ (rgBlank f a c s).1 = true then ((rgBlank f a c s).2, f) else rgErase f a c s

set_option maxHeartbeats 1600000 in
theorem rgclear_any {g gB gW cB cW N : Nat} {f : Fl} {w : World} (h : RefFl w g gB gW cB cW N f) (ok : FlOk f) (a c : Nat) (ha : a ≤ 65536) (hc : c ≤ 65536) (s : Int) (s1 : -9223372036854775808 ≤ s) (s2 : s ≤ 9223372036854775807) :
    Calls Try.prog 64 #[.agg #[.pointer (some ⟨g, 0, none⟩), .int .i64 (a : Int), .int .i64 (c : Int)], .int .i64 s] w (ErasePost w g gB gW cB cW N (rgClear f a c s)) := by
  have hlen : f.b.length ≤ 2147483648 := by have := ok.len; have := ok.few; omega
  have hcell : ∀ W, Below (w.alloc (.cells #[.pointer (some ⟨g, 0, none⟩), .int .i64 (a : Int), .int .i64 (c : Int)] 40)).heap.size (w.alloc (.cells #[.pointer (some ⟨g, 0, none⟩), .int .i64 (a : Int), .int .i64 (c : Int)] 40)) W →
      W.cell? ⟨w.heap.size, 0, none⟩ = some (.pointer (some ⟨g, 0, none⟩)) ∧ W.cell? ⟨w.heap.size, 1, none⟩ = some (.int .i64 (a : Int)) ∧ W.cell? ⟨w.heap.size, 2, none⟩ = some (.int .i64 (c : Int)) := fun W hW => by
    have hg := (hW.block w.heap.size (by simp)).trans (heap_alloc_new w _)
    exact ⟨by rw [cell_of_row _ _ _ _ _ _ hg]; rfl, by rw [cell_of_row _ _ _ _ _ _ hg]; rfl, by rw [cell_of_row _ _ _ _ _ _ hg]; rfl⟩
  have hb0 : Below w.heap.size w (w.alloc (.cells #[.pointer (some ⟨g, 0, none⟩), .int .i64 (a : Int), .int .i64 (c : Int)] 40)) := (Below.refl _ _).alloc (Nat.le_refl _) _
  have HB0 := Lib.hid hb0
  have H0 := Lib.hid (h.below hb0)
  have HCELL := Lib.hid hcell
  have HOK := Lib.hid ok
  have hbl := rgblank_any H0.out a c ha hc s s1 s2 hlen
  unfold rgClear
  obtain ⟨q, e, Hr⟩ : ∃ q e, Hid (rgBlank f a c s = (q, e)) := ⟨_, _, rfl⟩
  rw [Hr.out] at hbl ⊢
  have HBL := Lib.hid hbl
  clear h hb0 hcell hbl ok
  by_cases hq : e ≠ 0 ∨ q = true
  · have hif : (if (q, e).2 ≠ 0 ∨ (q, e).1 = true then ((q, e).2, f) else rgErase f a c s) = (e, f) := if_pos hq
    rw [hif]
    clear hif
    go_enter Try.func64, Try.ntmps64
    go_wp2_with fail
    (with_reducible refine HBL.out.mono ?_)
    rintro e2 w2 ⟨rfl, hb2⟩
    have HF2 := Lib.hid (H0.out.below hb2)
    have HB2 := Lib.hid (below_on HB0.out hb2)
    clear hb2
    by_cases he : e = 0
    · have hqt : q = true := by rcases hq with h | h; exact absurd he h; exact h
      subst he
      subst hqt
      go_wp2_with fail
      go_ret
      exact ⟨rfl, HF2.out, Only.of_below HB2.out⟩
    · have he2 : (e == 0) = false := by simpa using he
      clear hq
      go_wp2_with fail
      go_ret
      exact ⟨rfl, HF2.out, Only.of_below HB2.out⟩
  · obtain ⟨rfl, rfl⟩ : e = 0 ∧ q = false := ⟨by omega, by cases q <;> simp_all⟩
    have hif : (if (false, (0 : Int)).2 ≠ 0 ∨ (false, (0 : Int)).1 = true then ((false, (0 : Int)).2, f) else rgErase f a c s) = rgErase f a c s := if_neg (by simp)
    rw [hif]
    clear hif hq
    obtain ⟨kc, f', Hf⟩ : ∃ kc f', Hid (rgErase f a c s = (kc, f')) := ⟨_, _, rfl⟩
    rw [Hf.out]
    go_enter Try.func64, Try.ntmps64
    go_wp2_with fail
    (with_reducible refine HBL.out.mono ?_)
    rintro e2 w2 ⟨rfl, hb2⟩
    have HF2 := Lib.hid (H0.out.below hb2)
    have HB2 := Lib.hid (below_on HB0.out hb2)
    obtain ⟨m0, m1, m2⟩ := HCELL.out w2 hb2
    clear hb2
    have her := rgerase_any HF2.out HOK.out a c ha hc s s1 s2
    rw [Hf.out] at her
    have HER := Lib.hid her
    clear her
    go_wp2_with fail
    (with_reducible refine HER.out.mono ?_)
    rintro e3 w3 ⟨rfl, hf3, ho3⟩
    have HF3 := Lib.hid hf3
    have HO3 := Lib.hid ((Only.of_below HB2.out).trans ho3)
    clear hf3 ho3
    go_wp2_with fail
    go_ret
    exact ⟨rfl, HF3.out, HO3.out⟩

/-- where a cursor of the reference lies: its struct, its two rows of flags, their caps -/
structure CuAd where
  g : Nat
  r : Nat
  e : Nat
  cr : Nat
  ce : Nat

/-- a row of flags -/
def Flags (w : World) (g c : Nat) (f : Nat → Bool) : Prop := ∃ arr, w.heap[g]? = some (.cells arr 4 (0, 0)) ∧ ∀ j, j ≤ c → arr[j]? = some (.bool (f j))
theorem Flags.at_ {w : World} {g c : Nat} {f : Nat → Bool} (h : Flags w g c f) {j : Nat} (hj : j ≤ c) : w.cell? ⟨g, j, none⟩ = some (.bool (f j)) := by
  obtain ⟨arr, hg, ha⟩ := h
  rw [cell_of_row _ _ _ _ _ _ hg]
  exact ha j hj
theorem Flags.frozen {w : World} {g c : Nat} {f : Nat → Bool} (h : Flags w g c f) (j : Nat) : w.frozen? ⟨g, j, none⟩ = false := by
  obtain ⟨arr, hg, -⟩ := h
  exact frozen_of_row w g j _ _ hg
theorem Flags.only {F : Nat → Prop} {w w' : World} {g c : Nat} {f : Nat → Bool} (h : Flags w g c f) (ho : Only F w w') (hg : ¬ F g) : Flags w' g c f := by
  obtain ⟨arr, h1, h2⟩ := h
  exact ⟨arr, by rw [ho.block g (Array.getElem?_eq_some_iff.1 h1).1 hg]; exact h1, h2⟩
theorem Flags.set_ {w : World} {g c : Nat} {f : Nat → Bool} (h : Flags w g c f) {s : Nat} (hs : s ≤ c) (b : Bool) : Flags (w.setCell ⟨g, s, none⟩ (.bool b)) g c (fun j => if j = s then b else f j) := by
  obtain ⟨arr, h1, h2⟩ := h
  refine ⟨_, heap_setCell_same _ _ _ _ _ _ h1, fun j hj => ?_⟩
  rw [Array.getElem?_setIfInBounds]
  have hsz : s < arr.size := (Array.getElem?_eq_some_iff.1 (h2 s hs)).1
  by_cases e : j = s
  · subst e; simp [hsz]
  · dsimp only; rw [if_neg (fun h => e h.symm), if_neg e]; exact h2 j hj

structure RefCu (w : World) (N : Nat) (q : CuAd) (gf a c : Nat) (rd en : Nat → Bool) (n : Nat) (held : List UInt8) (dead : Int) (F : Nat → Prop) : Prop where
  cells : ∃ AH cH, w.heap[q.g]? = some (.cells #[.pointer (some ⟨gf, 0, none⟩), .int .i64 (a : Int), .int .i64 (c : Int), .int .i64 (n : Int), .slice AH held.length cH, .int .i64 dead, .slice (some ⟨q.r, 0, none⟩) (c + 1) q.cr, .slice (some ⟨q.e, 0, none⟩) (c + 1) q.ce] 59 (0, 0)) ∧
    Bs w AH held ∧ (held.length ≤ cH) ∧ (0 < held.length → ∀ k, At AH k → k ≠ q.g ∧ k ≠ q.r ∧ k ≠ q.e ∧ ¬ F k)
  ready : Flags w q.r c rd
  entered : Flags w q.e c en
  ne : q.g ≠ q.r ∧ q.g ≠ q.e ∧ q.r ≠ q.e
  off : ¬ F q.g ∧ ¬ F q.r ∧ ¬ F q.e
  lo : q.g < N ∧ q.r < N ∧ q.e < N
theorem RefCu.blk {w : World} {N : Nat} {q : CuAd} {gf a c : Nat} {rd en : Nat → Bool} {n : Nat} {held : List UInt8} {dead : Int} {F : Nat → Prop} (u : RefCu w N q gf a c rd en n held dead F) : q.g < w.heap.size ∧ q.r < w.heap.size ∧ q.e < w.heap.size := by
  obtain ⟨AH, cH, h1, -⟩ := u.cells
  obtain ⟨_, h2, -⟩ := u.ready
  obtain ⟨_, h3, -⟩ := u.entered
  exact ⟨(Array.getElem?_eq_some_iff.1 h1).1, (Array.getElem?_eq_some_iff.1 h2).1, (Array.getElem?_eq_some_iff.1 h3).1⟩
/-- a call on the flash leaves it -/
theorem RefCu.only {w w' : World} {N : Nat} {q : CuAd} {gf a c : Nat} {rd en : Nat → Bool} {n : Nat} {held : List UInt8} {dead : Int} {F F' : Nat → Prop} (u : RefCu w N q gf a c rd en n held dead F) (ho : Only F' w w') (hF : ∀ k, F' k → F k) : RefCu w' N q gf a c rd en n held dead F := by
  obtain ⟨o1, o2, o3⟩ := u.off
  obtain ⟨AH, cH, h1, h2, h3, h4⟩ := u.cells
  exact ⟨⟨AH, cH, by rw [ho.block q.g (Array.getElem?_eq_some_iff.1 h1).1 (fun q => o1 (hF _ q))]; exact h1, h2.offs (fun hl k hk q => (h4 hl k hk).2.2.2 (hF _ q)) ho, h3, h4⟩,
    u.ready.only ho (fun q => o2 (hF _ q)), u.entered.only ho (fun q => o3 (hF _ q)), u.ne, u.off, u.lo⟩
theorem RefCu.setReady {w : World} {N : Nat} {q : CuAd} {gf a c : Nat} {rd en : Nat → Bool} {n : Nat} {held : List UInt8} {dead : Int} {F : Nat → Prop} (u : RefCu w N q gf a c rd en n held dead F) {s : Nat} (hs : s ≤ c) :
    RefCu (w.setCell ⟨q.r, s, none⟩ (.bool true)) N q gf a c (fun j => if j = s then true else rd j) en n held dead F := by
  have ho : Only (fun k => k = q.r) w (w.setCell ⟨q.r, s, none⟩ (.bool true)) := (Only.refl (fun k => k = q.r) _).setCell (p := ⟨q.r, s, none⟩) (.inl rfl) _
  obtain ⟨n1, n2, n3⟩ := u.ne
  obtain ⟨AH, cH, h1, h2, h3, h4⟩ := u.cells
  exact ⟨⟨AH, cH, by rw [ho.block q.g (Array.getElem?_eq_some_iff.1 h1).1 n1]; exact h1, h2.offs (fun hl k hk q => (h4 hl k hk).2.1 q) ho, h3, h4⟩, u.ready.set_ hs true, u.entered.only ho (fun e => n3 e.symm), u.ne, u.off, u.lo⟩
theorem RefCu.setEntered {w : World} {N : Nat} {q : CuAd} {gf a c : Nat} {rd en : Nat → Bool} {n : Nat} {held : List UInt8} {dead : Int} {F : Nat → Prop} (u : RefCu w N q gf a c rd en n held dead F) {s : Nat} (hs : s ≤ c) :
    RefCu (w.setCell ⟨q.e, s, none⟩ (.bool true)) N q gf a c rd (fun j => if j = s then true else en j) n held dead F := by
  have ho : Only (fun k => k = q.e) w (w.setCell ⟨q.e, s, none⟩ (.bool true)) := (Only.refl (fun k => k = q.e) _).setCell (p := ⟨q.e, s, none⟩) (.inl rfl) _
  obtain ⟨n1, n2, n3⟩ := u.ne
  obtain ⟨AH, cH, h1, h2, h3, h4⟩ := u.cells
  exact ⟨⟨AH, cH, by rw [ho.block q.g (Array.getElem?_eq_some_iff.1 h1).1 n2]; exact h1, h2.offs (fun hl k hk q => (h4 hl k hk).2.2.1 q) ho, h3, h4⟩, u.ready.only ho n3, u.entered.set_ hs true, u.ne, u.off, u.lo⟩

/-- the flags tell which sectors are prepared, and entered, from s0 on -/
def RdOk (s0 c k : Nat) (f : Nat → Bool) : Prop := ∀ j, s0 ≤ j → j ≤ c → f j = decide (j < k)

theorem cprep_ref (a c : Nat) (x : Cp Fl) (s : Nat) : cprep (refOps a c) x s = if s < x.hi ∨ c ≤ s then (0, x) else ((rgClear x.d a c (s : Int)).1, ⟨(rgClear x.d a c (s : Int)).2, if (rgClear x.d a c (s : Int)).1 = 0 then s + 1 else x.hi, x.ent⟩) := by
  have hb : (refOps a c).blank x.d (s : Int) = rgBlank x.d a c (s : Int) := rfl
  have he : (refOps a c).erase x.d (s : Int) = rgErase x.d a c (s : Int) := rfl
  have hc : (refOps a c).c = c := rfl
  unfold cprep rgClear
  rw [hb, he, hc]
  by_cases h1 : s < x.hi ∨ c ≤ s
  · rw [if_pos h1, if_pos h1]
  · rw [if_neg h1, if_neg h1]
    obtain ⟨q, e, hr⟩ : ∃ q e, rgBlank x.d a c (s : Int) = (q, e) := ⟨_, _, rfl⟩
    simp only [hr]
    by_cases h2 : e = 0
    · subst h2
      cases q with
      | true => simp
      | false =>
        simp
        by_cases h3 : (rgErase x.d a c (s : Int)).1 = 0
        · simp [h3]
        · simp [h3]
    · simp [h2]

structure RPrepPost (w : World) (q : CuAd) (gf hB hW kB kW N a c s0 : Nat) (F : Nat → Prop) (en : Nat → Bool) (n : Nat) (held : List UInt8) (dead : Int) (r : Int × Cp Fl) (e : Ending) (w' : World) : Prop where
  ret : e = .returned (.int .i64 r.1)
  fl : RefFl w' gf hB hW kB kW N r.2.d
  cu : ∃ rd', RefCu w' N q gf a c rd' en n held dead F ∧ RdOk s0 c r.2.hi rd'
  only : Only (fun k => FlF gf hB hW k ∨ k = q.r) w w'

set_option maxHeartbeats 3200000 in
theorem rprep_any {w : World} {q : CuAd} {gf hB hW kB kW N a c s0 : Nat} {x : Cp Fl} {rd en : Nat → Bool} {n : Nat} {held : List UInt8} {dead : Int} (hf : RefFl w gf hB hW kB kW N x.d) (ok : FlOk x.d) {F : Nat → Prop} (hFF : ∀ k, FlF gf hB hW k → F k) (hu : RefCu w N q gf a c rd en n held dead F) (hr : RdOk s0 c x.hi rd)
    (ha : a ≤ 65536) (hc : c ≤ 65536) (hcr : c + 1 ≤ q.cr) (s : Nat) (hs0 : s0 ≤ s) (hsk : s ≤ x.hi) (hs : s ≤ 65536) :
    Calls Try.prog 58 #[.pointer (some ⟨q.g, 0, none⟩), .int .i64 (s : Int)] w (RPrepPost w q gf hB hW kB kW N a c s0 F en n held dead (cprep (refOps a c) x s)) := by
  obtain ⟨AH, cH, hg, hbs, hcap, hoff⟩ := hu.cells
  have k0 : w.cell? ⟨q.g, 0, none⟩ = some (.pointer (some ⟨gf, 0, none⟩)) := by rw [cell_of_row _ _ _ _ _ _ hg]; rfl
  have k1 : w.cell? ⟨q.g, 1, none⟩ = some (.int .i64 (a : Int)) := by rw [cell_of_row _ _ _ _ _ _ hg]; rfl
  have k2 : w.cell? ⟨q.g, 2, none⟩ = some (.int .i64 (c : Int)) := by rw [cell_of_row _ _ _ _ _ _ hg]; rfl
  have k6 : w.cell? ⟨q.g, 6, none⟩ = some (.slice (some ⟨q.r, 0, none⟩) (c + 1) q.cr) := by rw [cell_of_row _ _ _ _ _ _ hg]; rfl
  have HF := Lib.hid hf
  have HU := Lib.hid hu
  have HRD := Lib.hid hr
  have HOK := Lib.hid ok
  rw [cprep_ref]
  by_cases hsc : c ≤ s
  · rw [if_pos (.inr hsc)]
    have d1 : decide ((c : Int) ≤ (s : Int)) = true := decide_eq_true (by omega)
    have HP : Hid (RPrepPost w q gf hB hW kB kW N a c s0 F en n held dead (0, x) (.returned (.int .i64 0)) w) := Lib.hid ⟨rfl, hf, ⟨rd, hu, hr⟩, Only.refl _ _⟩
    clear hf hu hr ok hg hbs hoff
    go_enter Try.func58, Try.ntmps58
    go_wp2
    go_ret
    exact HP.out
  · have d1 : decide ((c : Int) ≤ (s : Int)) = false := decide_eq_false (by omega)
    have hrd : w.cell? ⟨q.r, s, none⟩ = some (.bool (rd s)) := hu.ready.at_ (by omega)
    rw [hr s hs0 (by omega)] at hrd
    by_cases hsh : s < x.hi
    · rw [if_pos (.inl hsh)]
      rw [decide_eq_true hsh] at hrd
      have HP : Hid (RPrepPost w q gf hB hW kB kW N a c s0 F en n held dead (0, x) (.returned (.int .i64 0)) w) := Lib.hid ⟨rfl, hf, ⟨rd, hu, hr⟩, Only.refl _ _⟩
      clear hf hu hr ok hg hbs hoff
      go_enter Try.func58, Try.ntmps58
      go_wp2
      go_ret
      exact HP.out
    · rw [if_neg (by omega)]
      rw [decide_eq_false hsh] at hrd
      obtain ⟨kc, f', Hk⟩ : ∃ kc f', Hid (rgClear x.d a c (s : Int) = (kc, f')) := ⟨_, _, rfl⟩
      have hcl := rgclear_any hf ok a c ha hc (s : Int) (by omega) (by omega)
      rw [Hk.out] at hcl ⊢
      by_cases hk : kc = 0
      · subst hk
        have hif : ((0, f').1, (⟨(0, f').2, if ((0 : Int), f').1 = 0 then s + 1 else x.hi, x.ent⟩ : Cp Fl)) = ((0 : Int), ⟨f', s + 1, x.ent⟩) := rfl
        rw [hif]
        clear hif
        have HCL := Lib.hid hcl
        clear hf hu hr ok hg hbs hoff hcl
        go_enter Try.func58, Try.ntmps58
        go_wp2_with fail
        (with_reducible refine HCL.out.mono ?_)
        rintro e2 w2 ⟨rfl, hf2, ho2⟩
        have hu2 := HU.out.only ho2 hFF
        obtain ⟨AH2, cH2, hg2, -⟩ := hu2.cells
        have j6 : w2.cell? ⟨q.g, 6, none⟩ = some (.slice (some ⟨q.r, 0, none⟩) (c + 1) q.cr) := by rw [cell_of_row _ _ _ _ _ _ hg2]; rfl
        have jr : w2.cell? ⟨q.r, s, none⟩ = some (.bool (rd s)) := hu2.ready.at_ (by omega)
        have fr : w2.frozen? ⟨q.r, s, none⟩ = false := hu2.ready.frozen s
        have HF2 := Lib.hid hf2
        have HU2 := Lib.hid hu2
        have HO2 := Lib.hid ho2
        clear hf2 hu2 ho2 hg2 k0 k1 k2 k6 hrd
        have HP : Hid (RPrepPost w q gf hB hW kB kW N a c s0 F en n held dead (0, ⟨f', s + 1, x.ent⟩) (.returned (.int .i64 0)) (w2.setCell ⟨q.r, s, none⟩ (.bool true))) := Lib.hid (by
          have ho : Only (fun k => FlF gf hB hW k ∨ k = q.r) w2 (w2.setCell ⟨q.r, s, none⟩ (.bool true)) := (Only.refl _ _).setCell (p := ⟨q.r, s, none⟩) (.inl (.inr rfl)) _
          have hor : Only (fun k => k = q.r) w2 (w2.setCell ⟨q.r, s, none⟩ (.bool true)) := (Only.refl (fun k => k = q.r) _).setCell (p := ⟨q.r, s, none⟩) (.inl rfl) _
          have hnf : ¬ FlF gf hB hW q.r := fun e => HU.out.off.2.1 (hFF _ e)
          have hlo := HU.out.lo.2.1
          refine ⟨rfl, HF2.out.apart hor (fun j e => ?_), ⟨_, HU2.out.setReady (by omega), fun j h1 h2 => ?_⟩, (HO2.out.mono (fun _ _ h => .inl h)).trans ho⟩
          · subst e
            exact ⟨hlo, fun e => hnf (.inl e), fun e => hnf (.inr (.inl e)), fun e => hnf (.inr (.inr e))⟩
          · dsimp only
            by_cases e : j = s
            · subst e; rw [if_pos rfl]; exact (decide_eq_true (by omega)).symm
            · rw [if_neg e, HRD.out j h1 h2]
              by_cases q1 : j < x.hi
              · rw [decide_eq_true q1, decide_eq_true (by omega)]
              · rw [decide_eq_false q1, decide_eq_false (by omega)])
        clear fr jr
        have fr : w2.frozen? ⟨q.r, s, none⟩ = false := HU2.out.ready.frozen s
        have jr : w2.cell? ⟨q.r, s, none⟩ = some (.bool (rd s)) := HU2.out.ready.at_ (by omega)
        go_wp2_with fail
        go_ret
        exact HP.out
      · have hk2 : (kc == 0) = false := by simpa using hk
        have hif : ((kc, f').1, (⟨(kc, f').2, if (kc, f').1 = 0 then s + 1 else x.hi, x.ent⟩ : Cp Fl)) = (kc, ⟨f', x.hi, x.ent⟩) := by dsimp only; rw [if_neg hk]
        rw [hif]
        clear hif
        have HCL := Lib.hid hcl
        clear hf hu hr ok hg hbs hoff hcl
        go_enter Try.func58, Try.ntmps58
        go_wp2_with fail
        (with_reducible refine HCL.out.mono ?_)
        rintro e2 w2 ⟨rfl, hf2, ho2⟩
        have hu2 := HU.out.only ho2 hFF
        obtain ⟨AH2, cH2, hg2, -⟩ := hu2.cells
        have j6 : w2.cell? ⟨q.g, 6, none⟩ = some (.slice (some ⟨q.r, 0, none⟩) (c + 1) q.cr) := by rw [cell_of_row _ _ _ _ _ _ hg2]; rfl
        have jr : w2.cell? ⟨q.r, s, none⟩ = some (.bool (rd s)) := hu2.ready.at_ (by omega)
        have fr : w2.frozen? ⟨q.r, s, none⟩ = false := hu2.ready.frozen s
        have HF2 := Lib.hid hf2
        have HU2 := Lib.hid hu2
        have HO2 := Lib.hid ho2
        clear hf2 hu2 ho2 hg2 k0 k1 k2 k6 hrd
        have HP : Hid (RPrepPost w q gf hB hW kB kW N a c s0 F en n held dead (kc, ⟨f', x.hi, x.ent⟩) (.returned (.int .i64 kc)) w2) := Lib.hid ⟨rfl, HF2.out, ⟨rd, HU2.out, HRD.out⟩, HO2.out.mono (fun _ _ h => .inl h)⟩
        go_wp2_with fail
        go_ret
        exact HP.out
end Go.Proofs.Ytcpkmhhlcmnfdaa

