/- The reference's cursor: Write. -/
import Derived.Test.YtcpkmhhlcmnfdaaRefCu2
import Derived.Test.YtcpkmhhlcmnfdaaCuMem
namespace Go.Proofs.Ytcpkmhhlcmnfdaa
open Go.RowKit
set_option linter.unusedVariables false
set_option maxRecDepth 100000

/-- the blocks of the reference's cursor and flash -/
def ROwn (q : CuAd) (gf hB hW : Nat) (j : Nat) : Prop := FlF gf hB hW j ∨ j = q.r ∨ j = q.e ∨ j = q.g
structure RCuP (W : World) (q : CuAd) (gf hB hW kB kW N a c s0 : Nat) (F : Nat → Prop) (v : Cu Fl) : Prop where
  fl : RefFl W gf hB hW kB kW N v.x.d
  cu : ∃ rd en, RefCu W N q gf a c rd en v.at_ v.held v.dead F ∧ RdOk s0 c v.x.hi rd ∧ RdOk s0 c v.x.ent en

/-- its struct turned: offset, held bytes, error -/
theorem RefCu.upd {w w' : World} {N : Nat} {q : CuAd} {gf a c : Nat} {rd en : Nat → Bool} {n n' : Nat} {held held' : List UInt8} {dead dead' : Int} {F : Nat → Prop} (u : RefCu w N q gf a c rd en n held dead F) (ho : Only (fun j => j = q.g) w w') {AH : Option Addr} {cH : Nat}
    (hg : w'.heap[q.g]? = some (.cells #[.pointer (some ⟨gf, 0, none⟩), .int .i64 (a : Int), .int .i64 (c : Int), .int .i64 (n' : Int), .slice AH held'.length cH, .int .i64 dead', .slice (some ⟨q.r, 0, none⟩) (c + 1) q.cr, .slice (some ⟨q.e, 0, none⟩) (c + 1) q.ce] 59 (0, 0)))
    (hb : Bs w' AH held') (hc : held'.length ≤ cH) (hoff : 0 < held'.length → ∀ k, At AH k → k ≠ q.g ∧ k ≠ q.r ∧ k ≠ q.e ∧ ¬ F k) : RefCu w' N q gf a c rd en n' held' dead' F :=
  ⟨⟨AH, cH, hg, hb, hc, hoff⟩, u.ready.only ho (fun e => u.ne.1 e.symm), u.entered.only ho (fun e => u.ne.2.1 e.symm), u.ne, u.off, u.lo⟩

theorem RCuP.below {W W' : World} {q : CuAd} {gf hB hW kB kW N a c s0 : Nat} {F : Nat → Prop} {v : Cu Fl} (h : RCuP W q gf hB hW kB kW N a c s0 F v) (hb : Below W.heap.size W W') : RCuP W' q gf hB hW kB kW N a c s0 F v := by
  obtain ⟨rd, en, hu, hr, he⟩ := h.cu
  exact ⟨h.fl.below hb, rd, en, hu.only (F' := fun _ => False) (Only.of_below hb) (fun _ h => h.elim), hr, he⟩
theorem take_succ_getD' (l : List UInt8) {k : Nat} (hk : k < l.length) : l.take (k + 1) = l.take k ++ [l.getD k 0] := by
  rw [List.take_add_one]
  simp [List.getD, hk]
theorem rpushes_succ {a c : Nat} (u : Cu Fl) (l : List UInt8) {k : Nat} (hk : k < l.length) : cpushes (refOps a c) u (l.take (k + 1)) = cpush (refOps a c) (cpushes (refOps a c) u (l.take k)) (l.getD k 0) := by
  rw [take_succ_getD' l hk, cpushes_append]
  rfl
theorem pushes_succ' {a c : Nat} (u : Cu Dl) (l : List UInt8) {k : Nat} (hk : k < l.length) : cpushes (devOps a c) u (l.take (k + 1)) = cpush (devOps a c) (cpushes (devOps a c) u (l.take k)) (l.getD k 0) := by
  rw [take_succ_getD' l hk, cpushes_append]
  rfl
theorem bs_one {w : World} {s : Nat} {x : UInt8} {E : TypeId} {fr : Nat × Nat} (h : w.heap[s]? = some (.cells #[.int .u8 (x.toNat : Int)] E fr)) : Bs w (some ⟨s, 0, none⟩) [x] := fun _ => ⟨s, 0, rfl, fun j hj => by
  obtain rfl : j = 0 := by simpa using hj
  rw [cell_of_row _ _ _ _ _ _ h]
  rfl⟩
/-- a byte more is held -/
theorem radd_done {W wr w6 : World} {q : CuAd} {gf hB hW kB kW N a c s0 : Nat} {F : Nat → Prop} {V : Cu Fl} {rd en : Nat → Bool} {x : UInt8} {hh : Nat} {AH : Option Addr} {cH : Nat} (hP : RCuP wr q gf hB hW kB kW N a c s0 F V) (hu : RefCu wr N q gf a c rd en V.at_ V.held 0 F) (hrd : RdOk s0 c V.x.hi rd) (hen : RdOk s0 c V.x.ent en)
    (hg : wr.heap[q.g]? = some (.cells #[.pointer (some ⟨gf, 0, none⟩), .int .i64 (a : Int), .int .i64 (c : Int), .int .i64 (V.at_ : Int), .slice AH hh cH, .int .i64 0, .slice (some ⟨q.r, 0, none⟩) (c + 1) q.cr, .slice (some ⟨q.e, 0, none⟩) (c + 1) q.ce] 59 (0, 0)))
    (hFF : ∀ k, FlF gf hB hW k → F k) (hFs : ∀ k, F k → k < W.heap.size) (hsz : W.heap.size ≤ wr.heap.size) (hb : Below wr.heap.size wr w6) {A6 : Option Addr} {c6 : Nat} (ho : Ob 5 w6 wr.heap.size (.slice A6 (V.held ++ [x]).length c6) (V.held ++ [x])) (e8 : (V.held ++ [x]).length = hh + 1) :
    w6.cell? ⟨q.g, 4, none⟩ = some (.slice AH hh cH) ∧ w6.frozen? ⟨q.g, 4, none⟩ = false ∧ w6.cell? ⟨q.g, 3, none⟩ = some (.int .i64 (V.at_ : Int)) ∧ w6.frozen? ⟨q.g, 3, none⟩ = false ∧
    Hid (((w6.setCell ⟨q.g, 4, none⟩ (.slice A6 (hh + 1) c6)).setCell ⟨q.g, 3, none⟩ (.int .i64 ((V.at_ : Int) + 1))).cell? ⟨q.g, 4, none⟩ = some (.slice A6 (hh + 1) c6) ∧ ((w6.setCell ⟨q.g, 4, none⟩ (.slice A6 (hh + 1) c6)).setCell ⟨q.g, 3, none⟩ (.int .i64 ((V.at_ : Int) + 1))).cell? ⟨q.g, 3, none⟩ = some (.int .i64 ((V.at_ : Int) + 1)) ∧
      Bs ((w6.setCell ⟨q.g, 4, none⟩ (.slice A6 (hh + 1) c6)).setCell ⟨q.g, 3, none⟩ (.int .i64 ((V.at_ : Int) + 1))) A6 (V.held ++ [x]) ∧ (∀ k, At A6 k → wr.heap.size ≤ k) ∧ hh + 1 ≤ c6) ∧
    Hid (RCuP ((w6.setCell ⟨q.g, 4, none⟩ (.slice A6 (hh + 1) c6)).setCell ⟨q.g, 3, none⟩ (.int .i64 ((V.at_ : Int) + 1))) q gf hB hW kB kW N a c s0 F ⟨V.x, V.at_ + 1, V.held ++ [x], 0⟩ ∧ Only (fun j => j = q.g) wr ((w6.setCell ⟨q.g, 4, none⟩ (.slice A6 (hh + 1) c6)).setCell ⟨q.g, 3, none⟩ (.int .i64 ((V.at_ : Int) + 1)))) := by
  obtain ⟨z1, z2, z3⟩ := hu.blk
  have hg6 := (hb.block q.g z1).trans hg
  have o2 : Only (fun j => j = q.g) w6 ((w6.setCell ⟨q.g, 4, none⟩ (.slice A6 (hh + 1) c6)).setCell ⟨q.g, 3, none⟩ (.int .i64 ((V.at_ : Int) + 1))) := ((Only.refl (fun j => j = q.g) w6).own 4 _).own 3 _
  have o1 := (Only.of_below (F := fun j => j = q.g) hb).trans o2
  have hfr : ∀ k, At A6 k → wr.heap.size ≤ k := fun k hk => ho.fresh k hk
  have hcap : (V.held ++ [x]).length ≤ c6 := by
    obtain ⟨A', c', e, -, hf⟩ := ho.form
    rcases hf with rfl | ⟨g', rfl, -, -⟩
    · injection e with e1
      subst e1
      obtain ⟨bb, oo, e, -⟩ := ho.bs (by omega)
      cases e
    · injection e with e1 e2 e3
      subst e1
      exact ho.cap
  have hu7 := hu.upd (n' := V.at_ + 1) (held' := V.held ++ [x]) (dead' := 0) (AH := A6) (cH := c6) o1 (by
      rw [e8, show ((V.at_ + 1 : Nat) : Int) = (V.at_ : Int) + 1 by omega]
      exact heap_setCell_same _ _ _ _ _ _ (heap_setCell_same _ _ _ _ _ _ hg6)) (ho.bs.only o2 (fun k hk e => by have := hfr k hk; omega)) hcap
    (fun _ k hk => by
      have := hfr k hk
      exact ⟨by omega, by omega, by omega, fun hf => by have := hFs k hf; omega⟩)
  have hoff := hu.off.1
  have hg7 := heap_setCell_same _ q.g 3 _ _ (.int .i64 ((V.at_ : Int) + 1)) (heap_setCell_same _ q.g 4 _ _ (.slice A6 (hh + 1) c6) hg6)
  exact ⟨by rw [cell_of_row _ _ _ _ _ _ hg6]; rfl, frozen_of_row w6 q.g 4 _ _ hg6, by rw [cell_of_row _ _ _ _ _ _ hg6]; rfl, frozen_of_row w6 q.g 3 _ _ hg6,
    ⟨by rw [cell_of_row _ _ _ _ _ _ hg7]; rfl, by rw [cell_of_row _ _ _ _ _ _ hg7]; rfl, ho.bs.only o2 (fun k hk e => by have := hfr k hk; omega), hfr, by omega⟩,
    ⟨(hP.fl.below hb).apart o2 (fun j e => by subst e; exact ⟨hu.lo.1, fun e => hoff (hFF _ (.inl e)), fun e => hoff (hFF _ (.inr (.inl e))), fun e => hoff (hFF _ (.inr (.inr e)))⟩), rd, en, hu7, hrd, hen⟩, o1⟩
/-- a word was programmed, or not: the error is kept; the bytes are held no more -/
theorem rword_done {w9 : World} {q : CuAd} {gf hB hW kB kW N a c s0 n : Nat} {F : Nat → Prop} {rd en : Nat → Bool} {held : List UInt8} {y : Cp Fl} (hf : RefFl w9 gf hB hW kB kW N y.d) (hu : RefCu w9 N q gf a c rd en n held 0 F) (hrd : RdOk s0 c y.hi rd) (hen : RdOk s0 c y.ent en) (hFF : ∀ k, FlF gf hB hW k → F k) (code : Int) :
    w9.cell? ⟨q.g, 5, none⟩ = some (.int .i64 0) ∧ w9.frozen? ⟨q.g, 5, none⟩ = false ∧ (∃ v, w9.cell? ⟨q.g, 4, none⟩ = some v) ∧ w9.frozen? ⟨q.g, 4, none⟩ = false ∧
    Hid (RCuP (w9.setCell ⟨q.g, 5, none⟩ (.int .i64 code)) q gf hB hW kB kW N a c s0 F ⟨y, n, held, code⟩ ∧ RCuP ((w9.setCell ⟨q.g, 5, none⟩ (.int .i64 code)).setCell ⟨q.g, 4, none⟩ (.slice none 0 0)) q gf hB hW kB kW N a c s0 F ⟨y, n, [], code⟩ ∧
      Only (fun j => j = q.g) w9 (w9.setCell ⟨q.g, 5, none⟩ (.int .i64 code)) ∧ Only (fun j => j = q.g) w9 ((w9.setCell ⟨q.g, 5, none⟩ (.int .i64 code)).setCell ⟨q.g, 4, none⟩ (.slice none 0 0))) := by
  obtain ⟨AH, cH, hg, hbs, hcap, hao⟩ := hu.cells
  have o1 : Only (fun j => j = q.g) w9 (w9.setCell ⟨q.g, 5, none⟩ (.int .i64 code)) := (Only.refl (fun j => j = q.g) w9).own 5 _
  have o2 : Only (fun j => j = q.g) w9 ((w9.setCell ⟨q.g, 5, none⟩ (.int .i64 code)).setCell ⟨q.g, 4, none⟩ (.slice none 0 0)) := o1.own 4 _
  have hoff := hu.off.1
  have hq : ∀ j, j = q.g → j < N ∧ j ≠ gf ∧ j ≠ hB ∧ j ≠ hW := fun j e => by subst e; exact ⟨hu.lo.1, fun e => hoff (hFF _ (.inl e)), fun e => hoff (hFF _ (.inr (.inl e))), fun e => hoff (hFF _ (.inr (.inr e)))⟩
  have u1 := hu.upd (n' := n) (held' := held) (dead' := code) (AH := AH) (cH := cH) o1 (heap_setCell_same _ _ _ _ _ _ hg) (fun hl => hbs.only o1 (fun k hk => (hao hl k hk).1) hl) hcap hao
  have u2 := hu.upd (n' := n) (held' := []) (dead' := code) (AH := none) (cH := 0) o2 (heap_setCell_same _ _ _ _ _ _ (heap_setCell_same _ _ _ _ _ _ hg)) (Bs.nil_ _ _) (Nat.le_refl _) (fun h => absurd h (by simp))
  exact ⟨by rw [cell_of_row _ _ _ _ _ _ hg]; rfl, frozen_of_row w9 q.g 5 _ _ hg, ⟨_, by rw [cell_of_row _ _ _ _ _ _ hg]; rfl⟩, frozen_of_row w9 q.g 4 _ _ hg,
    ⟨hf.apart o1 hq, rd, en, u1, hrd, hen⟩, ⟨hf.apart o2 hq, rd, en, u2, hrd, hen⟩, o1, o2⟩
def RAddCut (wr : World) (q : CuAd) (gf a c n : Nat) (z : Nat) (held : List UInt8) (cr ce : Nat) (w2 : World) : Prop :=
  Only (fun j => j = q.g) wr w2 ∧ ∃ A c2, w2.heap[q.g]? = some (.cells #[.pointer (some ⟨gf, 0, none⟩), .int .i64 (a : Int), .int .i64 (c : Int), .int .i64 (n : Int), .slice A z c2, .int .i64 0, .slice (some ⟨q.r, 0, none⟩) (c + 1) cr, .slice (some ⟨q.e, 0, none⟩) (c + 1) ce] 59 (0, 0)) ∧ Bs w2 A held ∧ z ≤ c2 ∧ ∀ k, At A k → wr.heap.size ≤ k

set_option maxHeartbeats 6400000 in
theorem rwrite_any {W : World} {q : CuAd} {gf hB hW kB kW N a c s0 : Nat} {F : Nat → Prop} {U : Cu Dl} {v : Cu Fl} (h : RCuP W q gf hB hW kB kW N a c s0 F v) (hFF : ∀ k, FlF gf hB hW k → F k) (hFs : ∀ k, F k → k < W.heap.size) (hS : SU U v) (num : CuN c U) (lo : U.dead = 0 → s0 ≤ (U.at_ - U.held.length) / 1024) (ha : a ≤ 65536) (hc : c ≤ 65535) (hcr : c + 1 ≤ q.cr)
    (A : Option Addr) (l : List UInt8) (k : Nat) (hA : Bs W A l) (hoff : 0 < l.length → ∀ j, At A j → ¬ ROwn q gf hB hW j) (hk : l.length ≤ k) (hl2 : l.length ≤ 65536) (rm : Room U.x.d (10 * (l.length : Int))) :
    Calls Try.prog 20 #[.pointer (some ⟨q.g, 0, none⟩), .slice A l.length k] W fun e w' => e = .returned (.int .i64 (cwrite (refOps a c) v l).1) ∧ RCuP w' q gf hB hW kB kW N a c s0 F (cwrite (refOps a c) v l).2 ∧ Only (ROwn q gf hB hW) W w' := by
  obtain ⟨rd, en, hu, hrd, hen⟩ := h.cu
  obtain ⟨AH, cH, hg, hbs, hcap, hao⟩ := hu.cells
  have k5 : W.cell? ⟨q.g, 5, none⟩ = some (.int .i64 v.dead) := by rw [cell_of_row _ _ _ _ _ _ hg]; rfl
  have L0 : ∀ W', Below W.heap.size W W' → W'.cell? ⟨q.g, 0, none⟩ = some (.pointer (some ⟨gf, 0, none⟩)) := fun W' hW => by rw [hW.cell (p := ⟨q.g, 0, none⟩) hu.blk.1, cell_of_row _ _ _ _ _ _ hg]; rfl
  have L1 : ∀ W', Below W.heap.size W W' → W'.cell? ⟨q.g, 1, none⟩ = some (.int .i64 (a : Int)) := fun W' hW => by rw [hW.cell (p := ⟨q.g, 1, none⟩) hu.blk.1, cell_of_row _ _ _ _ _ _ hg]; rfl
  have L2 : ∀ W', Below W.heap.size W W' → W'.cell? ⟨q.g, 2, none⟩ = some (.int .i64 (c : Int)) := fun W' hW => by rw [hW.cell (p := ⟨q.g, 2, none⟩) hu.blk.1, cell_of_row _ _ _ _ _ _ hg]; rfl
  have L3 : ∀ W', Below W.heap.size W W' → W'.cell? ⟨q.g, 3, none⟩ = some (.int .i64 (v.at_ : Int)) := fun W' hW => by rw [hW.cell (p := ⟨q.g, 3, none⟩) hu.blk.1, cell_of_row _ _ _ _ _ _ hg]; rfl
  have H := Lib.hid h
  have HA := Lib.hid hA
  have HOFF := Lib.hid hoff
  have RM := Lib.hid rm
  have HSU := Lib.hid hS
  have HN := Lib.hid num
  have HLO := Lib.hid lo
  obtain ⟨z, Hz⟩ : ∃ z, Hid (l.length = z) := ⟨_, rfl⟩
  have hat := num.at_
  rw [hS.at_] at hat
  rw [Hz.out] at hk hl2 ⊢
  have hS0 : Below W.heap.size W W := Below.refl _ _
  clear h hA hoff rm hS num lo hu hrd hen hg hbs hcap hao
  by_cases hd : v.dead = 0
  · obtain ⟨y, hy⟩ : ∃ y : Int, (c : Int) * 1024 - (v.at_ : Int) = y := ⟨_, rfl⟩
    have hwr : IntKind.i64.wrap ((c : Int) * 1024 - (v.at_ : Int)) = y := by rw [hy]; exact IntWalk.i64_in _ (by omega)
    have hwr2 : IntKind.i64.wrap y = y := IntWalk.i64_in _ (by omega)
    have HY := Lib.hid hy
    rw [hd] at k5
    clear hy
    by_cases hfit : v.at_ + z ≤ c * 1024
    · have d1 : decide (y < (z : Int)) = false := decide_eq_false (by have := HY.out; omega)
      have hif : cwrite (refOps a c) v l = ((cpushes (refOps a c) v l).dead, cpushes (refOps a c) v l) := by unfold cwrite; rw [if_neg (by simpa using hd)]; exact if_neg (by show ¬ c * 1024 < _; rw [Hz.out]; omega)
      rw [hif]
      clear hif
      go_enter Try.func20, Try.ntmps20
      go_wp2_with fail
      go_region_held3 (fun W' => Below W.heap.size W W') (first | assumption | exact Below.drew (by assumption)) (first
        | (go_at_call 44; refine (rgsize_any _ _ c _ (by omega)).mono ?_; rintro e w4 ⟨rfl, hb4⟩; have kS := below_on (by assumption) hb4; clear hb4))
      go_wp2_with fail
      go_loopw [5] (fun iv wr => ∃ i : Nat, i ≤ z ∧ iv = .int .i64 (i : Int) ∧ Hid (RCuP wr q gf hB hW kB kW N a c s0 F (cpushes (refOps a c) v (l.take i))) ∧ Hid (SU (cpushes (devOps a c) U (l.take i)) (cpushes (refOps a c) v (l.take i))) ∧ Hid (CuN c (cpushes (devOps a c) U (l.take i))) ∧
          Hid ((cpushes (refOps a c) v (l.take i)).dead = 0 ∧ s0 ≤ ((cpushes (devOps a c) U (l.take i)).at_ - (cpushes (devOps a c) U (l.take i)).held.length) / 1024) ∧ Hid (Only (ROwn q gf hB hW) W wr) ∧ Hid (Room (cpushes (devOps a c) U (l.take i)).x.d (10 * ((z : Int) - (i : Int)))) ∧ Hid ((cpushes (refOps a c) v (l.take i)).at_ = v.at_ + i)) (fun iv _ => z - (intOf iv).toNat)
      case atStart =>
        refine ⟨0, Nat.zero_le _, rfl, ?_⟩
        rw [List.take_zero]
        exact ⟨Lib.hid (H.out.below kS), HSU, HN, Lib.hid ⟨hd, HLO.out (by rw [HSU.out.dead]; exact hd)⟩, Lib.hid (Only.of_below kS), Lib.hid (by have := RM.out; rw [Hz.out] at this; exact this.less (by omega)), Lib.hid rfl⟩
      case round =>
        obtain ⟨i, hi, rfl, HPv, HS, HNu, HD, HO, HR, HAT⟩ := hrel
        by_cases hlt : i < z
        · have hnv0 := rpushes_succ (a := a) (c := c) v l (k := i) (by rw [Hz.out]; exact hlt)
          have hnu0 := pushes_succ' (a := a) (c := c) U l (k := i) (by rw [Hz.out]; exact hlt)
          obtain ⟨V, Hv⟩ : ∃ V, Hid (cpushes (refOps a c) v (l.take i) = V) := ⟨_, rfl⟩
          obtain ⟨UU, Hu⟩ : ∃ UU, Hid (cpushes (devOps a c) U (l.take i) = UU) := ⟨_, rfl⟩
          obtain ⟨x, Hx⟩ : ∃ x, Hid (l.getD i 0 = x) := ⟨_, rfl⟩
          obtain ⟨b1, o1, hA1, hx⟩ := (HA.out.only HO.out (fun j hj => HOFF.out (by rw [Hz.out]; omega) j hj)).at_ (k := i) (by rw [Hz.out]; exact hlt)
          rw [Hv.out] at HPv HS HD HAT hnv0
          rw [Hu.out] at HS HNu HD HR hnu0
          rw [Hx.out] at hx hnv0 hnu0
          subst hA1
          have hsd : UU.dead = 0 := by rw [HS.out.dead]; exact HD.out.1
          obtain ⟨l1, l2, l3⟩ := HNu.out.live hsd
          rw [HS.out.at_, HS.out.held] at l2 l3
          rw [HS.out.held] at l1
          obtain ⟨rd, en, hu, hrd, hen⟩ := HPv.out.cu
          obtain ⟨AH, cH, hg, hbs, hcap, hao⟩ := hu.cells
          rw [HD.out.1] at hg hu
          obtain ⟨hh, Hh⟩ : ∃ hh, Hid (V.held.length = hh) := ⟨_, rfl⟩
          rw [Hh.out] at hg hcap l1 l2 l3
          have k3 : wr.cell? ⟨q.g, 3, none⟩ = some (.int .i64 (V.at_ : Int)) := by rw [cell_of_row _ _ _ _ _ _ hg]; rfl
          have M4 : ∀ W', Below wr.heap.size wr W' → W'.cell? ⟨q.g, 4, none⟩ = some (.slice AH hh cH) := fun W' hW => by rw [hW.cell (p := ⟨q.g, 4, none⟩) hu.blk.1, cell_of_row _ _ _ _ _ _ hg]; rfl
          have k4 : wr.cell? ⟨q.g, 4, none⟩ = some (.slice AH hh cH) := M4 wr (Below.refl _ _)
          have f3 : wr.frozen? ⟨q.g, 3, none⟩ = false := frozen_of_row wr q.g 3 _ _ hg
          have f4 : wr.frozen? ⟨q.g, 4, none⟩ = false := frozen_of_row wr q.g 4 _ _ hg
          have HBS : Hid (∀ W', Below wr.heap.size wr W' → Bs W' AH V.held) := Lib.hid fun W' hW => hbs.below hW
          have HG := Lib.hid hg
          have HUC := Lib.hid hu
          have HRD := Lib.hid hrd
          have HEN := Lib.hid hen
          have hgl := hu.blk
          have e8 : (V.held ++ [x]).length = hh + 1 := by rw [← Hh.out]; simp
          have E8 := Lib.hid e8
          have hxa : ∀ W', Below wr.heap.size wr W' → W'.cell? ⟨b1, o1 + i, none⟩ = some (.int .u8 (x.toNat : Int)) := fun W' hW => by rw [hW.cell (p := ⟨b1, o1 + i, none⟩) (World.block_lt_of_cell? wr _ hx)]; exact hx
          clear hg hbs hcap hao hu hrd hen
          have hsu2 := push_su (a := a) (c := c) HS.out (HR.out.less (by omega)) x
          have hcn2 := push_cn (a := a) (c := c) (u := UU) (HR.out.less (by omega)) x
          have hrm2 : Room (cpush (devOps a c) UU x).x.d (10 * ((z : Int) - ((i + 1 : Nat) : Int))) := Room.after (k := 10) (HR.out.less (by omega)) hcn2
          have hnn2 := push_n (a := a) HNu.out (by rw [HS.out.at_]; have := HAT.out; omega) x
          have HNV := Lib.hid hnv0
          have HNW := Lib.hid hnu0
          have HSU2 := Lib.hid hsu2
          have HRM2 := Lib.hid hrm2
          have HNN2 := Lib.hid hnn2
          have HVB : Hid (s0 ≤ (V.at_ - hh) / 1024 ∧ hh ≤ V.at_ ∧ V.at_ < c * 1024) := Lib.hid (by
            have q1 := HD.out.2
            rw [HS.out.at_, HS.out.held, Hh.out] at q1
            have q2 := HNu.out.hat
            rw [HS.out.at_, HS.out.held, Hh.out] at q2
            have := HAT.out
            exact ⟨q1, q2, by omega⟩)
          have hvz : V.at_ ≤ 67108864 := by have := HVB.out; omega
          clear hnv0 hnu0 hsu2 hcn2 hrm2 hnn2
          by_cases h7 : hh + 1 = 8
          · obtain rfl : hh = 7 := by omega
            have E8 : Hid ((V.held ++ [x]).length = 8) := E8
            have hpush : Hid (cpush (refOps a c) V x = cput (cword (refOps a c) V.x (V.at_ + 1 - 8) (V.held ++ [x])) (V.at_ + 1) (V.held ++ [x])) := Lib.hid (by unfold cpush; rw [if_neg (by simpa using HD.out.1), if_pos (by omega)])
            obtain ⟨t, Ht⟩ : ∃ t, Hid (V.at_ + 1 - 8 = t) := ⟨_, rfl⟩
            have htq : (V.at_ : Int) + 1 - 8 = (t : Int) := by have := Ht.out; have := HVB.out; omega
            have htw : IntKind.i64.wrap ((V.at_ : Int) + 1 - 8) = (t : Int) := by rw [htq]; exact IntWalk.i64_in _ (by omega)
            have htw2 : IntKind.i64.wrap (t : Int) = (t : Int) := IntWalk.i64_in _ (by omega)
            rw [Ht.out] at hpush
            obtain ⟨pc, py, Hq⟩ : ∃ pc py, Hid (cword (refOps a c) V.x t (V.held ++ [x]) = (pc, py)) := ⟨_, _, rfl⟩
            rw [Hq.out] at hpush
            have HWD : Hid (∀ W' A6 c6, RCuP W' q gf hB hW kB kW N a c s0 F ⟨V.x, V.at_ + 1, V.held ++ [x], 0⟩ → Bs W' A6 (V.held ++ [x]) → (∀ k, At A6 k → wr.heap.size ≤ k) → 8 ≤ c6 → Calls Try.prog 48 #[.pointer (some ⟨q.g, 0, none⟩), .int .i64 (t : Int), .slice A6 8 c6] W' (RWordPost W' q gf hB hW kB kW N a c s0 F (V.at_ + 1) (V.held ++ [x]) 0 (pc, py))) := Lib.hid fun W' A6 c6 hp hb hfr hc6 => by
              obtain ⟨rd, en, hu, hrd, hen⟩ := hp.cu
              have hl3 := l3
              have hv := HVB.out
              have ht := Ht.out
              have e : (V.at_ - 7) / 1024 = t / 1024 := by omega
              rw [e] at hl3
              have := rword_any (s0 := s0) (X := UU.x) hp.fl HS.out.sc (HR.out.less (by omega)) hFF hu hrd hen ha hc hcr t (by omega) (by rw [← e]; exact hv.1) (by rw [← HS.out.sc.hi]; exact hl3.hi) (by rw [← HS.out.sc.ent]; exact hl3.ent2) A6 (V.held ++ [x]) c6 hb (fun _ j hj => by
                have h1 := hfr j hj
                exact ⟨by omega, by omega, fun hf => by have := hFs j (hFF _ hf); have := HO.out.size; omega⟩) (by rw [E8.out]; exact hc6) (by rw [E8.out]; omega)
              rw [E8.out, Hq.out] at this
              exact this
            by_cases hpc : pc = 0
            · subst hpc
              have hpush2 : Hid (cpush (refOps a c) V x = ⟨py, V.at_ + 1, [], 0⟩) := Lib.hid (by rw [hpush.out]; unfold cput; dsimp only; rw [if_pos rfl])
              have HDD : Hid ((cpush (refOps a c) V x).dead = 0 ∧ s0 ≤ ((cpush (devOps a c) UU x).at_ - (cpush (devOps a c) UU x).held.length) / 1024) := Lib.hid (by
                rw [HSU2.out.at_, HSU2.out.held, hpush2.out]
                dsimp only
                exact ⟨rfl, by have := HVB.out.1; simp; omega⟩)
              have HA2 : Hid ((cpush (refOps a c) V x).at_ = v.at_ + (i + 1)) := Lib.hid (by rw [hpush2.out]; dsimp only; rw [HAT.out]; omega)
              go_wp2_with fail
              go_region_law (first
                | (refine step_append_bs rfl (.const (.slice none 0 0)) (.tmp 38) 22 rfl wr.heap.size 5 Try.underlying22 info5 (.slice none 0 0) [] rfl (Ob.nil_ _ _ _) AH V.held 7 cH rfl Hh.out.symm (by first | exact HBS.out _ (Below.refl _ _).drew | exact HBS.out _ ((Below.refl _ _).drew.alloc (Nat.le_refl _) _)) (by have := Hh.out; simp; omega) (by simp) ?_; intro v5 w5 ho5 hgr5; have hb5 : Below wr.heap.size wr w5 := (by first | exact below_on (Below.refl _ _).drew (below_of_grown hgr5) | exact below_on ((Below.refl _ _).drew.alloc (Nat.le_refl _) _) (below_of_grown hgr5)); have KG := Lib.hid (below_of_grown hgr5); obtain ⟨A5, c5, rfl, -, -⟩ := ho5.form; have O5 := Lib.hid ho5; have x5 := hxa w5 hb5; clear ho5 hgr5)
                | (refine step_append_bs rfl (.tmp 39) (.tmp 44) 22 rfl wr.heap.size 5 Try.underlying22 info5 _ V.held rfl (by first | exact O5.out | exact O5.out.below ((Below.refl _ _).alloc (Nat.le_refl _) _)) _ [x] 1 1 rfl rfl (by first | exact bs_one (heap_alloc_new _ _) | exact Bs.below (w := (wr.alloc (.cells #[.int .u8 (x.toNat : Int)] 5)).drew) ((bs_one (heap_alloc_new _ _)).below (Below.refl _ _).drew) KG.out) (by have := Hh.out; simp; omega) (by have := hb5.size; first | exact this | (simp; omega)) ?_; intro v6 w6 ho6 hgr6; have kb6 : Below wr.heap.size wr w6 := (by first | exact hb5.grown hgr6 hb5.size (fun k hk => O5.out.fresh k (own_at hk)) | exact (hb5.alloc hb5.size _).grown hgr6 (by have := hb5.size; simp; omega) (fun k hk => O5.out.fresh k (own_at hk))); obtain ⟨A6, c6, rfl, -, -⟩ := ho6.form; rw [E8.out]; have hst := radd_done HPv.out HUC.out HRD.out HEN.out HG.out hFF hFs HO.out.size kb6 ho6 E8.out; simp only [Nat.reduceAdd] at hst; obtain ⟨c46, f46, c36, f36, HQ7, HP7⟩ := hst; clear ho6 hgr6))
              all_goals
                go_wp2_with fail
                obtain ⟨w7, Hw7⟩ : ∃ w7, Hid ((w6.setCell ⟨q.g, 4, none⟩ (.slice A6 8 c6)).setCell ⟨q.g, 3, none⟩ (.int .i64 ((V.at_ : Int) + 1)) = w7) := ⟨_, rfl⟩
                rw [Hw7.out] at HQ7 HP7 ⊢
                obtain ⟨j4, j3, jb, jf, jc⟩ := HQ7.out
                have JB := Lib.hid jb
                have JF := Lib.hid jf
                have HW7 : Hid (∀ W', Below w7.heap.size w7 W' → Calls Try.prog 48 #[.pointer (some ⟨q.g, 0, none⟩), .int .i64 (t : Int), .slice A6 8 c6] W' (RWordPost W' q gf hB hW kB kW N a c s0 F (V.at_ + 1) (V.held ++ [x]) 0 (0, py))) := Lib.hid fun W' hW => HWD.out W' A6 c6 (HP7.out.1.below hW) (jb.below hW) jf jc
                clear jb jf
                go_region_law (first
                  | (go_simp; go_at_call 48; (with_reducible refine (HW7.out _ (by first | exact Below.refl _ _ | exact (Below.refl _ _).drew)).mono ?_); intro e w9 hp9; obtain ⟨rfl, hfl9, ⟨rd9, en9, hu9, hr9, he9⟩, ho9⟩ := hp9; have hd9 := rword_done hfl9 hu9 hr9 he9 hFF 0; obtain ⟨c95, f95, ⟨v94, c94⟩, f94, HD9⟩ := hd9; have HO9 := Lib.hid ho9; clear hfl9 hu9 hr9 he9 ho9))
                all_goals
                  have HOO : Hid (Only (ROwn q gf hB hW) W w9) := Lib.hid ((HO.out.trans (HP7.out.2.mono fun _ _ h => .inr (.inr (.inr h)))).trans ((Only.of_below (Below.refl _ _).drew).trans (HO9.out.mono fun _ _ h => by rcases h with h | h | h; exact .inl h; exact .inr (.inl h); exact .inr (.inr (.inl h)))))
                  go_wp2_with fail
                  go_roundw
                  case rel =>
                    refine ⟨i + 1, by omega, by go_num, ?_⟩
                    rw [HNV.out, HNW.out]
                    exact ⟨by rw [hpush2.out]; first | exact Lib.hid HD9.out.2.1 | exact Lib.hid (HD9.out.2.1.below (Below.refl _ _).drew), HSU2, HNN2, HDD, by first | exact Lib.hid (HOO.out.trans (HD9.out.2.2.2.mono fun _ _ h => .inr (.inr (.inr h)))) | exact Lib.hid ((HOO.out.trans (HD9.out.2.2.2.mono fun _ _ h => .inr (.inr (.inr h)))).drew), HRM2, HA2⟩
                  case measure => simp [intOf]; omega
            · have hpc2 : (pc == 0) = false := by simpa using hpc
              have hpush2 : Hid (cpush (refOps a c) V x = ⟨py, V.at_ + 1, V.held ++ [x], pc⟩) := Lib.hid (by rw [hpush.out]; unfold cput; dsimp only; rw [if_neg hpc])
              have HEND : Hid (cpushes (refOps a c) v l = ⟨py, V.at_ + 1, V.held ++ [x], pc⟩) := Lib.hid (by
                have e : l = l.take (i + 1) ++ l.drop (i + 1) := (List.take_append_drop (i + 1) l).symm
                have hn := HNV.out
                rw [hpush2.out] at hn
                rw (occs := .pos [1]) [e]
                rw [cpushes_append, hn]
                exact cpushes_dead _ hpc _)
              go_wp2_with fail
              go_region_law (first
                | (refine step_append_bs rfl (.const (.slice none 0 0)) (.tmp 38) 22 rfl wr.heap.size 5 Try.underlying22 info5 (.slice none 0 0) [] rfl (Ob.nil_ _ _ _) AH V.held 7 cH rfl Hh.out.symm (by first | exact HBS.out _ (Below.refl _ _).drew | exact HBS.out _ ((Below.refl _ _).drew.alloc (Nat.le_refl _) _)) (by have := Hh.out; simp; omega) (by simp) ?_; intro v5 w5 ho5 hgr5; have hb5 : Below wr.heap.size wr w5 := (by first | exact below_on (Below.refl _ _).drew (below_of_grown hgr5) | exact below_on ((Below.refl _ _).drew.alloc (Nat.le_refl _) _) (below_of_grown hgr5)); have KG := Lib.hid (below_of_grown hgr5); obtain ⟨A5, c5, rfl, -, -⟩ := ho5.form; have O5 := Lib.hid ho5; have x5 := hxa w5 hb5; clear ho5 hgr5)
                | (refine step_append_bs rfl (.tmp 39) (.tmp 44) 22 rfl wr.heap.size 5 Try.underlying22 info5 _ V.held rfl (by first | exact O5.out | exact O5.out.below ((Below.refl _ _).alloc (Nat.le_refl _) _)) _ [x] 1 1 rfl rfl (by first | exact bs_one (heap_alloc_new _ _) | exact Bs.below (w := (wr.alloc (.cells #[.int .u8 (x.toNat : Int)] 5)).drew) ((bs_one (heap_alloc_new _ _)).below (Below.refl _ _).drew) KG.out) (by have := Hh.out; simp; omega) (by have := hb5.size; first | exact this | (simp; omega)) ?_; intro v6 w6 ho6 hgr6; have kb6 : Below wr.heap.size wr w6 := (by first | exact hb5.grown hgr6 hb5.size (fun k hk => O5.out.fresh k (own_at hk)) | exact (hb5.alloc hb5.size _).grown hgr6 (by have := hb5.size; simp; omega) (fun k hk => O5.out.fresh k (own_at hk))); obtain ⟨A6, c6, rfl, -, -⟩ := ho6.form; rw [E8.out]; have hst := radd_done HPv.out HUC.out HRD.out HEN.out HG.out hFF hFs HO.out.size kb6 ho6 E8.out; simp only [Nat.reduceAdd] at hst; obtain ⟨c46, f46, c36, f36, HQ7, HP7⟩ := hst; clear ho6 hgr6))
              all_goals
                go_wp2_with fail
                obtain ⟨w7, Hw7⟩ : ∃ w7, Hid ((w6.setCell ⟨q.g, 4, none⟩ (.slice A6 8 c6)).setCell ⟨q.g, 3, none⟩ (.int .i64 ((V.at_ : Int) + 1)) = w7) := ⟨_, rfl⟩
                rw [Hw7.out] at HQ7 HP7 ⊢
                obtain ⟨j4, j3, jb, jf, jc⟩ := HQ7.out
                have JB := Lib.hid jb
                have JF := Lib.hid jf
                have HW7 : Hid (∀ W', Below w7.heap.size w7 W' → Calls Try.prog 48 #[.pointer (some ⟨q.g, 0, none⟩), .int .i64 (t : Int), .slice A6 8 c6] W' (RWordPost W' q gf hB hW kB kW N a c s0 F (V.at_ + 1) (V.held ++ [x]) 0 (pc, py))) := Lib.hid fun W' hW => HWD.out W' A6 c6 (HP7.out.1.below hW) (jb.below hW) jf jc
                clear jb jf
                go_region_law (first
                  | (go_simp; go_at_call 48; (with_reducible refine (HW7.out _ (by first | exact Below.refl _ _ | exact (Below.refl _ _).drew)).mono ?_); intro e w9 hp9; obtain ⟨rfl, hfl9, ⟨rd9, en9, hu9, hr9, he9⟩, ho9⟩ := hp9; have hd9 := rword_done hfl9 hu9 hr9 he9 hFF pc; obtain ⟨c95, f95, ⟨v94, c94⟩, f94, HD9⟩ := hd9; have HO9 := Lib.hid ho9; clear hfl9 hu9 hr9 he9 ho9))
                all_goals
                  have HOO : Hid (Only (ROwn q gf hB hW) W w9) := Lib.hid ((HO.out.trans (HP7.out.2.mono fun _ _ h => .inr (.inr (.inr h)))).trans ((Only.of_below (Below.refl _ _).drew).trans (HO9.out.mono fun _ _ h => by rcases h with h | h | h; exact .inl h; exact .inr (.inl h); exact .inr (.inr (.inl h)))))
                  go_wp2_with fail
                  go_ret
                  rw [HEND.out]
                  first
                    | exact ⟨rfl, HD9.out.1, HOO.out.trans (HD9.out.2.2.1.mono fun _ _ h => .inr (.inr (.inr h)))⟩
                    | exact ⟨rfl, HD9.out.1.below (Below.refl _ _).drew, (HOO.out.trans (HD9.out.2.2.1.mono fun _ _ h => .inr (.inr (.inr h)))).drew⟩
          · have d8 : ((hh : Int) + 1 == 8) = false := by simp; omega
            have hpush : Hid (cpush (refOps a c) V x = ⟨V.x, V.at_ + 1, V.held ++ [x], 0⟩) := Lib.hid (by unfold cpush; rw [if_neg (by simpa using HD.out.1), if_neg (by omega)])
            have HDD : Hid ((cpush (refOps a c) V x).dead = 0 ∧ s0 ≤ ((cpush (devOps a c) UU x).at_ - (cpush (devOps a c) UU x).held.length) / 1024) := Lib.hid (by
              rw [HSU2.out.at_, HSU2.out.held, hpush.out]
              dsimp only
              rw [E8.out, show V.at_ + 1 - (hh + 1) = V.at_ - hh by omega]
              exact ⟨rfl, HVB.out.1⟩)
            have HA2 : Hid ((cpush (refOps a c) V x).at_ = v.at_ + (i + 1)) := Lib.hid (by rw [hpush.out]; dsimp only; rw [HAT.out]; omega)
            go_wp2_with fail
            go_region_law (first
              | (refine step_append_bs rfl (.const (.slice none 0 0)) (.tmp 38) 22 rfl wr.heap.size 5 Try.underlying22 info5 (.slice none 0 0) [] rfl (Ob.nil_ _ _ _) AH V.held hh cH rfl Hh.out.symm (by first | exact HBS.out _ (Below.refl _ _).drew | exact HBS.out _ ((Below.refl _ _).drew.alloc (Nat.le_refl _) _)) (by have := Hh.out; simp; omega) (by simp) ?_; intro v5 w5 ho5 hgr5; have hb5 : Below wr.heap.size wr w5 := (by first | exact below_on (Below.refl _ _).drew (below_of_grown hgr5) | exact below_on ((Below.refl _ _).drew.alloc (Nat.le_refl _) _) (below_of_grown hgr5)); have KG := Lib.hid (below_of_grown hgr5); obtain ⟨A5, c5, rfl, -, -⟩ := ho5.form; have O5 := Lib.hid ho5; have x5 := hxa w5 hb5; clear ho5 hgr5)
              | (refine step_append_bs rfl (.tmp 39) (.tmp 44) 22 rfl wr.heap.size 5 Try.underlying22 info5 _ V.held rfl (by first | exact O5.out | exact O5.out.below ((Below.refl _ _).alloc (Nat.le_refl _) _)) _ [x] 1 1 rfl rfl (by first | exact bs_one (heap_alloc_new _ _) | exact Bs.below (w := (wr.alloc (.cells #[.int .u8 (x.toNat : Int)] 5)).drew) ((bs_one (heap_alloc_new _ _)).below (Below.refl _ _).drew) KG.out) (by have := Hh.out; simp; omega) (by have := hb5.size; first | exact this | (simp; omega)) ?_; intro v6 w6 ho6 hgr6; have kb6 : Below wr.heap.size wr w6 := (by first | exact hb5.grown hgr6 hb5.size (fun k hk => O5.out.fresh k (own_at hk)) | exact (hb5.alloc hb5.size _).grown hgr6 (by have := hb5.size; simp; omega) (fun k hk => O5.out.fresh k (own_at hk))); obtain ⟨A6, c6, rfl, -, -⟩ := ho6.form; rw [E8.out]; have hst := radd_done HPv.out HUC.out HRD.out HEN.out HG.out hFF hFs HO.out.size kb6 ho6 E8.out; obtain ⟨c46, f46, c36, f36, HQ7, HP7⟩ := hst; clear ho6 hgr6))
            all_goals
              go_wp2_with fail
              go_roundw
              case rel =>
                refine ⟨i + 1, by omega, by go_num, ?_⟩
                rw [HNV.out, HNW.out]
                exact ⟨by rw [hpush.out]; first | exact Lib.hid HP7.out.1 | exact Lib.hid (HP7.out.1.below (Below.refl _ _).drew), HSU2, HNN2, HDD, by first | exact Lib.hid (HO.out.trans (HP7.out.2.mono fun _ _ h => .inr (.inr (.inr h)))) | exact Lib.hid (HO.out.trans ((HP7.out.2.mono fun _ _ h => .inr (.inr (.inr h))).drew)), HRM2, HA2⟩
              case measure => simp [intOf]; omega
        · obtain rfl : i = z := by omega
          have hall : l.take i = l := List.take_of_length_le (by rw [Hz.out]; exact Nat.le_refl _)
          rw [hall] at HPv HD
          have HE : Hid (RCuP wr q gf hB hW kB kW N a c s0 F (cpushes (refOps a c) v l) ∧ (cpushes (refOps a c) v l).dead = 0) := Lib.hid ⟨HPv.out, HD.out.1⟩
          clear hall
          go_wp2_with fail
          go_ret
          exact ⟨by rw [HE.out.2]; rfl, HE.out.1, HO.out⟩
    · have d1 : decide (y < (z : Int)) = true := decide_eq_true (by have := HY.out; omega)
      have hif : cwrite (refOps a c) v l = (2, v) := by unfold cwrite; rw [if_neg (by simpa using hd)]; exact if_pos (by show c * 1024 < _; rw [Hz.out]; omega)
      rw [hif]
      clear hif
      go_enter Try.func20, Try.ntmps20
      go_wp2_with fail
      go_region_held3 (fun W' => Below W.heap.size W W') (first | assumption | exact Below.drew (by assumption)) (first
        | (go_at_call 44; refine (rgsize_any _ _ c _ (by omega)).mono ?_; rintro e w4 ⟨rfl, hb4⟩; have kS := below_on (by assumption) hb4; clear hb4))
      go_wp2_with fail
      go_ret
      exact ⟨rfl, H.out.below kS, Only.of_below kS⟩
  · have hd2 : (v.dead == 0) = false := by simpa using hd
    have hif : cwrite (refOps a c) v l = (v.dead, v) := by unfold cwrite; rw [if_pos hd]
    rw [hif]
    clear hif
    go_enter Try.func20, Try.ntmps20
    go_wp2_with fail
    go_ret
    exact ⟨rfl, H.out, Only.refl _ _⟩
end Go.Proofs.Ytcpkmhhlcmnfdaa

