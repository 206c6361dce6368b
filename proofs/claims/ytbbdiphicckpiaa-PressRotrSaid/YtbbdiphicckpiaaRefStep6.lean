/- The contract of the reference's Step. -/
import Derived.Test.YtbbdiphicckpiaaRefWords6
import Derived.Test.YtbbdiphicckpiaaRefTables6
namespace Go.Proofs.Ytbbdiphicckpiaa
open Go.RowKit
set_option linter.unusedVariables false
set_option maxRecDepth 100000

theorem below_setRow {B g : Nat} {a w : World} {cs : Array Value} (h : Below B a w) (hg : B ≤ g) : Below B a (w.setRow g cs) :=
  ⟨h.os, h.tape, h.output, by have := h.size; simpa using this, fun j hj => by rw [setRow_other _ _ _ _ (by omega)]; exact h.block j hj⟩

/-- the tables' words -/
def ksL : List W64 := (List.range 80).map fun i => BitVec.ofNat 64 (fR i)
theorem tabW_ks : tabU fR 80 80 = tabW ksL := by
  have e : (List.range 80).map (fun i => Value.int .u64 (((if i < 80 then fR i else 0 : Nat)) : Int)) = ksL.map wv := by
    unfold ksL
    apply List.ext_getElem (by simp)
    intro i h1 h2
    have hi : i < 80 := by simpa using h1
    have hf : fR i < 18446744073709551616 := sqv_lt _ _
    simp [hi, wv, Nat.mod_eq_of_lt hf]
  unfold tabU tabW
  rw [e]

def St.l (v : St) : List W64 := [v.a, v.b, v.c, v.d, v.e, v.f, v.g, v.h]
theorem St.len (v : St) : v.l.length = 8 := rfl

theorem not_w (x : W64) : bits .xor .u64 18446744073709551615 (x.toNat : Int) = ((~~~x).toNat : Int) := by
  have h := xor_w (BitVec.allOnes 64) x
  rw [BitVec.allOnes_xor] at h
  exact h

/-- the state behind k sums -/
def addTo (u s : St) (k : Nat) : List W64 := (List.range 8).map fun i => if i < k then wG u.l i + wG s.l i else wG u.l i
theorem addTo_len (u s : St) (k : Nat) : (addTo u s k).length = 8 := by simp [addTo]
theorem addTo_zero (u s : St) : addTo u s 0 = u.l := rfl
theorem addTo_end (u s : St) : addTo u s 8 = (stAdd u s).l := rfl
theorem addTo_at (u s : St) {k : Nat} (h : k < 8) : wG (addTo u s k) k = wG u.l k := by
  simp [addTo, wG, h]
theorem addTo_set (u s : St) {k : Nat} (h : k < 8) : (addTo u s k).set k (wG u.l k + wG s.l k) = addTo u s (k + 1) := by
  apply List.ext_getElem (by simp [addTo])
  intro i h1 h2
  rw [List.getElem_set]
  by_cases e : k = i
  · subst e; simp [addTo]
  · rw [if_neg e]
    simp only [addTo, List.getElem_map, List.getElem_range]
    by_cases g : i < k
    · rw [if_pos g, if_pos (by omega)]
    · rw [if_neg g, if_neg (by omega)]

theorem build_w (z : Array Value) (hz : ∀ u, (zeroValue 23).run Try.prog u = .ok (.agg z) u) (n : z.size = 8) (x0 x1 x2 x3 x4 x5 x6 x7 : Int) (u : World) :
    (Instr.build 23 #[(0, .int .u64 x0), (1, .int .u64 x1), (2, .int .u64 x2), (3, .int .u64 x3), (4, .int .u64 x4), (5, .int .u64 x5), (6, .int .u64 x6), (7, .int .u64 x7)]).run Try.prog u
      = .ok (.agg #[.int .u64 x0, .int .u64 x1, .int .u64 x2, .int .u64 x3, .int .u64 x4, .int .u64 x5, .int .u64 x6, .int .u64 x7]) u := by
  obtain ⟨l, rfl⟩ : ∃ l : List Value, z = l.toArray := ⟨z.toList, by simp⟩
  match l, n with
  | [a, b, c, d, e, f, g, h], _ =>
    have hu := Try.underlying23
    simp [Instr.build, hz, Value.cells, run_underlying hu, Instr.fill]
theorem run_value {P : Program} {s : Sem Value} {v : Value} {w : World} (h : s.run P w = .ok v w) : (do pure (Next.value (← s)) : Sem Next).run P w = .ok (.value v) w := by
  simp [h]

/-- what stands where, while it steps -/
structure StepI (w wr : World) (g gW gK : Nat) (S z8 WW KK V : Array Value) : Prop where
  low : g + 1 + 1 < gW
  mid : gW < gK
  s : wr.heap[g]? = some (.cells S 23 (0, 0))
  z : wr.heap[g + 1 + 1]? = some (.cells z8 23 (0, 0))
  ws : wr.heap[gW]? = some (.cells WW 27 (0, 0))
  ks : wr.heap[gK]? = some (.cells KK 27 (0, 0))
  v : wr.heap[gK + 1]? = some (.cells V 23 (0, 0))
  below : Below g w wr
theorem StepI.setV {w wr : World} {g gW gK : Nat} {S z8 WW KK V : Array Value} (h : StepI w wr g gW gK S z8 WW KK V) (q : Nat) (V' : Array Value) : StepI w ((wr.drewN q).setRow (gK + 1) V') g gW gK S z8 WW KK V' := by
  have := h.low
  have := h.mid
  refine ⟨h.low, h.mid, ?_, ?_, ?_, ?_, setRow_heap (wr.drewN q) _ _ _ _ _ h.v, below_setRow (below_drewN' h.below q) (by omega)⟩
  · rw [setRow_other _ _ _ _ (by omega)]; exact h.s
  · rw [setRow_other _ _ _ _ (by omega)]; exact h.z
  · rw [setRow_other _ _ _ _ (by omega)]; exact h.ws
  · rw [setRow_other _ _ _ _ (by omega)]; exact h.ks

set_option maxHeartbeats 3200000 in
theorem rstep_any (s : St) (m : List W64) (hm : m.length = 16) (w : World) :
    Calls Try.prog 10 #[.agg (tabW s.l), .agg (tabW m)] w fun e w' => e = .returned (.agg (tabW (stepW ksL s m).l)) ∧ Below w.heap.size w w' := by
  have hz8 := fun u => zero_tabW 23 8 (by kernel_rfl) u
  have hz80 := fun u => zero_tabW 27 80 (by kernel_rfl) u
  obtain ⟨S, hS⟩ : ∃ t, tabW s.l = t := ⟨_, rfl⟩
  obtain ⟨M, hM⟩ : ∃ t, tabW m = t := ⟨_, rfl⟩
  obtain ⟨z8, hz8e⟩ : ∃ t, tabW (List.replicate 8 0) = t := ⟨_, rfl⟩
  obtain ⟨z80, hz80e⟩ : ∃ t, tabW (List.replicate 80 0) = t := ⟨_, rfl⟩
  obtain ⟨WW, hWW⟩ : ∃ t, tabW (sch m 80) = t := ⟨_, rfl⟩
  obtain ⟨KK, hKK⟩ : ∃ t, tabW ksL = t := ⟨_, rfl⟩
  have nS : S.size = 8 := by rw [← hS, tabW_size]; rfl
  have nM : M.size = 16 := by rw [← hM, tabW_size, hm]
  have n8 : z8.size = 8 := by rw [← hz8e, tabW_size]; simp
  have n80 : z80.size = 80 := by rw [← hz80e, tabW_size]; simp
  have nW : WW.size = 80 := by rw [← hWW, tabW_size, sch_len]
  have nK : KK.size = 80 := by rw [← hKK, tabW_size]; simp [ksL]
  have oS : S.all (·.oneCell') = true := by rw [← hS]; exact tabW_one _
  have oW : WW.all (·.oneCell') = true := by rw [← hWW]; exact tabW_one _
  have oK : KK.all (·.oneCell') = true := by rw [← hKK]; exact tabW_one _
  have iS : (Try.prog.info? 23).map (·.size) = some S.size := by rw [nS]; kernel_rfl
  have iM : (Try.prog.info? 24).map (·.size) = some M.size := by rw [nM]; kernel_rfl
  have iW : (Try.prog.info? 27).map (·.size) = some WW.size := by rw [nW]; kernel_rfl
  have iK : (Try.prog.info? 27).map (·.size) = some KK.size := by rw [nK]; kernel_rfl
  have HSch : Hid (∀ W : World, Calls Try.prog 12 #[.agg M] W fun e w' => e = .returned (.agg WW) ∧ Below W.heap.size W w') := Lib.hid (by rw [← hM, ← hWW]; exact fun W => rsched_any m hm W)
  have HRnd : Hid (∀ W : World, Calls Try.prog 23 #[] W fun e w' => e = .returned (.agg KK) ∧ Below W.heap.size W w') := Lib.hid (by rw [← hKK, ← tabW_ks]; exact fun W => rrounds_any W)
  have HR : Hid (∀ (x : W64) (n : Int), -9223372036854775808 ≤ n → n ≤ 9223372036854775807 → ∀ W : World, Calls Try.prog 14 #[.int .u64 (x.toNat : Int), .int .i64 n] W fun e w' => e = .returned (.int .u64 ((rot x n).toNat : Int)) ∧ w' = W) :=
    Lib.hid fun x n h1 h2 W => (rrotr_any x n h1 h2 W).mono fun e w' h => ⟨h.1, h.2.symm⟩
  rw [hS, hM]
  rw [hz8e] at hz8
  rw [hz80e] at hz80
  have HS := Lib.hid hS
  have HWW := Lib.hid hWW
  have HKK := Lib.hid hKK
  clear hS hM hz8e hz80e hWW hKK
  have hM0 : (((w.alloc (.cells S 23)).alloc (.cells M 24)).alloc (.cells z8 23)).heap[w.heap.size + 1]? = some (.cells M 24 (0, 0)) := by
    rw [heap_alloc_old _ _ (by rw [World.size_alloc, World.size_alloc]; omega)]
    exact heap_alloc2_new _ _ _
  have a0 : (((w.alloc (.cells S 23)).alloc (.cells M 24)).alloc (.cells z8 23)).heap[w.heap.size]? = some (.cells S 23 (0, 0)) := by
    rw [heap_alloc_old _ _ (by rw [World.size_alloc, World.size_alloc]; omega)]
    exact heap_alloc2_old _ _ _
  have a2 : (((w.alloc (.cells S 23)).alloc (.cells M 24)).alloc (.cells z8 23)).heap[w.heap.size + 1 + 1]? = some (.cells z8 23 (0, 0)) := by
    have := heap_alloc_new ((w.alloc (.cells S 23)).alloc (.cells M 24)) (.cells z8 23)
    rwa [World.size_alloc, World.size_alloc] at this
  have ab : Below w.heap.size w (((w.alloc (.cells S 23)).alloc (.cells M 24)).alloc (.cells z8 23)) := below_alloc (below_alloc (below_alloc (Below.refl _ w) _) _) _
  have asz : (((w.alloc (.cells S 23)).alloc (.cells M 24)).alloc (.cells z8 23)).heap.size = w.heap.size + 1 + 1 + 1 := by rw [World.size_alloc, World.size_alloc, World.size_alloc]
  have A0 := Lib.hid a0
  have A2 := Lib.hid a2
  have AB := Lib.hid ab
  have AS := Lib.hid asz
  clear a0 a2 ab asz
  go_enter Try.func10, Try.ntmps10
  go_wp2_with (refine wpList_load_row rfl 24 (.tmp 3) rfl (w.heap.size + 1) rfl 24 M (0, 0) _ hM0 Try.underlying24 rfl iM ?_)
  with_reducible refine (HSch.out _).mono ?_
  rintro e w1 ⟨rfl, hb1⟩
  have hs1 := hb1.size
  rw [AS.out] at hs1
  have b0 := hb1.block w.heap.size (by rw [AS.out]; omega)
  rw [A0.out] at b0
  have b2 := hb1.block (w.heap.size + 1 + 1) (by rw [AS.out]; omega)
  rw [A2.out] at b2
  have bb : Below w.heap.size w w1 := below_next AB.out hb1
  have hW0 : (w1.alloc (.cells z80 27)).heap[w1.heap.size]? = some (.cells z80 27 (0, 0)) := heap_alloc_new _ _
  have zW : z80.size = WW.size := by rw [n80, nW]
  have zK : z80.size = KK.size := by rw [n80, nK]
  have B0 := Lib.hid b0
  have B2 := Lib.hid b2
  have BB := Lib.hid bb
  have HS1 := Lib.hid hs1
  clear b0 b2 bb hb1 AB A0 A2 AS hM0 HSch hs1
  go_wp2_with (refine wpList_store_row rfl 27 (.tmp 5) (.tmp 15) rfl w1.heap.size WW rfl rfl 27 z80 hW0 iW zW oW ?_)
  with_reducible refine (HRnd.out _).mono ?_
  rintro e w2 ⟨rfl, hb2⟩
  have hs2 := hb2.size
  replace hs2 : w1.heap.size + 1 ≤ w2.heap.size := by simpa using hs2
  have c0 := hb2.block w.heap.size (by have := HS1.out; simp; omega)
  rw [setRow_other _ _ _ _ (by have := HS1.out; omega), heap_alloc_old _ _ (by have := HS1.out; omega), B0.out] at c0
  have c2 := hb2.block (w.heap.size + 1 + 1) (by have := HS1.out; simp; omega)
  rw [setRow_other _ _ _ _ (by have := HS1.out; omega), heap_alloc_old _ _ (by have := HS1.out; omega), B2.out] at c2
  have cW := hb2.block w1.heap.size (by simp)
  rw [setRow_heap _ _ _ _ _ _ hW0] at cW
  have cb : Below w.heap.size w w2 := below_next (below_setRow (below_alloc BB.out _) (by have := HS1.out; omega)) hb2
  have hK0 : (w2.alloc (.cells z80 27)).heap[w2.heap.size]? = some (.cells z80 27 (0, 0)) := heap_alloc_new _ _
  have hK1 : ((w2.alloc (.cells z80 27)).setRow w2.heap.size KK).heap[w.heap.size]? = some (.cells S 23 (0, 0)) := by
    rw [setRow_other _ _ _ _ (by have := HS1.out; omega), heap_alloc_old _ _ (by have := HS1.out; omega)]; exact c0
  have hV0 : (((w2.alloc (.cells z80 27)).setRow w2.heap.size KK).alloc (.cells z8 23)).heap[w2.heap.size + 1]? = some (.cells z8 23 (0, 0)) := by
    have := heap_alloc_new ((w2.alloc (.cells z80 27)).setRow w2.heap.size KK) (.cells z8 23)
    simpa using this
  have z8S : z8.size = S.size := by rw [n8, nS]
  have HI : Hid (StepI w ((((w2.alloc (.cells z80 27)).setRow w2.heap.size KK).alloc (.cells z8 23)).setRow (w2.heap.size + 1) S) w.heap.size w1.heap.size w2.heap.size S z8 WW KK S) := by
    have h1 := HS1.out
    refine Lib.hid ⟨by omega, by omega, ?_, ?_, ?_, ?_, setRow_heap _ _ _ _ _ _ hV0, below_setRow (below_alloc (below_setRow (below_alloc cb _) (by omega)) _) (by omega)⟩
    · rw [setRow_other _ _ _ _ (by omega), heap_alloc_old _ _ (by simp; omega), setRow_other _ _ _ _ (by omega), heap_alloc_old _ _ (by omega)]; exact c0
    · rw [setRow_other _ _ _ _ (by omega), heap_alloc_old _ _ (by simp; omega), setRow_other _ _ _ _ (by omega), heap_alloc_old _ _ (by omega)]; exact c2
    · rw [setRow_other _ _ _ _ (by omega), heap_alloc_old _ _ (by simp; omega), setRow_other _ _ _ _ (by omega), heap_alloc_old _ _ (by omega)]; exact cW
    · rw [setRow_other _ _ _ _ (by omega), heap_alloc_old _ _ (by simp)]; exact setRow_heap _ _ _ _ _ _ hK0
  clear hs2 c0 c2 cW cb hb2 B0 B2 BB HS1 HRnd hW0
  go_wp2_with (first
    | (refine wpList_store_row rfl 27 (.tmp 6) (.tmp 16) rfl w2.heap.size KK rfl rfl 27 z80 hK0 iK zK oK ?_)
    | (refine wpList_load_row rfl 23 (.tmp 2) rfl w.heap.size rfl 23 S (0, 0) _ hK1 Try.underlying23 rfl iS ?_)
    | (refine wpList_store_row rfl 23 (.tmp 7) (.tmp 17) rfl (w2.heap.size + 1) S rfl rfl 23 z8 hV0 iS z8S oS ?_))
  obtain ⟨W4, hW4⟩ : ∃ W, (((w2.alloc (.cells z80 27)).setRow w2.heap.size KK).alloc (.cells z8 23)).setRow (w2.heap.size + 1) S = W := ⟨_, rfl⟩
  obtain ⟨g, hg⟩ : ∃ g, w.heap.size = g := ⟨_, rfl⟩
  obtain ⟨gW, hgW⟩ : ∃ g, w1.heap.size = g := ⟨_, rfl⟩
  obtain ⟨gK, hgK⟩ : ∃ g, w2.heap.size = g := ⟨_, rfl⟩
  rw [hW4, hg, hgW, hgK] at HI
  rw [hW4, hg, hgW, hgK]
  have HG := Lib.hid hg
  clear hK1 hV0 hK0 hW4 hg hgW hgK
  go_loopw [8] (fun i wr => ∃ k : Nat, k ≤ 80 ∧ i = .int .i64 (k : Int) ∧ Hid (StepI w wr g gW gK S z8 WW KK (tabW (rounds ksL (sch m 80) s k).l))) (fun i _ => 80 - (intOf i).toNat)
  case atStart => exact ⟨0, by omega, rfl, by rw [show rounds ksL (sch m 80) s 0 = s from rfl, HS.out]; exact HI⟩
  case round =>
    clear HI
    obtain ⟨k, hk, rfl, HI⟩ := hrel
    by_cases hlt : k < 80
    · obtain ⟨kw, hkw⟩ : ∃ x, wG ksL k = x := ⟨_, rfl⟩
      obtain ⟨ww, hww⟩ : ∃ x, wG (sch m 80) k = x := ⟨_, rfl⟩
      have HV : Hid (rounds ksL (sch m 80) s (k + 1) = stNext (rounds ksL (sch m 80) s k) kw ww) := Lib.hid (by rw [rounds, hkw, hww])
      have ck : wr.cell? ⟨gK, k, none⟩ = some (.int .u64 (kw.toNat : Int)) := by rw [cell_of_row _ _ _ _ _ _ HI.out.ks, ← HKK.out, tabW_get _ _ (by simpa [ksL] using hlt), hkw]
      have cw : wr.cell? ⟨gW, k, none⟩ = some (.int .u64 (ww.toNat : Int)) := by rw [cell_of_row _ _ _ _ _ _ HI.out.ws, ← HWW.out, tabW_get _ _ (by rw [sch_len]; exact hlt), hww]
      clear hkw hww
      generalize rounds ksL (sch m 80) s k = v at *
      obtain ⟨a, b, c, d, e, f, y, z⟩ := v
      have cv : ∀ j, j < 8 → wr.cell? ⟨gK + 1, j, none⟩ = some (.int .u64 ((wG [a, b, c, d, e, f, y, z] j).toNat : Int)) := fun j hj => by rw [cell_of_row _ _ _ _ _ _ HI.out.v, tabW_get _ _ hj]; rfl
      have c0 : wr.cell? ⟨gK + 1, 0, none⟩ = some (.int .u64 (a.toNat : Int)) := cv 0 (by omega)
      have c1 : wr.cell? ⟨gK + 1, 1, none⟩ = some (.int .u64 (b.toNat : Int)) := cv 1 (by omega)
      have c2 : wr.cell? ⟨gK + 1, 2, none⟩ = some (.int .u64 (c.toNat : Int)) := cv 2 (by omega)
      have c3 : wr.cell? ⟨gK + 1, 3, none⟩ = some (.int .u64 (d.toNat : Int)) := cv 3 (by omega)
      have c4 : wr.cell? ⟨gK + 1, 4, none⟩ = some (.int .u64 (e.toNat : Int)) := cv 4 (by omega)
      have c5 : wr.cell? ⟨gK + 1, 5, none⟩ = some (.int .u64 (f.toNat : Int)) := cv 5 (by omega)
      have c6 : wr.cell? ⟨gK + 1, 6, none⟩ = some (.int .u64 (y.toNat : Int)) := cv 6 (by omega)
      have c7 : wr.cell? ⟨gK + 1, 7, none⟩ = some (.int .u64 (z.toNat : Int)) := cv 7 (by omega)
      have R1 := HR.out e 14 (by omega) (by omega)
      have R2 := HR.out e 18 (by omega) (by omega)
      have R3 := HR.out e 41 (by omega) (by omega)
      have R4 := HR.out a 28 (by omega) (by omega)
      have R5 := HR.out a 34 (by omega) (by omega)
      have R6 := HR.out a 39 (by omega) (by omega)
      have hone : stOne ⟨a, b, c, d, e, f, y, z⟩ kw ww = z + (rot e 14 ^^^ rot e 18 ^^^ rot e 41) + ((e &&& f) ^^^ (~~~e &&& y)) + kw + ww := by rw [ch_xor]; rfl
      have htwo : stTwo ⟨a, b, c, d, e, f, y, z⟩ = (rot a 28 ^^^ rot a 34 ^^^ rot a 39) + ((a &&& b) ||| (a &&& c) ||| (b &&& c)) := rfl
      have hnew : (stNext ⟨a, b, c, d, e, f, y, z⟩ kw ww).l = [stOne ⟨a, b, c, d, e, f, y, z⟩ kw ww + stTwo ⟨a, b, c, d, e, f, y, z⟩, a, b, c, d + stOne ⟨a, b, c, d, e, f, y, z⟩ kw ww, e, f, y] := rfl
      rw [hone, htwo] at hnew
      clear hone htwo cv
      generalize rot e 14 = r1 at *
      generalize rot e 18 = r2 at *
      generalize rot e 41 = r3 at *
      generalize rot a 28 = r4 at *
      generalize rot a 34 = r5 at *
      generalize rot a 39 = r6 at *
      have f1 := xor_w r1 r2
      generalize r1 ^^^ r2 = u1 at *
      have f2 := xor_w u1 r3
      generalize u1 ^^^ r3 = u2 at *
      have f3 := add_w z u2
      generalize z + u2 = u3 at *
      have f4 := and_w e f
      generalize e &&& f = u4 at *
      have f5 : bits .xor .u64 IntKind.u64.max (e.toNat : Int) = ((~~~e).toNat : Int) := not_w e
      generalize ~~~e = ne at *
      have f6 := and_w ne y
      generalize ne &&& y = u5 at *
      have f7 := xor_w u4 u5
      generalize u4 ^^^ u5 = u6 at *
      have f8 := add_w u3 u6
      generalize u3 + u6 = u7 at *
      have f9 := add_w u7 kw
      generalize u7 + kw = u8 at *
      have f10 := add_w u8 ww
      generalize u8 + ww = one at *
      have g1 := xor_w r4 r5
      generalize r4 ^^^ r5 = t1 at *
      have g2 := xor_w t1 r6
      generalize t1 ^^^ r6 = t2 at *
      have g3 := and_w a b
      generalize a &&& b = t3 at *
      have g4 := and_w a c
      generalize a &&& c = t4 at *
      have g5 := or_w t3 t4
      generalize t3 ||| t4 = t5 at *
      have g6 := and_w b c
      generalize b &&& c = t6 at *
      have g7 := or_w t5 t6
      generalize t5 ||| t6 = t7 at *
      have g8 := add_w t2 t7
      generalize t2 + t7 = two at *
      have k1 := add_w one two
      generalize one + two = n0 at *
      have k2 := add_w d one
      generalize d + one = n4 at *
      obtain ⟨V', hV'⟩ : ∃ V : Array Value, #[.int .u64 (n0.toNat : Int), .int .u64 (a.toNat : Int), .int .u64 (b.toNat : Int), .int .u64 (c.toNat : Int), .int .u64 (n4.toNat : Int), .int .u64 (e.toNat : Int), .int .u64 (f.toNat : Int), .int .u64 (y.toNat : Int)] = V := ⟨_, rfl⟩
      have nV : V'.size = 8 := by rw [← hV']; rfl
      have oV : V'.all (·.oneCell') = true := by rw [← hV']; exact tabW_one [n0, a, b, c, n4, e, f, y]
      have HV2 : Hid (tabW (rounds ksL (sch m 80) s (k + 1)).l = V') := Lib.hid (by rw [HV.out, hnew, ← hV']; rfl)
      obtain ⟨V, hV⟩ : ∃ V, tabW (St.l ⟨a, b, c, d, e, f, y, z⟩) = V := ⟨_, rfl⟩
      have nV0 : V.size = 8 := by rw [← hV, tabW_size]; rfl
      rw [hV] at HI
      have hv2 : ((wr.drewN 1).drewN 1).heap[gK + 1]? = some (.cells V 23 (0, 0)) := HI.out.v
      have iV : (Try.prog.info? 23).map (·.size) = some V'.size := by rw [nV]; kernel_rfl
      have sV : V.size = V'.size := by rw [nV, nV0]
      have HI2 := Lib.hid (HI.out.setV 2 V')
      have p1 : 0 ≤ (k : Int) := by omega
      have p2 : (k : Int) < 80 := by omega
      have HR1 := Lib.hid R1
      have HR2 := Lib.hid R2
      have HR3 := Lib.hid R3
      have HR4 := Lib.hid R4
      have HR5 := Lib.hid R5
      have HR6 := Lib.hid R6
      clear R1 R2 R3 R4 R5 R6 HR HI hnew HV hV nV0 nV
      go_wp2_with fail
      refine wp_region_still_tail 30 (by kernel_rfl) (by kernel_rfl) ?_
      simp only [List.take_succ_cons, List.take_zero, List.drop_succ_cons, List.drop_zero]
      iterate 3 still_step
      still_call (HR1.out _)
      still_step
      still_call (HR2.out _)
      iterate 2 still_step
      still_call (HR3.out _)
      iterate 21 still_step
      refine wpStill_nil ?_
      go_wp2_with fail
      obtain ⟨wq, hwq⟩ : ∃ x, wr.drew = x := ⟨_, rfl⟩
      rw [hwq]
      have e0 : wq.cell? ⟨gK + 1, 0, none⟩ = some (.int .u64 (a.toNat : Int)) := by rw [← hwq]; exact c0
      have e1 : wq.cell? ⟨gK + 1, 1, none⟩ = some (.int .u64 (b.toNat : Int)) := by rw [← hwq]; exact c1
      have e2 : wq.cell? ⟨gK + 1, 2, none⟩ = some (.int .u64 (c.toNat : Int)) := by rw [← hwq]; exact c2
      have e3 : wq.cell? ⟨gK + 1, 3, none⟩ = some (.int .u64 (d.toNat : Int)) := by rw [← hwq]; exact c3
      have e4 : wq.cell? ⟨gK + 1, 4, none⟩ = some (.int .u64 (e.toNat : Int)) := by rw [← hwq]; exact c4
      have e5 : wq.cell? ⟨gK + 1, 5, none⟩ = some (.int .u64 (f.toNat : Int)) := by rw [← hwq]; exact c5
      have e6 : wq.cell? ⟨gK + 1, 6, none⟩ = some (.int .u64 (y.toNat : Int)) := by rw [← hwq]; exact c6
      have hv3 : wq.drew.heap[gK + 1]? = some (.cells V 23 (0, 0)) := by rw [← hwq]; exact hv2
      have HI3 : Hid (StepI w (wq.drew.setRow (gK + 1) V') g gW gK S z8 WW KK V') := by rw [← hwq]; exact HI2
      have HVE := Lib.hid hV'
      have hB := build_w z8 hz8 n8 n0.toNat a.toNat b.toNat c.toNat n4.toNat e.toNat f.toNat y.toNat wq.drew
      rw [hV'] at hB
      have HBB := Lib.hid hB
      clear hB hV' hwq c0 c1 c2 c3 c4 c5 c6 c7 ck cw hv2 HI2 f1 f2 f3 f4 f5 f6 f7 f8 f9 f10
      refine wp_region_still_tail 24 (by kernel_rfl) (by kernel_rfl) ?_
      simp only [List.take_succ_cons, List.take_zero, List.drop_succ_cons, List.drop_zero]
      still_step
      still_call (HR4.out _)
      still_step
      still_call (HR5.out _)
      iterate 2 still_step
      still_call (HR6.out _)
      iterate 17 still_step
      refine wpStill_nil ?_
      go_wp2_with (first
        | (refine wpList_runs (o := ⟨some 99, _, _, _, _, _⟩) rfl (.agg V') ?_ ?_
           · refine Eq.trans (b := Sem.run Try.prog (do pure (Next.value (← Instr.build 23 #[(0, .int .u64 n0.toNat), (1, .int .u64 a.toNat), (2, .int .u64 b.toNat), (3, .int .u64 c.toNat), (4, .int .u64 n4.toNat), (5, .int .u64 e.toNat), (6, .int .u64 f.toNat), (7, .int .u64 y.toNat)]))) wq.drew) (by kernel_rfl) (run_value HBB.out))
        | (refine wpList_store_row rfl 23 (.tmp 7) (.tmp 99) rfl (gK + 1) V' rfl rfl 23 V hv3 iV sV oV ?_))
      go_roundw
      case rel => exact ⟨k + 1, by omega, by go_num, by rw [HV2.out]; exact HI3⟩
      case measure => simp [intOf]; omega
    · have hk80 : k = 80 := by omega
      obtain ⟨u, hu⟩ : ∃ u, rounds ksL (sch m 80) s k = u := ⟨_, rfl⟩
      rw [hu] at HI
      have HE : Hid (tabW (stepW ksL s m).l = tabW (addTo u s 8)) := Lib.hid (by rw [addTo_end]; unfold stepW; rw [← hu, hk80])
      have hge : ¬ (k : Int) < 80 := by omega
      clear hu HR hk80
      go_wp2_with fail
      go_loopw [13] (fun i wr => ∃ k : Nat, k ≤ 8 ∧ i = .int .i64 (k : Int) ∧ Hid (StepI w wr g gW gK S z8 WW KK (tabW (addTo u s k)))) (fun i _ => 8 - (intOf i).toNat)
      case atStart => exact ⟨0, by omega, rfl, HI⟩
      case round =>
        clear HI
        obtain ⟨k, hk, rfl, HI⟩ := hrel
        by_cases hlt : k < 8
        · have c0 : wr.cell? ⟨gK + 1, k, none⟩ = some (.int .u64 ((wG u.l k).toNat : Int)) := by rw [cell_of_row _ _ _ _ _ _ HI.out.v, tabW_get _ _ (by rw [addTo_len]; exact hlt), addTo_at u s hlt]
          have c1 : wr.cell? ⟨g, k, none⟩ = some (.int .u64 ((wG s.l k).toNat : Int)) := by rw [cell_of_row _ _ _ _ _ _ HI.out.s, ← HS.out, tabW_get _ _ (by rw [St.len]; exact hlt)]
          have hfz : wr.frozen? ⟨gK + 1, k, none⟩ = false := by have := HI.out.v; simp [World.frozen?, this]
          have hset := addTo_set u s hlt
          generalize wG u.l k = x at *
          generalize wG s.l k = y at *
          have f1 := add_w x y
          generalize x + y = n at *
          have HI2 : Hid (StepI w ((wr.drewN 1).setCell ⟨gK + 1, k, none⟩ (.int .u64 (n.toNat : Int))) g gW gK S z8 WW KK (tabW (addTo u s (k + 1)))) := Lib.hid (by
            rw [setCell_eq_setRow (wr.drewN 1) (gK + 1) k _ _ _ (.int .u64 (n.toNat : Int)) HI.out.v, tabW_set, hset]
            exact HI.out.setV 1 _)
          have p1 : 0 ≤ (k : Int) := by omega
          have p2 : (k : Int) < 8 := by omega
          clear hset HI
          go_wp2_with fail
          refine wp_region_still_tail 9 (by kernel_rfl) (by kernel_rfl) ?_
          simp only [List.take_succ_cons, List.take_zero, List.drop_succ_cons, List.drop_zero]
          iterate 9 still_step
          refine wpStill_nil ?_
          go_wp2_with fail
          go_roundw
          case rel => exact ⟨k + 1, by omega, by go_num, HI2⟩
          case measure => simp [intOf]; omega
        · obtain rfl : k = 8 := by omega
          have h1 := HI.out.v
          have h0 := HI.out.z
          have s1 : (Try.prog.info? 23).map (·.size) = some (tabW (addTo u s 8)).size := by rw [tabW_size, addTo_len]; kernel_rfl
          have sz : z8.size = (tabW (addTo u s 8)).size := by rw [n8, tabW_size, addTo_len]
          have o1 := tabW_one (addTo u s 8)
          have HB := Lib.hid (show Below w.heap.size w (wr.setRow (g + 1 + 1) (tabW (addTo u s 8))) by
            rw [HG.out]
            exact below_setRow HI.out.below (by omega))
          obtain ⟨t1, ht1⟩ : ∃ t1, tabW (addTo u s 8) = t1 := ⟨_, rfl⟩
          rw [ht1] at h1 s1 sz o1 HB HE
          clear ht1 HI
          go_wp2_with (first
            | (refine wpList_load_row rfl 23 (.tmp 7) rfl (gK + 1) rfl 23 t1 (0, 0) _ h1 Try.underlying23 rfl s1 ?_)
            | (refine wpList_store_row rfl 23 (.tmp 4) (.tmp 113) rfl (g + 1 + 1) t1 rfl rfl 23 z8 h0 s1 sz o1 ?_))
          (try simp only [Exit.inBlock, Exit.then])
          refine bodyPost_ret (results_cell_row rfl _ _ (g + 1 + 1) _ t1 _ _ rfl (setRow_heap wr _ _ _ _ _ h0) Try.underlying23 rfl s1) rfl ?_
          exact ⟨by rw [HE.out], HB.out⟩
end Go.Proofs.Ytbbdiphicckpiaa

