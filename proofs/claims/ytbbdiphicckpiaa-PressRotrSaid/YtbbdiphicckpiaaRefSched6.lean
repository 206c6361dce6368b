/- The contract of the reference's Schedule. -/
import Derived.Test.YtbbdiphicckpiaaRefBits6
import Derived.BigQuiet
import Derived.StillTailTactics
namespace Go.Proofs.Ytbbdiphicckpiaa
open Go.RowKit
set_option linter.unusedVariables false
set_option maxRecDepth 100000

/-- words in a row -/
def tabW (l : List W64) : Array Value := (l.map wv).toArray
theorem tabW_size (l : List W64) : (tabW l).size = l.length := by simp [tabW]
theorem tabW_get (l : List W64) (i : Nat) (h : i < l.length) : (tabW l)[i]? = some (.int .u64 ((wG l i).toNat : Int)) := by
  simp [tabW, wG, List.getD, List.getElem?_eq_getElem h, wv]
theorem tabW_set (l : List W64) (i : Nat) (x : W64) : (tabW l).setIfInBounds i (.int .u64 (x.toNat : Int)) = tabW (l.set i x) := by
  unfold tabW
  rw [List.map_set]
  simp [wv]
theorem tabW_one (l : List W64) : (tabW l).all (·.oneCell') = true := by
  simp [tabW, Value.oneCell', wv]
theorem zero_tabW (T : TypeId) (n : Nat) (h : (Try.prog.info? T).map (fun i => (i.zero, i.size)) = some (some (.agg (tabW (List.replicate n 0))), n)) (u : World) : (zeroValue T).run Try.prog u = .ok (.agg (tabW (List.replicate n 0))) u := by
  cases hi : Try.prog.info? T with
  | none => rw [hi] at h; cases h
  | some i =>
    rw [hi] at h
    simp at h
    simp [zeroValue, typeInfo, hi, h.1]

/-- what stands behind k rounds -/
def schTab (m : List W64) (k : Nat) : List W64 := sch m k ++ List.replicate (80 - k) 0
theorem schTab_len (m : List W64) {k : Nat} (h : k ≤ 80) : (schTab m k).length = 80 := by
  simp [schTab, sch_len]; omega
theorem schTab_get (m : List W64) {i k : Nat} (h : i < k) : wG (schTab m k) i = wG (sch m k) i := by
  unfold schTab
  rw [wG_append, sch_len, if_pos h]
theorem schTab_set (m : List W64) {k : Nat} (h : k < 80) : (schTab m k).set k (schNext m (sch m k) k) = schTab m (k + 1) := by
  unfold schTab
  rw [List.set_append_right _ _ (by rw [sch_len]; omega), sch_len, sch, show 80 - k = (80 - (k + 1)) + 1 by omega, List.replicate_succ, Nat.sub_self, List.set_cons_zero, List.append_assoc]
  rfl
theorem schTab_end (m : List W64) : schTab m 80 = sch m 80 := by simp [schTab]

set_option maxHeartbeats 1600000 in
theorem rsched_any (m : List W64) (hm : m.length = 16) (w : World) :
    Calls Try.prog 12 #[.agg (tabW m)] w fun e w' => e = .returned (.agg (tabW (sch m 80))) ∧ Below w.heap.size w w' := by
  have hz := fun u => zero_tabW 27 80 (by kernel_rfl) u
  have sM : (Try.prog.info? 24).map (·.size) = some (tabW m).size := by rw [tabW_size, hm]; kernel_rfl
  have hMs : (tabW m).size = 16 := by rw [tabW_size, hm]
  obtain ⟨M, hM⟩ : ∃ M, tabW m = M := ⟨_, rfl⟩
  obtain ⟨t0, ht0⟩ : ∃ t0, tabW (List.replicate 80 0) = t0 := ⟨_, rfl⟩
  have ht0s : t0.size = 80 := by rw [← ht0, tabW_size]; simp
  rw [ht0] at hz
  rw [hM] at sM hMs ⊢
  have h2 : (((w.alloc (.cells M 24)).alloc (.cells t0 27)).alloc (.cells t0 27)).heap[w.heap.size + 1 + 1]? = some (.cells t0 27 (0, 0)) := by
    have := heap_alloc_new ((w.alloc (.cells M 24)).alloc (.cells t0 27)) (.cells t0 27)
    rwa [World.size_alloc, World.size_alloc] at this
  have s0 : (Try.prog.info? 27).map (·.size) = some t0.size := by rw [ht0s]; kernel_rfl
  have o0 : t0.all (·.oneCell') = true := by rw [← ht0]; exact tabW_one _
  have HM := Lib.hid hM
  have HT := Lib.hid ht0
  clear hM ht0
  go_enter Try.func12, Try.ntmps12
  go_wp2_with (refine wpList_store_row rfl 27 (.tmp 3) (.tmp 7) rfl (w.heap.size + 1 + 1) t0 rfl rfl 27 t0 h2 s0 rfl o0 ?_)
  obtain ⟨W1, hW1⟩ : ∃ W, (((w.alloc (.cells M 24)).alloc (.cells t0 27)).alloc (.cells t0 27)).setRow (w.heap.size + 1 + 1) t0 = W := ⟨_, rfl⟩
  obtain ⟨g, hg⟩ : ∃ g, w.heap.size = g := ⟨_, rfl⟩
  have b2 : W1.heap[g + 1 + 1]? = some (.cells t0 27 (0, 0)) := by rw [← hW1, ← hg]; exact setRow_heap _ _ _ _ _ _ h2
  have b1 : W1.heap[g + 1]? = some (.cells t0 27 (0, 0)) := by
    rw [← hW1, setRow_other _ _ _ _ (by omega), heap_alloc_old _ _ (by rw [World.size_alloc, World.size_alloc]; omega), ← hg]
    have := heap_alloc_new (w.alloc (.cells M 24)) (.cells t0 27)
    rwa [World.size_alloc] at this
  have b0 : W1.heap[g]? = some (.cells M 24 (0, 0)) := by
    rw [← hW1, setRow_other _ _ _ _ (by omega), heap_alloc_old _ _ (by rw [World.size_alloc, World.size_alloc]; omega), heap_alloc_old _ _ (by rw [World.size_alloc]; omega), ← hg]
    exact heap_alloc_new w _
  have hbe : Below g w W1 := by
    have hb := ((((Below.refl w.heap.size w).alloc (Nat.le_refl _) (.cells M 24)).alloc (by simp) (.cells t0 27)).alloc (by simp; omega) (.cells t0 27))
    rw [← hW1, ← hg]
    exact ⟨hb.os, hb.tape, hb.output, by have := hb.size; simpa using this, fun j hj => by rw [setRow_other _ _ _ _ (by omega)]; exact hb.block j hj⟩
  have HB2 := Lib.hid b2
  have HB1 := Lib.hid b1
  have HB0 := Lib.hid b0
  have HBE := Lib.hid hbe
  have HG := Lib.hid hg
  have HR : Hid (∀ (x : W64) (n : Int), -9223372036854775808 ≤ n → n ≤ 9223372036854775807 → ∀ W : World, Calls Try.prog 14 #[.int .u64 (x.toNat : Int), .int .i64 n] W fun e w' => e = .returned (.int .u64 ((rot x n).toNat : Int)) ∧ w' = W) :=
    Lib.hid fun x n h1 h2 W => (rrotr_any x n h1 h2 W).mono fun e w' h => ⟨h.1, h.2.symm⟩
  rw [← HT.out] at HB2
  rw [hW1, hg]
  clear b0 b1 b2 hbe h2 hW1 hg
  go_loopw [4] (fun i wr => ∃ k : Nat, k ≤ 80 ∧ i = .int .i64 (k : Int) ∧ Hid (wr.heap[g]? = some (.cells M 24 (0, 0))) ∧ Hid (wr.heap[g + 1]? = some (.cells t0 27 (0, 0))) ∧
      Hid (wr.heap[g + 1 + 1]? = some (.cells (tabW (schTab m k)) 27 (0, 0))) ∧ Hid (Below g w wr)) (fun i _ => 80 - (intOf i).toNat)
  case atStart => exact ⟨0, by omega, rfl, HB0, HB1, HB2, HBE⟩
  case round =>
    clear HB0 HB1 HB2 HBE
    obtain ⟨k, hk, rfl, HB0, HB1, HB2, HBE⟩ := hrel
    by_cases hlt : k < 80
    · have hl := schTab_len m hk
      have hck : wr.cell? ⟨g + 1 + 1, k, none⟩ = some (.int .u64 ((wG (schTab m k) k).toNat : Int)) := by rw [cell_of_row _ _ _ _ _ _ HB2.out, tabW_get _ _ (by omega)]
      have hfz : wr.frozen? ⟨g + 1 + 1, k, none⟩ = false := by have := HB2.out; simp [World.frozen?, this]
      have hset := schTab_set m hlt
      obtain ⟨nx, hnx⟩ : ∃ nx, schNext m (sch m k) k = nx := ⟨_, rfl⟩
      rw [hnx] at hset
      have HN : Hid (∀ q : Nat, Hid (((wr.drewN q).setCell ⟨g + 1 + 1, k, none⟩ (.int .u64 (nx.toNat : Int))).heap[g]? = some (.cells M 24 (0, 0))) ∧ Hid (((wr.drewN q).setCell ⟨g + 1 + 1, k, none⟩ (.int .u64 (nx.toNat : Int))).heap[g + 1]? = some (.cells t0 27 (0, 0))) ∧
          Hid (((wr.drewN q).setCell ⟨g + 1 + 1, k, none⟩ (.int .u64 (nx.toNat : Int))).heap[g + 1 + 1]? = some (.cells (tabW (schTab m (k + 1))) 27 (0, 0))) ∧ Hid (Below g w ((wr.drewN q).setCell ⟨g + 1 + 1, k, none⟩ (.int .u64 (nx.toNat : Int))))) := Lib.hid (fun q => by
        have e := setCell_eq_setRow (wr.drewN q) (g + 1 + 1) k _ _ _ (.int .u64 (nx.toNat : Int)) HB2.out
        refine ⟨Lib.hid ?_, Lib.hid ?_, Lib.hid ?_, Lib.hid ((below_drewN' HBE.out q).setCell (p := ⟨g + 1 + 1, k, none⟩) (by show g ≤ g + 1 + 1; omega) _)⟩
        · rw [e, setRow_other _ _ _ _ (by omega)]; exact HB0.out
        · rw [e, setRow_other _ _ _ _ (by omega)]; exact HB1.out
        · rw [e, setRow_heap _ _ _ _ _ _ (show (wr.drewN q).heap[g + 1 + 1]? = _ from HB2.out), tabW_set, hset])
      generalize (wG (schTab m k) k).toNat = old at *
      by_cases h16 : k < 16
      · have hx : wr.cell? ⟨g, k, none⟩ = some (.int .u64 (nx.toNat : Int)) := by
          rw [cell_of_row _ _ _ _ _ _ HB0.out, ← HM.out, tabW_get _ _ (by omega)]
          rw [← hnx]
          unfold schNext
          rw [if_pos h16]
        obtain ⟨n1, n2, n3, n4⟩ := HN.out 0
        generalize nx.toNat = N at *
        clear hset hnx hl HB0 HB1 HB2 HBE HN
        go_wp2_with fail
        go_roundw
        case rel => exact ⟨k + 1, by omega, by go_num, n1, n2, n3, n4⟩
        case measure => simp [intOf]; omega
      · have cell : ∀ j, j < k → wr.cell? ⟨g + 1 + 1, j, none⟩ = some (.int .u64 ((wG (sch m k) j).toNat : Int)) := fun j hj => by
          rw [cell_of_row _ _ _ _ _ _ HB2.out, tabW_get _ _ (by omega), schTab_get m hj]
        obtain ⟨i15, e15⟩ : ∃ i, k - 15 = i := ⟨_, rfl⟩
        obtain ⟨i2, e2⟩ : ∃ i, k - 2 = i := ⟨_, rfl⟩
        obtain ⟨i7, e7⟩ : ∃ i, k - 7 = i := ⟨_, rfl⟩
        obtain ⟨i16, e16⟩ : ∃ i, k - 16 = i := ⟨_, rfl⟩
        have c15 := cell i15 (by omega)
        have c2 := cell i2 (by omega)
        have c7 := cell i7 (by omega)
        have c16 := cell i16 (by omega)
        unfold schNext at hnx
        rw [if_neg h16, e15, e2, e7, e16] at hnx
        have j15 : (k : Int) - 15 = (i15 : Int) := by omega
        have j2 : (k : Int) - 2 = (i2 : Int) := by omega
        have j7 : (k : Int) - 7 = (i7 : Int) := by omega
        have j16 : (k : Int) - 16 = (i16 : Int) := by omega
        have l15 : i15 < 80 := by omega
        have l2 : i2 < 80 := by omega
        have l7 : i7 < 80 := by omega
        have l16 : i16 < 80 := by omega
        generalize wG (sch m k) i15 = x15 at *
        generalize wG (sch m k) i2 = x2 at *
        generalize wG (sch m k) i7 = x7 at *
        generalize wG (sch m k) i16 = x16 at *
        have R1 := HR.out x2 19 (by omega) (by omega)
        have R2 := HR.out x2 61 (by omega) (by omega)
        have R3 := HR.out x15 1 (by omega) (by omega)
        have R4 := HR.out x15 8 (by omega) (by omega)
        unfold sig0 sig1 at hnx
        have f2 := shr_w x2 6
        have f5 := shr_w x15 7
        generalize x2 >>> 6 = s2 at *
        generalize x15 >>> 7 = s15 at *
        generalize rot x2 19 = r1 at *
        generalize rot x2 61 = r2 at *
        generalize rot x15 1 = r3 at *
        generalize rot x15 8 = r4 at *
        have f1 := xor_w r1 r2
        generalize r1 ^^^ r2 = u1 at *
        have f3 := xor_w u1 s2
        generalize u1 ^^^ s2 = u2 at *
        have f4 := xor_w r3 r4
        generalize r3 ^^^ r4 = u3 at *
        have f6 := xor_w u3 s15
        generalize u3 ^^^ s15 = u4 at *
        have f7 := add_w u2 x7
        generalize u2 + x7 = u5 at *
        have f8 := add_w u5 u4
        generalize u5 + u4 = u6 at *
        have f9 := add_w u6 x16
        rw [hnx] at f9
        obtain ⟨n1, n2, n3, n4⟩ := HN.out 1
        clear hset hnx hl HB0 HB1 HB2 HBE HN HR cell e15 e2 e7 e16
        have HR1 := Lib.hid R1
        have HR2 := Lib.hid R2
        have HR3 := Lib.hid R3
        have HR4 := Lib.hid R4
        clear R1 R2 R3 R4
        go_wp2_with fail
        have g2 : (x2.toNat : Int) / 64 = (s2.toNat : Int) := f2
        have g5 : (x15.toNat : Int) / 128 = (s15.toNat : Int) := f5
        have w7 : IntKind.i64.wrap (i7 : Int) = (i7 : Int) := by rw [IntKind.wrap_i64]; omega
        have w16 : IntKind.i64.wrap (i16 : Int) = (i16 : Int) := by rw [IntKind.wrap_i64]; omega
        have m7 : (i7 : Int) < 80 := by omega
        have m16 : (i16 : Int) < 80 := by omega
        have mk : (k : Int) < 80 := by omega
        have p7 : 0 ≤ (i7 : Int) := by omega
        have p16 : 0 ≤ (i16 : Int) := by omega
        have pk : 0 ≤ (k : Int) := by omega
        refine wp_region_still_tail 29 (by kernel_rfl) (by kernel_rfl) ?_
        simp only [List.take_succ_cons, List.take_zero, List.drop_succ_cons, List.drop_zero]
        iterate 2 still_step
        still_call (HR1.out _)
        still_step
        still_call (HR2.out _)
        iterate 10 still_step
        still_call (HR3.out _)
        still_step
        still_call (HR4.out _)
        iterate 11 still_step
        refine wpStill_nil ?_
        go_wp2_with fail
        go_roundw
        case rel => exact ⟨k + 1, by omega, by go_num, n1, n2, n3, n4⟩
        case measure => simp [intOf]; omega
    · obtain rfl : k = 80 := by omega
      have h1 := HB2.out
      have h0 := HB1.out
      rw [schTab_end] at h1
      have s1 : (Try.prog.info? 27).map (·.size) = some (tabW (sch m 80)).size := by rw [tabW_size, sch_len]; kernel_rfl
      have sz : t0.size = (tabW (sch m 80)).size := by rw [ht0s, tabW_size, sch_len]
      have o1 := tabW_one (sch m 80)
      have HB := Lib.hid (show Below w.heap.size w (wr.setRow (g + 1) (tabW (sch m 80))) by
        rw [HG.out]
        exact ⟨HBE.out.os, HBE.out.tape, HBE.out.output, by have := HBE.out.size; simpa using this, fun j hj => by rw [setRow_other _ _ _ _ (by omega)]; exact HBE.out.block j hj⟩)
      obtain ⟨t1, ht1⟩ : ∃ t1, tabW (sch m 80) = t1 := ⟨_, rfl⟩
      rw [ht1] at h1 s1 sz o1 HB
      have HT1 := Lib.hid ht1
      clear ht1 HB0 HB1 HB2 HBE HR
      go_wp2_with (first
        | (refine wpList_load_row rfl 27 (.tmp 3) rfl (g + 1 + 1) rfl 27 t1 (0, 0) _ h1 Try.underlying27 rfl s1 ?_)
        | (refine wpList_store_row rfl 27 (.tmp 2) (.tmp 56) rfl (g + 1) t1 rfl rfl 27 t0 h0 s1 sz o1 ?_))
      (try simp only [Exit.inBlock, Exit.then])
      refine bodyPost_ret (results_cell_row rfl _ _ (g + 1) _ t1 _ _ rfl (setRow_heap wr _ _ _ _ _ h0) Try.underlying27 rfl s1) rfl ?_
      exact ⟨by rw [HT1.out], HB.out⟩
end Go.Proofs.Ytbbdiphicckpiaa

