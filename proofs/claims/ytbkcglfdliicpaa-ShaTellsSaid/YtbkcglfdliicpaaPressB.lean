/- The contracts of the developers' Words and Schedule. -/
import Derived.Test.YtbkcglfdliicpaaPressA
import Derived.Laws.CopyOwn
namespace Go.Proofs.Ytbkcglfdliicpaa
open Go.RowKit
set_option linter.unusedVariables false
set_option maxRecDepth 100000

set_option maxHeartbeats 1600000 in
theorem pwords_any (A : Option Addr) (l : List UInt8) (c : Nat) (w : World) (hbs : Bs w A l) :
    Calls Try.prog 36 #[.slice A l.length c] w fun e w' => e = .returned (.tuple #[.agg (tabW (wordsV l)), .bool (decide (l.length = 128))]) ∧ Below w.heap.size w w' := by
  have hz := fun u => zero_tabW 64 16 (by kernel_rfl) u
  obtain ⟨t0, ht0⟩ : ∃ t0, tabW (List.replicate 16 0) = t0 := ⟨_, rfl⟩
  have ht0s : t0.size = 16 := by rw [← ht0, tabW_size]; simp
  rw [ht0] at hz
  have h0 : ((w.alloc (.cells t0 64)).alloc (.cells t0 64)).heap[w.heap.size]? = some (.cells t0 64 (0, 0)) := heap_alloc2_old _ _ _
  have h2 : ((w.alloc (.cells t0 64)).alloc (.cells t0 64)).heap[w.heap.size + 1]? = some (.cells t0 64 (0, 0)) := heap_alloc2_new _ _ _
  have s0 : (Try.prog.info? 64).map (·.size) = some t0.size := by rw [ht0s]; kernel_rfl
  have o0 : t0.all (·.oneCell') = true := by rw [← ht0]; exact tabW_one _
  have hbe0 : Below w.heap.size w ((w.alloc (.cells t0 64)).alloc (.cells t0 64)) := below_alloc (below_alloc (Below.refl _ w) _) _
  have HT := Lib.hid ht0
  have HS := Lib.hid hbs
  clear ht0
  unfold wordsV
  by_cases hlen : l.length = 128
  · rw [if_pos hlen]
    have hd : decide (l.length = 128) = true := by simp [hlen]
    rw [hd, hlen]
    have HL := Lib.hid hlen
    clear hd hlen hbs
    go_enter Try.func36, Try.ntmps36
    go_wp2_with fail
    obtain ⟨W1, hW1⟩ : ∃ W, (w.alloc (.cells t0 64)).alloc (.cells t0 64) = W := ⟨_, rfl⟩
    obtain ⟨g, hg⟩ : ∃ g, w.heap.size = g := ⟨_, rfl⟩
    have HG := Lib.hid hg
    rw [hW1, hg] at h0 h2 hbe0
    have HB1 := Lib.hid h2
    have HB0 := Lib.hid h0
    have HBE := Lib.hid hbe0
    rw [← HT.out] at HB1
    rw [hW1, hg]
    clear h0 h2 hbe0 hW1 hg
    go_loopw [13] (fun i wr => ∃ k : Nat, k ≤ 128 ∧ i = .int .i64 (k : Int) ∧ Hid (wr.heap[g]? = some (.cells t0 64 (0, 0))) ∧
        Hid (wr.heap[g + 1]? = some (.cells (tabW (wordsTo l k)) 64 (0, 0))) ∧ Hid (Below g w wr)) (fun i _ => 128 - (intOf i).toNat)
    case atStart => exact ⟨0, by omega, rfl, HB0, HB1, HBE⟩
    case round =>
      clear HB0 HB1 HBE
      obtain ⟨k, hk, rfl, HB0, HB1, HBE⟩ := hrel
      by_cases hlt : k < 128
      · have hl := wordsTo_len l k
        obtain ⟨d, hd⟩ : ∃ d, k / 8 = d := ⟨_, rfl⟩
        have hd16 : d < 16 := by omega
        have hck : wr.cell? ⟨g + 1, d, none⟩ = some (.int .u64 ((wG (wordsTo l k) d).toNat : Int)) := by rw [cell_of_row _ _ _ _ _ _ HB1.out, tabW_get _ _ (by omega)]
        have hfz : wr.frozen? ⟨g + 1, d, none⟩ = false := by have := HB1.out; simp [World.frozen?, this]
        obtain ⟨bb, oo, rfl, hc0⟩ := HS.out.at_ (k := k) (by rw [HL.out]; exact hlt)
        have hc : wr.cell? ⟨bb, oo + k, none⟩ = some (.int .u8 ((l.getD k 0).toNat : Int)) := by
          have hlt := World.block_lt_of_cell? w _ hc0
          rw [HBE.out.cell (by rw [HG.out] at hlt; exact hlt)]; exact hc0
        have hset : (wordsTo l k).set d (pushB (wG (wordsTo l k) d) (l.getD k 0)) = wordsTo l (k + 1) := by rw [wordsTo, hd]
        generalize wG (wordsTo l k) d = x at *
        generalize l.getD k 0 = b at *
        obtain ⟨nx, hnx⟩ : ∃ nx, pushB x b = nx := ⟨_, rfl⟩
        rw [hnx] at hset
        have hbl := b.toNat_lt
        have f1 := shl_w x 8
        have f2 := or_w (x <<< 8) (BitVec.ofNat 64 b.toNat)
        have f3 : x <<< 8 ||| BitVec.ofNat 64 b.toNat = nx := hnx
        rw [push_nat, f3] at f2
        generalize x <<< 8 = y at *
        have f4 : IntKind.u64.wrap ((x.toNat : Int) * 256) = (y.toNat : Int) := f1
        have f5 : IntKind.u64.wrap (b.toNat : Int) = (b.toNat : Int) := by rw [IntKind.wrap_u64]; omega
        have t1 : (k : Int).tdiv 8 = (d : Int) := by rw [Int.tdiv_eq_ediv_of_nonneg (by omega)]; omega
        have t2 : (k : Int) / 8 = (d : Int) := by omega
        have t3 : IntKind.i64.wrap (d : Int) = (d : Int) := by rw [IntKind.wrap_i64]; omega
        have p1 : 0 ≤ (d : Int) := by omega
        have p2 : (d : Int) < 16 := by omega
        have p3 : 0 ≤ (k : Int) := by omega
        have p4 : (k : Int) < 128 := by omega
        have HN : Hid ((wr.setCell ⟨g + 1, d, none⟩ (.int .u64 (nx.toNat : Int))).heap[g]? = some (.cells t0 64 (0, 0))) ∧
            Hid ((wr.setCell ⟨g + 1, d, none⟩ (.int .u64 (nx.toNat : Int))).heap[g + 1]? = some (.cells (tabW (wordsTo l (k + 1))) 64 (0, 0))) ∧ Hid (Below g w (wr.setCell ⟨g + 1, d, none⟩ (.int .u64 (nx.toNat : Int)))) := by
          have e := setCell_eq_setRow wr (g + 1) d _ _ _ (.int .u64 (nx.toNat : Int)) HB1.out
          refine ⟨Lib.hid ?_, Lib.hid ?_, Lib.hid (HBE.out.setCell (p := ⟨g + 1, d, none⟩) (by show g ≤ g + 1; omega) _)⟩
          · rw [e, setRow_other _ _ _ _ (by omega)]; exact HB0.out
          · rw [e, setRow_heap _ _ _ _ _ _ (show wr.heap[g + 1]? = _ from HB1.out), tabW_set, hset]
        obtain ⟨n1, n2, n3⟩ := HN
        clear hset hnx hl HB0 HB1 HBE f1 f3 hc0
        go_wp2_with fail
        go_roundw
        case rel => exact ⟨k + 1, by omega, by go_num, n1, n2, n3⟩
        case measure => simp [intOf]; omega
      · obtain rfl : k = 128 := by omega
        have h1 := HB1.out
        have h0 := HB0.out
        have s1 : (Try.prog.info? 64).map (·.size) = some (tabW (wordsTo l 128)).size := by rw [tabW_size, wordsTo_len]; kernel_rfl
        have sz : t0.size = (tabW (wordsTo l 128)).size := by rw [ht0s, tabW_size, wordsTo_len]
        have o1 := tabW_one (wordsTo l 128)
        have HB := Lib.hid (show Below w.heap.size w (wr.setRow g (tabW (wordsTo l 128))) by
          rw [HG.out]
          exact below_setRow HBE.out (Nat.le_refl _))
        obtain ⟨t1, ht1⟩ : ∃ t1, tabW (wordsTo l 128) = t1 := ⟨_, rfl⟩
        rw [ht1] at h1 s1 sz o1 HB
        have HT1 := Lib.hid ht1
        clear ht1 HB0 HB1 HBE
        go_wp2_with (first
          | (refine wpList_load_row rfl 64 (.tmp 4) rfl (g + 1) rfl 64 t1 (0, 0) _ h1 Try.underlying64 rfl s1 ?_)
          | (refine wpList_store_row rfl 64 (.tmp 2) (.tmp 30) rfl g t1 rfl rfl 64 t0 h0 s1 sz o1 ?_))
        (try simp only [Exit.inBlock, Exit.then])
        refine bodyPost_ret (results_cell_tmp rfl _ _ g _ t1 _ _ _ rfl rfl (setRow_heap wr _ _ _ _ _ h0) Try.underlying64 rfl s1) rfl ?_
        exact ⟨by unfold wordsL; rw [HT1.out]; rfl, HB.out⟩
  · rw [if_neg hlen]
    have hd : decide (l.length = 128) = false := by simp [hlen]
    have hi : ¬ ((l.length : Nat) : Int) = 128 := by omega
    rw [hd, HT.out]
    clear hd hbs hlen
    generalize l.length = n at *
    have HB : Hid (Below w.heap.size w (((w.alloc (.cells t0 64)).alloc (.cells t0 64)).setRow w.heap.size t0)) := Lib.hid (below_setRow hbe0 (Nat.le_refl _))
    go_enter Try.func36, Try.ntmps36
    go_wp2_with (first
      | (refine wpList_load_row rfl 64 (.tmp 4) rfl (w.heap.size + 1) rfl 64 t0 (0, 0) _ h2 Try.underlying64 rfl s0 ?_)
      | (refine wpList_store_row rfl 64 (.tmp 2) (.tmp 10) rfl w.heap.size t0 rfl rfl 64 t0 h0 s0 rfl o0 ?_))
    (try simp only [Exit.inBlock, Exit.then])
    refine bodyPost_ret (results_cell_tmp rfl _ _ w.heap.size _ t0 _ _ _ rfl rfl (setRow_heap _ _ _ _ _ _ h0) Try.underlying64 rfl s0) rfl ?_
    exact ⟨rfl, HB.out⟩
theorem sch_whole (m : List W64) (hm : m.length = 16) : sch m 16 = m := by
  apply List.ext_getElem (by rw [sch_len, hm])
  intro i h1 h2
  have h := sch_first m (i := i) (k := 16) (by rw [sch_len] at h1; exact h1) (by rw [sch_len] at h1; exact h1)
  unfold wG at h
  simp only [List.getD, List.getElem?_eq_getElem h1, List.getElem?_eq_getElem h2, Option.getD_some] at h
  exact h

/-- a row's values copied into the front of another -/
theorem wpList_copy_row {P : Program} {w : World} {ops : Array Oper} {rest : List Oper} {o : Oper} {a : Act} {Q : Exit → Act → World → Prop} (hgd : o.guard = none) (d s : Operand) (dT sT : TypeId)
    (ho : o.op = .call { callee := .builtin .copy, args := #[d, s], argTypes := #[dT, sT] }) (E : TypeId) (hu : P.underlying dT = some (.slice E)) (hs : (P.info? E).map (·.size) = some 1)
    (g dLen dCap b : Nat) (sLen sCap : Nat) (hd : a.eval d = .slice (some ⟨g, 0, none⟩) dLen dCap) (hx : a.eval s = .slice (some ⟨b, 0, none⟩) sLen sCap) (cur cs : Array Value) (t t' : TypeId)
    (hg : w.heap[g]? = some (.cells cur t (0, 0))) (hb : w.heap[b]? = some (.cells cs t' (0, 0))) (hl : sLen = cs.size) (hn : cs.size ≤ dLen) (hfit : cs.size ≤ cur.size) (h1 : cs.all (·.oneCell') = true)
    (h : wpList P ops Q rest (a.put o.dst (goInt cs.size)) (w.setRow g (cs.toList ++ cur.toList.drop cs.size).toArray)) : wpList P ops Q (o :: rest) a w := by
  refine wpList_plain hgd fun K hK => ?_
  subst hl
  have hrun := run_copy_row (P := P) w dT sT o.type E g 0 dLen dCap ⟨b, 0, none⟩ cs.size sCap cur t cs.toList hu hs hg (by rw [show Nat.min cs.size dLen = min cs.size dLen from rfl, Nat.min_eq_left hn]; simp)
    (fun j v hj => by
      have := cell_of_row w b j cs t' (0, 0) hb
      have e : (⟨b, 0, none⟩ : Addr).add j = ⟨b, j, none⟩ := by
        unfold Addr.add
        split
        · rename_i h; subst h; rfl
        · simp
      rw [e, this]
      simpa using hj) (by simpa using hfit) (fun v hv => by
      rw [Array.all_eq_true'] at h1
      exact h1 v (by simpa using hv))
  unfold Oper.wp execOp
  simp only [ho, resolve, invoke, builtin, Sem.run_bind, Sem.run_pure, Result.andThen_ok, List.map_toArray, List.map_cons, List.map_nil, hd, hx, hrun]
  refine hK _ _ ?_
  simpa using h

set_option maxHeartbeats 1600000 in
theorem psched_any (m : List W64) (hm : m.length = 16) (w : World) :
    Calls Try.prog 54 #[.agg (tabW m)] w fun e w' => e = .returned (.agg (tabW (sch m 80))) ∧ Below w.heap.size w w' := by
  have hz := fun u => zero_tabW 54 80 (by kernel_rfl) u
  have sM : (Try.prog.info? 64).map (·.size) = some (tabW m).size := by rw [tabW_size, hm]; kernel_rfl
  have hMs : (tabW m).size = 16 := by rw [tabW_size, hm]
  have oM : (tabW m).all (·.oneCell') = true := tabW_one _
  have hst : ((tabW m).toList ++ (tabW (List.replicate 80 0)).toList.drop (tabW m).size).toArray = tabW (schTab m 16) := by
    rw [hMs]
    unfold schTab tabW
    rw [sch_whole m hm]
    simp
  obtain ⟨M, hM⟩ : ∃ M, tabW m = M := ⟨_, rfl⟩
  obtain ⟨t0, ht0⟩ : ∃ t0, tabW (List.replicate 80 0) = t0 := ⟨_, rfl⟩
  have ht0s : t0.size = 80 := by rw [← ht0, tabW_size]; simp
  rw [ht0] at hz
  rw [ht0, hM] at hst
  rw [hM] at sM hMs oM ⊢
  have h2 : (((w.alloc (.cells M 64)).alloc (.cells t0 54)).alloc (.cells t0 54)).heap[w.heap.size + 1 + 1]? = some (.cells t0 54 (0, 0)) := by
    have := heap_alloc_new ((w.alloc (.cells M 64)).alloc (.cells t0 54)) (.cells t0 54)
    rwa [World.size_alloc, World.size_alloc] at this
  have h1 : (((w.alloc (.cells M 64)).alloc (.cells t0 54)).alloc (.cells t0 54)).heap[w.heap.size + 1]? = some (.cells t0 54 (0, 0)) := by
    rw [heap_alloc_old _ _ (by rw [World.size_alloc, World.size_alloc]; omega)]
    have := heap_alloc_new (w.alloc (.cells M 64)) (.cells t0 54)
    rwa [World.size_alloc] at this
  have h0 : (((w.alloc (.cells M 64)).alloc (.cells t0 54)).alloc (.cells t0 54)).heap[w.heap.size]? = some (.cells M 64 (0, 0)) := by
    rw [heap_alloc_old _ _ (by rw [World.size_alloc, World.size_alloc]; omega), heap_alloc_old _ _ (by rw [World.size_alloc]; omega)]
    exact heap_alloc_new w _
  have hbe : Below w.heap.size w (((w.alloc (.cells M 64)).alloc (.cells t0 54)).alloc (.cells t0 54)) := below_alloc (below_alloc (below_alloc (Below.refl _ w) _) _) _
  have s0 : (Try.prog.info? 54).map (·.size) = some t0.size := by rw [ht0s]; kernel_rfl
  have o0 : t0.all (·.oneCell') = true := by rw [← ht0]; exact tabW_one _
  have HM := Lib.hid hM
  have HT := Lib.hid ht0
  have HST := Lib.hid hst
  clear hM ht0 hst
  have H0 := Lib.hid h0
  have H1 := Lib.hid h1
  have H2 := Lib.hid h2
  have HBE0 := Lib.hid hbe
  clear h0 h1 h2 hbe
  go_enter Try.func54, Try.ntmps54
  go_wp2_with fail
  obtain ⟨W0, hW0⟩ : ∃ W, ((w.alloc (.cells M 64)).alloc (.cells t0 54)).alloc (.cells t0 54) = W := ⟨_, rfl⟩
  obtain ⟨g, hg⟩ : ∃ g, w.heap.size = g := ⟨_, rfl⟩
  rw [hW0, hg] at H0 H1 H2 HBE0
  have HG := Lib.hid hg
  rw [hW0, hg]
  clear hW0 hg
  refine wp_region_still_tail 2 (by kernel_rfl) (by kernel_rfl) ?_
  simp only [List.take_succ_cons, List.take_zero, List.drop_succ_cons, List.drop_zero]
  iterate 2 still_step
  refine wpStill_nil ?_
  refine wpList_copy_row rfl (.tmp 5) (.tmp 6) 67 67 rfl 48 Try.underlying67 (by kernel_rfl) (g + 1 + 1) 80 80 g 16 16 rfl rfl t0 M 54 64 H2.out H0.out hMs.symm (by rw [hMs]; omega) (by rw [hMs, ht0s]; omega) oM ?_
  rw [HST.out]
  obtain ⟨W1, hW1⟩ : ∃ W, ({ W0 with drawn := W0.drawn + 1 } : World).setRow (g + 1 + 1) (tabW (schTab m 16)) = W := ⟨_, rfl⟩
  have HB2 : Hid (W1.heap[g + 1 + 1]? = some (.cells (tabW (schTab m 16)) 54 (0, 0))) := Lib.hid (by rw [← hW1]; exact setRow_heap _ _ _ _ _ _ H2.out)
  have HB1 : Hid (W1.heap[g + 1]? = some (.cells t0 54 (0, 0))) := Lib.hid (by rw [← hW1, setRow_other _ _ _ _ (by omega)]; exact H1.out)
  have HBE : Hid (Below g w W1) := Lib.hid (by rw [← hW1]; exact below_setRow (below_drewN' HBE0.out 1) (by omega))
  rw [hW1]
  clear hW1 H0 H1 H2 HBE0
  have HR0 : Hid (∀ (x : W64) (W : World), Calls Try.prog 68 #[.int .u64 (x.toNat : Int)] W fun e w' => e = .returned (.int .u64 ((sig0 x).toNat : Int)) ∧ w' = W) := Lib.hid fun x W => small0_any x W
  have HR1 : Hid (∀ (x : W64) (W : World), Calls Try.prog 67 #[.int .u64 (x.toNat : Int)] W fun e w' => e = .returned (.int .u64 ((sig1 x).toNat : Int)) ∧ w' = W) := Lib.hid fun x W => small1_any x W
  go_wp2_with fail
  go_loopw [4] (fun i wr => ∃ k : Nat, 16 ≤ k ∧ k ≤ 80 ∧ i = .int .i64 (k : Int) ∧ Hid (wr.heap[g + 1]? = some (.cells t0 54 (0, 0))) ∧
      Hid (wr.heap[g + 1 + 1]? = some (.cells (tabW (schTab m k)) 54 (0, 0))) ∧ Hid (Below g w wr)) (fun i _ => 80 - (intOf i).toNat)
  case atStart => exact ⟨16, by omega, by omega, rfl, HB1, HB2, HBE⟩
  case round =>
    clear HB1 HB2 HBE
    obtain ⟨k, hk16, hk, rfl, HB1, HB2, HBE⟩ := hrel
    by_cases hlt : k < 80
    · have hl := schTab_len m hk
      have hck : wr.cell? ⟨g + 1 + 1, k, none⟩ = some (.int .u64 ((wG (schTab m k) k).toNat : Int)) := by rw [cell_of_row _ _ _ _ _ _ HB2.out, tabW_get _ _ (by omega)]
      have hfz : wr.frozen? ⟨g + 1 + 1, k, none⟩ = false := by have := HB2.out; simp [World.frozen?, this]
      have hset := schTab_set m hlt
      obtain ⟨nx, hnx⟩ : ∃ nx, schNext m (sch m k) k = nx := ⟨_, rfl⟩
      rw [hnx] at hset
      have HN : Hid (((wr.drewN 1).setCell ⟨g + 1 + 1, k, none⟩ (.int .u64 (nx.toNat : Int))).heap[g + 1]? = some (.cells t0 54 (0, 0))) ∧
          Hid (((wr.drewN 1).setCell ⟨g + 1 + 1, k, none⟩ (.int .u64 (nx.toNat : Int))).heap[g + 1 + 1]? = some (.cells (tabW (schTab m (k + 1))) 54 (0, 0))) ∧ Hid (Below g w ((wr.drewN 1).setCell ⟨g + 1 + 1, k, none⟩ (.int .u64 (nx.toNat : Int)))) := by
        have e := setCell_eq_setRow (wr.drewN 1) (g + 1 + 1) k _ _ _ (.int .u64 (nx.toNat : Int)) HB2.out
        refine ⟨Lib.hid ?_, Lib.hid ?_, Lib.hid ((below_drewN' HBE.out 1).setCell (p := ⟨g + 1 + 1, k, none⟩) (by show g ≤ g + 1 + 1; omega) _)⟩
        · rw [e, setRow_other _ _ _ _ (by omega)]; exact HB1.out
        · rw [e, setRow_heap _ _ _ _ _ _ (show (wr.drewN 1).heap[g + 1 + 1]? = _ from HB2.out), tabW_set, hset]
      generalize (wG (schTab m k) k).toNat = old at *
      have cell : ∀ j, j < k → wr.cell? ⟨g + 1 + 1, j, none⟩ = some (.int .u64 ((wG (sch m k) j).toNat : Int)) := fun j hj => by
        rw [cell_of_row _ _ _ _ _ _ HB2.out, tabW_get _ _ (by omega), schTab_get m hj]
      obtain ⟨i15, e15⟩ : ∃ i, k - 15 = i := ⟨_, rfl⟩
      obtain ⟨i2, e2⟩ : ∃ i, k - 2 = i := ⟨_, rfl⟩
      obtain ⟨i7, e7⟩ : ∃ i, k - 7 = i := ⟨_, rfl⟩
      obtain ⟨i16, e16⟩ : ∃ i, k - 16 = i := ⟨_, rfl⟩
      have c15 := cell i15 (by omega)
      have c2 := cell i2 (by omega)
      have c7 := cell i7 (by omega)
      have c16 := cell i16 (by omega)
      unfold schNext at hnx
      rw [if_neg (by omega), e15, e2, e7, e16] at hnx
      have j15 : (k : Int) - 15 = (i15 : Int) := by omega
      have j2 : (k : Int) - 2 = (i2 : Int) := by omega
      have j7 : (k : Int) - 7 = (i7 : Int) := by omega
      have j16 : (k : Int) - 16 = (i16 : Int) := by omega
      have w15 : IntKind.i64.wrap (i15 : Int) = (i15 : Int) := by rw [IntKind.wrap_i64]; omega
      have w2 : IntKind.i64.wrap (i2 : Int) = (i2 : Int) := by rw [IntKind.wrap_i64]; omega
      have w7 : IntKind.i64.wrap (i7 : Int) = (i7 : Int) := by rw [IntKind.wrap_i64]; omega
      have w16 : IntKind.i64.wrap (i16 : Int) = (i16 : Int) := by rw [IntKind.wrap_i64]; omega
      have m15 : (i15 : Int) < 80 := by omega
      have m2 : (i2 : Int) < 80 := by omega
      have m7 : (i7 : Int) < 80 := by omega
      have m16 : (i16 : Int) < 80 := by omega
      have mk : (k : Int) < 80 := by omega
      have p15 : 0 ≤ (i15 : Int) := by omega
      have p2 : 0 ≤ (i2 : Int) := by omega
      have p7 : 0 ≤ (i7 : Int) := by omega
      have p16 : 0 ≤ (i16 : Int) := by omega
      have pk : 0 ≤ (k : Int) := by omega
      generalize wG (sch m k) i15 = x15 at *
      generalize wG (sch m k) i2 = x2 at *
      generalize wG (sch m k) i7 = x7 at *
      generalize wG (sch m k) i16 = x16 at *
      have R1 := Lib.hid (HR1.out x2)
      have R0 := Lib.hid (HR0.out x15)
      generalize sig1 x2 = u2 at *
      generalize sig0 x15 = u4 at *
      have f7 := add_w u2 x7
      generalize u2 + x7 = u5 at *
      have f8 := add_w u5 u4
      generalize u5 + u4 = u6 at *
      have f9 := add_w u6 x16
      rw [hnx] at f9
      obtain ⟨n1, n2, n3⟩ := HN
      clear hset hnx hl HB1 HB2 HBE HR0 HR1 cell e15 e2 e7 e16
      go_wp2_with fail
      refine wp_region_still_tail 23 (by kernel_rfl) (by kernel_rfl) ?_
      simp only [List.take_succ_cons, List.take_zero, List.drop_succ_cons, List.drop_zero]
      iterate 5 still_step
      still_call (R1.out _)
      iterate 9 still_step
      still_call (R0.out _)
      iterate 7 still_step
      refine wpStill_nil ?_
      go_wp2_with fail
      go_roundw
      case rel => exact ⟨k + 1, by omega, by omega, by go_num, n1, n2, n3⟩
      case measure => simp [intOf]; omega
    · obtain rfl : k = 80 := by omega
      have h1 := HB2.out
      have h0 := HB1.out
      rw [schTab_end] at h1
      have s1 : (Try.prog.info? 54).map (·.size) = some (tabW (sch m 80)).size := by rw [tabW_size, sch_len]; kernel_rfl
      have sz : t0.size = (tabW (sch m 80)).size := by rw [ht0s, tabW_size, sch_len]
      have o1 := tabW_one (sch m 80)
      have HB := Lib.hid (show Below w.heap.size w (wr.setRow (g + 1) (tabW (sch m 80))) by
        rw [HG.out]
        exact below_setRow HBE.out (by omega))
      obtain ⟨t1, ht1⟩ : ∃ t1, tabW (sch m 80) = t1 := ⟨_, rfl⟩
      rw [ht1] at h1 s1 sz o1 HB
      have HT1 := Lib.hid ht1
      clear ht1 HB1 HB2 HBE HR0 HR1
      go_wp2_with (first
        | (refine wpList_load_row rfl 54 (.tmp 3) rfl (g + 1 + 1) rfl 54 t1 (0, 0) _ h1 Try.underlying54 rfl s1 ?_)
        | (refine wpList_store_row rfl 54 (.tmp 2) (.tmp 35) rfl (g + 1) t1 rfl rfl 54 t0 h0 s1 sz o1 ?_))
      (try simp only [Exit.inBlock, Exit.then])
      refine bodyPost_ret (results_cell_row rfl _ _ (g + 1) _ t1 _ _ rfl (setRow_heap wr _ _ _ _ _ h0) Try.underlying54 rfl s1) rfl ?_
      exact ⟨by rw [HT1.out], HB.out⟩
end Go.Proofs.Ytbkcglfdliicpaa

