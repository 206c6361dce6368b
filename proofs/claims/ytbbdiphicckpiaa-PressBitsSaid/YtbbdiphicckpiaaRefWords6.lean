/- The contract of the reference's Words. -/
import Derived.Test.YtbbdiphicckpiaaRefSched6
namespace Go.Proofs.Ytbbdiphicckpiaa
open Go.RowKit
set_option linter.unusedVariables false
set_option maxRecDepth 100000

theorem results_cell_tmp {P : Program} {fn : Func} {p q : Tmp} {ty : TypeId} (h : fn.results = #[.cell p ty, .tmp q]) (tmps : Array Value) (w : World) (g : Nat) (t : TypeId) (cs : Array Value) (fr : Nat × Nat) (d : TypeDesc) (x : Value)
    (hp : tmps.getD p undef = .pointer (some ⟨g, 0, none⟩)) (hq : tmps.getD q undef = x) (hg : w.heap[g]? = some (.cells cs t fr))
    (hu : P.underlying ty = some d) (hd : (match d with | .struct _ | .array _ _ => true | _ => false) = true) (hi : (P.info? ty).map (·.size) = some cs.size) :
    (results fn tmps).run P w = .ok (.tuple #[.agg cs, x]) w := by
  have hp' : tmps[p]?.getD undef = .pointer (some ⟨g, 0, none⟩) := by simpa using hp
  have hq' : tmps[q]?.getD undef = x := by simpa using hq
  simp [results, h, hp', hq', asAddr, run_loadVar_row w g t ty cs fr d hg hu hd hi]

theorem push_nat (b : UInt8) : (BitVec.ofNat 64 b.toNat).toNat = b.toNat := by
  have := b.toNat_lt
  rw [BitVec.toNat_ofNat]; omega

set_option maxHeartbeats 1600000 in
theorem rwords_any (A : Option Addr) (l : List UInt8) (c : Nat) (w : World) (hbs : Bs w A l) :
    Calls Try.prog 20 #[.slice A l.length c] w fun e w' => e = .returned (.tuple #[.agg (tabW (if l.length = 128 then wordsL l else List.replicate 16 0)), .bool (decide (l.length = 128))]) ∧ Below w.heap.size w w' := by
  have hz := fun u => zero_tabW 24 16 (by kernel_rfl) u
  obtain ⟨t0, ht0⟩ : ∃ t0, tabW (List.replicate 16 0) = t0 := ⟨_, rfl⟩
  have ht0s : t0.size = 16 := by rw [← ht0, tabW_size]; simp
  rw [ht0] at hz
  have h2 : ((w.alloc (.cells t0 24)).alloc (.cells t0 24)).heap[w.heap.size + 1]? = some (.cells t0 24 (0, 0)) := heap_alloc2_new _ _ _
  have s0 : (Try.prog.info? 24).map (·.size) = some t0.size := by rw [ht0s]; kernel_rfl
  have o0 : t0.all (·.oneCell') = true := by rw [← ht0]; exact tabW_one _
  have HT := Lib.hid ht0
  have HS := Lib.hid hbs
  clear ht0
  by_cases hlen : l.length = 128
  · rw [if_pos hlen]
    have hd : decide (l.length = 128) = true := by simp [hlen]
    rw [hd, hlen]
    have HL := Lib.hid hlen
    clear hd hlen hbs
    go_enter Try.func20, Try.ntmps20
    go_wp2_with (refine wpList_store_row rfl 24 (.tmp 4) (.tmp 6) rfl (w.heap.size + 1) t0 rfl rfl 24 t0 h2 s0 rfl o0 ?_)
    obtain ⟨W1, hW1⟩ : ∃ W, ((w.alloc (.cells t0 24)).alloc (.cells t0 24)).setRow (w.heap.size + 1) t0 = W := ⟨_, rfl⟩
    obtain ⟨g, hg⟩ : ∃ g, w.heap.size = g := ⟨_, rfl⟩
    have b1 : W1.heap[g + 1]? = some (.cells t0 24 (0, 0)) := by rw [← hW1, ← hg]; exact setRow_heap _ _ _ _ _ _ h2
    have b0 : W1.heap[g]? = some (.cells t0 24 (0, 0)) := by
      rw [← hW1, setRow_other _ _ _ _ (by omega), ← hg]
      exact heap_alloc2_old _ _ _
    have hbe : Below g w W1 := by
      have hb := ((Below.refl w.heap.size w).alloc (Nat.le_refl _) (.cells t0 24)).alloc (by simp) (.cells t0 24)
      rw [← hW1, ← hg]
      exact ⟨hb.os, hb.tape, hb.output, by have := hb.size; simpa using this, fun j hj => by rw [setRow_other _ _ _ _ (by omega)]; exact hb.block j hj⟩
    have HB1 := Lib.hid b1
    have HB0 := Lib.hid b0
    have HBE := Lib.hid hbe
    have HG := Lib.hid hg
    rw [← HT.out] at HB1
    rw [hW1, hg]
    clear b0 b1 hbe h2 hW1 hg
    go_loopw [5] (fun i wr => ∃ k : Nat, k ≤ 128 ∧ i = .int .i64 (k : Int) ∧ Hid (wr.heap[g]? = some (.cells t0 24 (0, 0))) ∧
        Hid (wr.heap[g + 1]? = some (.cells (tabW (wordsTo l k)) 24 (0, 0))) ∧ Hid (Below g w wr)) (fun i _ => 128 - (intOf i).toNat)
    case atStart => exact ⟨0, by omega, rfl, HB0, HB1, HBE⟩
    case round =>
      clear HB0 HB1 HBE
      obtain ⟨k, hk, rfl, HB0, HB1, HBE⟩ := hrel
      by_cases hlt : k < 128
      · have hl := wordsTo_len l k
        obtain ⟨d, hd⟩ : ∃ d, k / 8 = d := ⟨_, rfl⟩
        have hd16 : d < 16 := by omega
        have hck : wr.cell? ⟨g + 1, d, none⟩ = some (.int .u64 ((wG (wordsTo l k) d).toNat : Int)) := by rw [cell_of_row _ _ _ _ _ _ HB1.out, tabW_get _ _ (by omega)]
        have hfz : wr.frozen? ⟨g + 1, d, none⟩ = false := by have := HB1.out; simp [World.frozen?, this]
        obtain ⟨bb, oo, rfl, hc0⟩ := HS.out.at_ (k := k) (by rw [HL.out]; exact hlt)
        have hc : wr.cell? ⟨bb, oo + k, none⟩ = some (.int .u8 ((l.getD k 0).toNat : Int)) := by
          have hlt := World.block_lt_of_cell? w _ hc0
          rw [HBE.out.cell (by rw [HG.out] at hlt; exact hlt)]; exact hc0
        have hset : (wordsTo l k).set d (pushB (wG (wordsTo l k) d) (l.getD k 0)) = wordsTo l (k + 1) := by rw [wordsTo, hd]
        generalize wG (wordsTo l k) d = x at *
        generalize l.getD k 0 = b at *
        obtain ⟨nx, hnx⟩ : ∃ nx, pushB x b = nx := ⟨_, rfl⟩
        rw [hnx] at hset
        have hbl := b.toNat_lt
        have f1 := shl_w x 8
        have f2 := or_w (x <<< 8) (BitVec.ofNat 64 b.toNat)
        have f3 : x <<< 8 ||| BitVec.ofNat 64 b.toNat = nx := hnx
        rw [push_nat, f3] at f2
        generalize x <<< 8 = y at *
        have f4 : IntKind.u64.wrap ((x.toNat : Int) * 256) = (y.toNat : Int) := f1
        have f5 : IntKind.u64.wrap (b.toNat : Int) = (b.toNat : Int) := by rw [IntKind.wrap_u64]; omega
        have t1 : (k : Int).tdiv 8 = (d : Int) := by rw [Int.tdiv_eq_ediv_of_nonneg (by omega)]; omega
        have t2 : (k : Int) / 8 = (d : Int) := by omega
        have t3 : IntKind.i64.wrap (d : Int) = (d : Int) := by rw [IntKind.wrap_i64]; omega
        have t4 : IntKind.i64.wrap (k : Int) = (k : Int) := by rw [IntKind.wrap_i64]; omega
        have p1 : 0 ≤ (d : Int) := by omega
        have p2 : (d : Int) < 16 := by omega
        have p3 : 0 ≤ (k : Int) := by omega
        have p4 : (k : Int) < 128 := by omega
        have HN : Hid (((wr.drewN 1).setCell ⟨g + 1, d, none⟩ (.int .u64 (nx.toNat : Int))).heap[g]? = some (.cells t0 24 (0, 0))) ∧
            Hid (((wr.drewN 1).setCell ⟨g + 1, d, none⟩ (.int .u64 (nx.toNat : Int))).heap[g + 1]? = some (.cells (tabW (wordsTo l (k + 1))) 24 (0, 0))) ∧ Hid (Below g w ((wr.drewN 1).setCell ⟨g + 1, d, none⟩ (.int .u64 (nx.toNat : Int)))) := by
          have e := setCell_eq_setRow (wr.drewN 1) (g + 1) d _ _ _ (.int .u64 (nx.toNat : Int)) HB1.out
          refine ⟨Lib.hid ?_, Lib.hid ?_, Lib.hid ((below_drewN' HBE.out 1).setCell (p := ⟨g + 1, d, none⟩) (by show g ≤ g + 1; omega) _)⟩
          · rw [e, setRow_other _ _ _ _ (by omega)]; exact HB0.out
          · rw [e, setRow_heap _ _ _ _ _ _ (show (wr.drewN 1).heap[g + 1]? = _ from HB1.out), tabW_set, hset]
        obtain ⟨n1, n2, n3⟩ := HN
        clear hset hnx hl HB0 HB1 HBE f1 f3 hc0
        go_wp2_with fail
        refine wp_region_still_tail 14 (by kernel_rfl) (by kernel_rfl) ?_
        simp only [List.take_succ_cons, List.take_zero, List.drop_succ_cons, List.drop_zero]
        iterate 14 still_step
        refine wpStill_nil ?_
        go_wp2_with fail
        go_roundw
        case rel => exact ⟨k + 1, by omega, by go_num, n1, n2, n3⟩
        case measure => simp [intOf]; omega
      · obtain rfl : k = 128 := by omega
        have h1 := HB1.out
        have h0 := HB0.out
        have s1 : (Try.prog.info? 24).map (·.size) = some (tabW (wordsTo l 128)).size := by rw [tabW_size, wordsTo_len]; kernel_rfl
        have sz : t0.size = (tabW (wordsTo l 128)).size := by rw [ht0s, tabW_size, wordsTo_len]
        have o1 := tabW_one (wordsTo l 128)
        have HB := Lib.hid (show Below w.heap.size w (wr.setRow g (tabW (wordsTo l 128))) by
          rw [HG.out]
          exact ⟨HBE.out.os, HBE.out.tape, HBE.out.output, by have := HBE.out.size; simpa using this, fun j hj => by rw [setRow_other _ _ _ _ (by omega)]; exact HBE.out.block j hj⟩)
        obtain ⟨t1, ht1⟩ : ∃ t1, tabW (wordsTo l 128) = t1 := ⟨_, rfl⟩
        rw [ht1] at h1 s1 sz o1 HB
        have HT1 := Lib.hid ht1
        clear ht1 HB0 HB1 HBE
        go_wp2_with (first
          | (refine wpList_load_row rfl 24 (.tmp 4) rfl (g + 1) rfl 24 t1 (0, 0) _ h1 Try.underlying24 rfl s1 ?_)
          | (refine wpList_store_row rfl 24 (.tmp 2) (.tmp 29) rfl g t1 rfl rfl 24 t0 h0 s1 sz o1 ?_))
        (try simp only [Exit.inBlock, Exit.then])
        refine bodyPost_ret (results_cell_tmp rfl _ _ g _ t1 _ _ _ rfl rfl (setRow_heap wr _ _ _ _ _ h0) Try.underlying24 rfl s1) rfl ?_
        exact ⟨by unfold wordsL; rw [HT1.out]; rfl, HB.out⟩
  · rw [if_neg hlen]
    have hd : decide (l.length = 128) = false := by simp [hlen]
    have hi : ¬ ((l.length : Nat) : Int) = 128 := by omega
    rw [hd, HT.out]
    clear hd hbs hlen
    generalize l.length = n at *
    have h0 : ((w.alloc (.cells t0 24)).alloc (.cells t0 24)).heap[w.heap.size]? = some (.cells t0 24 (0, 0)) := heap_alloc2_old _ _ _
    have h0' : (((w.alloc (.cells t0 24)).alloc (.cells t0 24)).setRow (w.heap.size + 1) t0).heap[w.heap.size]? = some (.cells t0 24 (0, 0)) := by rw [setRow_other _ _ _ _ (by omega)]; exact h0
    have h1' : (((w.alloc (.cells t0 24)).alloc (.cells t0 24)).setRow (w.heap.size + 1) t0).heap[w.heap.size + 1]? = some (.cells t0 24 (0, 0)) := setRow_heap _ _ _ _ _ _ h2
    have HB : Hid (Below w.heap.size w ((((w.alloc (.cells t0 24)).alloc (.cells t0 24)).setRow (w.heap.size + 1) t0).setRow w.heap.size t0)) := Lib.hid (by
      have hb := ((Below.refl w.heap.size w).alloc (Nat.le_refl _) (.cells t0 24)).alloc (by simp) (.cells t0 24)
      exact ⟨hb.os, hb.tape, hb.output, by have := hb.size; simpa using this, fun j hj => by rw [setRow_other _ _ _ _ (by omega), setRow_other _ _ _ _ (by omega)]; exact hb.block j hj⟩)
    go_enter Try.func20, Try.ntmps20
    go_wp2_with (first
      | (refine wpList_store_row rfl 24 (.tmp 4) (.tmp 6) rfl (w.heap.size + 1) t0 rfl rfl 24 t0 h2 s0 rfl o0 ?_)
      | (refine wpList_load_row rfl 24 (.tmp 4) rfl (w.heap.size + 1) rfl 24 t0 (0, 0) _ h1' Try.underlying24 rfl s0 ?_)
      | (refine wpList_store_row rfl 24 (.tmp 2) (.tmp 10) rfl w.heap.size t0 rfl rfl 24 t0 h0' s0 rfl o0 ?_))
    (try simp only [Exit.inBlock, Exit.then])
    refine bodyPost_ret (results_cell_tmp rfl _ _ w.heap.size _ t0 _ _ _ rfl rfl (setRow_heap _ _ _ _ _ _ h0') Try.underlying24 rfl s0) rfl ?_
    exact ⟨rfl, HB.out⟩
end Go.Proofs.Ytbbdiphicckpiaa

