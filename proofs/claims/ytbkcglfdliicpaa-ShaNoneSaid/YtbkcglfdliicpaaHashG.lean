/- The contract of the developers' Load. -/
import Derived.Test.YtbkcglfdliicpaaHashF
namespace Go.Proofs.Ytbkcglfdliicpaa
open Go.RowKit
set_option linter.unusedVariables false
set_option maxRecDepth 100000

theorem build_hash3 (s : St) (n : Nat) (u : World) : (Instr.build 52 #[(0, .bool true), (1, .agg (tabW s.l)), (2, .int .u64 (n : Int))]).run Try.prog u = .ok (.agg (hcells true s.l n (List.replicate 128 0)).toArray) u := by
  obtain ⟨a, b, c, d, e, f, g, h⟩ := s
  exact run_build u _ _ _ (by kernel_rfl)
theorem slice_words (g : Nat) (u : World) : (Instr.sliceAt 64 (.pointer (some ⟨g, 0, none⟩)) none (some (.int .i64 8)) none).run Try.prog u = .ok (.slice (some ⟨g, 0, none⟩) 8 16) u := by
  have hu : Try.prog.underlying 64 = some (.array (Try.prog.arrayLen 64) (Try.prog.elem 64)) := by kernel_rfl
  have hl : Try.prog.arrayLen 64 = 16 := by kernel_rfl
  have hz : ∀ W : World, (sizeOf (Try.prog.elem 64)).run Try.prog W = .ok 1 W := fun W => by kernel_rfl
  rw [run_sliceAt_array_h u _ _ hu .i64 8 (by omega) (by rw [hl]; omega), hz, hl]
  simp only [Result.andThen, slicedAt]
  rfl
theorem array_words (g c : Nat) (u : World) : (Instr.arrayAt 49 (.slice (some ⟨g, 0, none⟩) 8 c)).run Try.prog u = .ok (.pointer (some ⟨g, 0, none⟩)) u := by
  have hu : Try.prog.underlying 49 = some (.array 8 48) := by kernel_rfl
  simp [Instr.arrayAt, run_underlying hu]

theorem wordAt_take (l : List UInt8) (i : Nat) (h : i < 16) : wordAt (l.take 128) i = wordAt l i := by
  unfold wordAt
  rw [List.drop_take, List.take_take, Nat.min_eq_left (by omega)]
/-- what Words tells of the first 128 bytes -/
theorem words_load (l : List UInt8) (h : l.length = 200) : wordsL (l.take 128) = (List.range 16).map (wordAt l) := by
  rw [wordsL_is _ (by rw [List.length_take]; omega)]
  apply List.map_congr_left
  intro i hi
  exact wordAt_take l i (List.mem_range.1 hi)
theorem words_state (l : List UInt8) (h : l.length = 200) : (tabW (wordsL (l.take 128))).toList.take 8 = (ofL ((List.range 8).map (wordAt l))).l.map wv := by
  rw [l_ofL (by simp), words_load l h]
  simp only [tabW]
  rfl
theorem words_count (l : List UInt8) (h : l.length = 200) : (tabW (wordsL (l.take 128)))[8]? = some (.int .u64 (cntB l : Int)) := by
  rw [words_load l h]
  rfl
theorem row_range {W : World} {g : Nat} {cs : Array Value} {t : TypeId} (h : W.heap[g]? = some (.cells cs t (0, 0))) (n : Nat) : W.rangeAt g 0 (cs.toList.take n) := fun j v hj => by
  rw [List.getElem?_take] at hj
  split at hj
  · rw [cell_of_row _ _ _ _ _ _ h, Nat.zero_add]
    simpa using hj
  · cases hj

/-- what Load gives of 200 bytes -/
def LoadP (W0 : World) (l : List UInt8) (e : Ending) (w' : World) : Prop :=
  (mayB l = true → ∃ g, e = .returned (.tuple #[.pointer (some ⟨g, 0, none⟩), .bool true]) ∧ HS w' g (loadB l) ∧ W0.heap.size ≤ g ∧ Below W0.heap.size W0 w') ∧
    (mayB l = false → e = .returned (.tuple #[.pointer none, .bool false]) ∧ Below W0.heap.size W0 w')

set_option maxHeartbeats 6400000 in
theorem hload_any (W0 : World) (A : Option Addr) (l : List UInt8) (c : Nat) (hb : Bs W0 A l) (hc : l.length ≤ c) (hl : l.length = 200) :
    Calls Try.prog 17 #[.slice A 200 c] W0 (LoadP W0 l) := by
  have hz := fun u => zero_tabW 64 16 (by kernel_rfl) u
  obtain ⟨z16, hz16⟩ : ∃ z, tabW (List.replicate 16 0) = z := ⟨_, rfl⟩
  have n16 : z16.size = 16 := by rw [← hz16, tabW_size]; simp
  rw [hz16] at hz
  have hsl1 := fun u => sl_head A 200 c 128 (by omega) .i64 (128 : Int) rfl u
  have hl128 : (l.take 128).length = 128 := by rw [List.length_take]; omega
  have HWD : Hid (∀ W : World, Below W0.heap.size W0 W → Calls Try.prog 36 #[.slice A 128 c] W fun e w' => e = .returned (.tuple #[.agg (tabW (wordsL (l.take 128))), .bool true]) ∧ Below W.heap.size W w') := Lib.hid fun W hbl => by
    have := pwords_any A (l.take 128) c W (bs_take (hb.below hbl) 128)
    unfold wordsV at this
    rw [if_pos hl128, hl128] at this
    exact this
  have hst := words_state l hl
  have hct := words_count l hl
  have oM := tabW_one (wordsL (l.take 128))
  have nM : (tabW (wordsL (l.take 128))).size = 16 := by
    rw [tabW_size]
    exact wordsTo_len _ _
  obtain ⟨MM, hMM⟩ : ∃ M, tabW (wordsL (l.take 128)) = M := ⟨_, rfl⟩
  rw [hMM] at HWD hst hct oM nM
  have iM : (Try.prog.info? 64).map (·.size) = some MM.size := by rw [nM]; kernel_rfl
  have sM : z16.size = MM.size := by rw [n16, nM]
  obtain ⟨s, hs⟩ : ∃ s, ofL ((List.range 8).map (wordAt l)) = s := ⟨_, rfl⟩
  obtain ⟨n, hn⟩ : ∃ n, cntB l = n := ⟨_, rfl⟩
  rw [hs] at hst
  rw [hn] at hct
  have iS : (Try.prog.info? 49).map (·.size) = some (s.l.map wv).length := by rw [List.length_map, St.len]; kernel_rfl
  have hbu : ∀ u, (Instr.build 52 #[(0, .bool true), (1, .agg (s.l.map wv).toArray), (2, .int .u64 (n : Int))]).run Try.prog u = .ok (.agg (hcells true s.l n (List.replicate 128 0)).toArray) u := fun u => build_hash3 s n u
  have hnl : n < 18446744073709551616 := by rw [← hn]; exact (beW _).isLt
  obtain ⟨R, hR⟩ : ∃ R, l.drop 72 = R := ⟨_, rfl⟩
  have hRl : R.length = 128 := by rw [← hR, List.length_drop]; omega
  obtain ⟨r, hr⟩ : ∃ r, n % 128 = r := ⟨_, rfl⟩
  have hrl : r < 128 := by omega
  have hmay : mayB l = (decide (n ≤ 1152921504606846976) && (R.drop r).all (· == 0)) := by
    unfold mayB
    rw [hl, hn, hr, ← hR, List.drop_drop]
    simp
  have hload : loadB l = ⟨s, n, R.take r⟩ := by
    unfold loadB
    rw [hs, hn, hr, hR]
  obtain ⟨D, hD⟩ : ∃ D, R.drop r = D := ⟨_, rfl⟩
  have hDl : D.length = 128 - r := by rw [← hD, List.length_drop]; omega
  have hDp : 0 < D.length := by omega
  rw [hD] at hmay
  obtain ⟨M, hM⟩ : ∃ M : Bool, (decide (n ≤ 1152921504606846976) && D.all (· == 0)) = M := ⟨_, rfl⟩
  rw [hM] at hmay
  have HPY : Hid (∀ g w', M = true → HS w' g ⟨s, n, R.take r⟩ → W0.heap.size ≤ g → Below W0.heap.size W0 w' → LoadP W0 l (.returned (.tuple #[.pointer (some ⟨g, 0, none⟩), .bool true])) w') := Lib.hid fun g w' h1 h2 h3 h4 => ⟨fun _ => ⟨g, rfl, by rw [hload]; exact h2, h3, h4⟩, fun h => by rw [hmay, h1] at h; cases h⟩
  have HPN : Hid (∀ w', M = false → Below W0.heap.size W0 w' → LoadP W0 l (.returned (.tuple #[.pointer none, .bool false])) w') := Lib.hid fun w' h1 h4 => ⟨fun h => (by rw [hmay, h1] at h; cases h), fun _ => ⟨rfl, h4⟩⟩
  have HM := Lib.hid hM
  clear hM
  obtain ⟨A1, hb1, hat1, hsl2⟩ := sl_tail A W0 l hb c hc 72 (by omega) .i64
  rw [hR] at hb1
  rw [hl] at hsl2
  have hsl2' : ∀ u, (Instr.slice 22 (.slice A 200 c) (some (.int .i64 72)) none none).run Try.prog u = .ok (.slice A1 R.length (c - 72)) u := fun u => by rw [hsl2 72 rfl u, hRl]
  obtain ⟨A2, hb2, hat2, hsl3⟩ := sl_tail A1 W0 R hb1 (c - 72) (by omega) r (by omega) .i64
  rw [hD] at hb2
  obtain ⟨b2, o2, rfl, hc2⟩ := hb2 hDp
  have hsl3' : ∀ u, (Instr.slice 22 (.slice A1 R.length (c - 72)) (some (.int .i64 (r : Int))) none none).run Try.prog u = .ok (.slice (some ⟨b2, o2, none⟩) D.length (c - 72 - r)) u := fun u => by rw [hsl3 r rfl u, hRl, hDl]
  have HB1 := Lib.hid hb1
  have HC2 : Hid (∀ W : World, Below W0.heap.size W0 W → ∀ j (hj : j < D.length), W.cell? ⟨b2, o2 + j, none⟩ = some (.int .u8 ((D.getD j 0).toNat : Int))) := Lib.hid fun W hbl j hj => by
    have h0 := hc2 j hj
    rw [hbl.cell (World.block_lt_of_cell? _ _ h0)]
    exact h0
  have HHE : Hid (∀ (W : World) (g : Nat), HA W g true s n (List.replicate 128 0) → n ≤ 4611686018427387904 → Calls Try.prog 35 #[.pointer (some ⟨g, 0, none⟩)] W fun e w' => e = .returned (.int .i64 (r : Int)) ∧ w' = W) := Lib.hid fun W g ha hle => by
    have := hheld_any W ha hle
    rwa [hr] at this
  have HRL := Lib.hid hRl
  have HRR := Lib.hid hr
  have HRr := Lib.hid hrl
  have HST := Lib.hid hst
  have HCT := Lib.hid hct
  have HDP := Lib.hid hDp
  have HDL : Hid (D.length ≤ 128) := Lib.hid (by omega)
  have HCC : Hid (R.length ≤ c - 72) := Lib.hid (by omega)
  clear hb hc hl hz16 n16 hl128 hst hct hMM nM hs hn hR hRl hmay hload hD hDl hDp hb1 hat1 hsl1 hsl2 hb2 hat2 hsl3 hc2 hr hrl
  have hsl1 := fun u => sl_head A 200 c 128 (by have := HCC.out; have := HRL.out; omega) .i64 (128 : Int) rfl u
  go_enter Try.func17, Try.ntmps17
  go_wp2_with fail
  with_reducible refine (HWD.out _ (Below.refl _ _)).mono ?_
  rintro e w1 ⟨rfl, hb1⟩
  have h0 : (w1.alloc (.cells z16 64)).heap[w1.heap.size]? = some (.cells z16 64 (0, 0)) := heap_alloc_new _ _
  have HRM : Hid (((w1.alloc (.cells z16 64)).setRow w1.heap.size MM).drew.heap[w1.heap.size]? = some (.cells MM 64 (0, 0))) := Lib.hid (by exact setRow_heap _ _ _ _ _ _ h0)
  have HB3 : Hid (Below W0.heap.size W0 ((w1.alloc (.cells z16 64)).setRow w1.heap.size MM).drew) := Lib.hid (below_setRow (below_alloc hb1 _) hb1.size).drew
  have HGM : Hid (w1.heap.size < ((w1.alloc (.cells z16 64)).setRow w1.heap.size MM).drew.heap.size) := Lib.hid (Array.getElem?_eq_some_iff.1 HRM.out).1
  obtain ⟨gm, hgm⟩ : ∃ gm, w1.heap.size = gm := ⟨_, rfl⟩
  have HGK := Lib.hid hgm
  rw [hgm] at h0 HRM HB3 HGM
  clear hb1 HWD hgm
  go_wp2_with (refine wpList_store_row rfl 64 (.tmp 4) (.tmp 17) rfl gm MM (by rw [← HGK.out]; rfl) rfl 64 z16 h0 iM sM oM ?_)
  (try rw [HGK.out])
  clear h0 oM sM hz hsl1
  obtain ⟨W3, hW3⟩ : ∃ W3, (w1.alloc (.cells z16 64)).setRow gm MM = W3 := ⟨_, rfl⟩
  rw [hW3] at HRM HB3 HGM
  rw [hW3]
  clear hW3 HGK
  have hsw := fun u => slice_words gm u
  have haw := fun u => array_words gm 16 u
  have HRG : Hid (∀ W : World, W.heap[gm]? = some (.cells MM 64 (0, 0)) → W.rangeAt gm 0 (s.l.map wv)) := Lib.hid fun W h => by
    have := row_range h 8
    rwa [HST.out] at this
  have HRC : Hid (∀ W : World, W.heap[gm]? = some (.cells MM 64 (0, 0)) → W.cell? ⟨gm, 8, none⟩ = some (.int .u64 (n : Int))) := Lib.hid fun W h => by
    rw [cell_of_row _ _ _ _ _ _ h]
    exact HCT.out
  have hhl : (hcells true s.l n (List.replicate 128 0)).length = 138 := hcells_len true n (St.len s) (by simp)
  have HA5 : Hid (HA (W3.alloc (.cells (hcells true s.l n (List.replicate 128 0)).toArray 52)).drew W3.heap.size true s n (List.replicate 128 0)) := Lib.hid ⟨heap_alloc_new W3 _, by simp⟩
  have HB5 : Hid (Below W0.heap.size W0 (W3.alloc (.cells (hcells true s.l n (List.replicate 128 0)).toArray 52)).drew) := Lib.hid (by exact below_alloc HB3.out _)
  have HG5 : Hid (W0.heap.size ≤ W3.heap.size) := Lib.hid HB3.out.size
  obtain ⟨K0, hK0⟩ : ∃ K, List.replicate 128 (0 : UInt8) = K := ⟨_, rfl⟩
  have hk0 : K0.length = 128 := by rw [← hK0]; simp
  have HK0 := Lib.hid hk0
  rw [hK0] at hbu HA5 HB5 HHE
  obtain ⟨V, hV⟩ : ∃ V, (hcells true s.l n K0).toArray = V := ⟨_, rfl⟩
  rw [hV] at hbu HA5 HB5
  clear hV hhl hK0 hk0
  refine wp_region_noPanic ?_
  refine wp_region_held_drew (S := fun W => W.heap[gm]? = some (.cells MM 64 (0, 0))) (by kernel_rfl) (by exact HRM.out) (fun hS => ?_)
  refine' take_at 0 rfl (by kernel_rfl) (by kernel_rfl) (by kernel_rfl) (fun _ _ _ h => h) (by rfl) hS ?_ ?_ ?_
  rotate_left 2
  · intro W hSW; go_simp; try with_reducible rfl
  · simp only [List.set_cons_succ, List.set_cons_zero]; rfl
  refine' take_at 1 rfl (by kernel_rfl) (by kernel_rfl) (by kernel_rfl) (fun _ _ _ h => h) (by rfl) hS ?_ ?_ ?_
  rotate_left 2
  · intro W hSW; go_simp; try with_reducible rfl
  · simp only [List.set_cons_succ, List.set_cons_zero]; rfl
  refine' take_at 2 rfl (by kernel_rfl) (by kernel_rfl) (by kernel_rfl) (fun _ _ _ h => h) (by rfl) hS ?_ ?_ ?_
  rotate_left 2
  · intro W hSW; exact run_load_range rfl rfl (HRG.out W hSW) Try.underlying49 rfl iS
  · simp only [List.set_cons_succ, List.set_cons_zero]; rfl
  refine' take_at 3 rfl (by kernel_rfl) (by kernel_rfl) (by kernel_rfl) (fun _ _ _ h => h) (by rfl) hS ?_ ?_ ?_
  rotate_left 2
  · intro W hSW; go_simp; try with_reducible rfl
  · simp only [List.set_cons_succ, List.set_cons_zero]; rfl
  refine' take_at 4 rfl (by kernel_rfl) (by kernel_rfl) (by kernel_rfl) (fun _ _ _ h => h) (by rfl) hS ?_ ?_ ?_
  rotate_left 2
  · intro W hSW; have hc := HRC.out W hSW; go_simp; try with_reducible rfl
  · simp only [List.set_cons_succ, List.set_cons_zero]; rfl
  refine' take_at 5 rfl (by kernel_rfl) (by kernel_rfl) (by kernel_rfl) (fun _ _ _ h => h) (by rfl) hS ?_ ?_ ?_
  rotate_left 2
  · intro W hSW; exact Eq.trans (b := Sem.run Try.prog (do pure (Next.value (← Instr.build 52 #[(0, .bool true), (1, .agg (s.l.map wv).toArray), (2, .int .u64 (n : Int))]))) W) (by kernel_rfl) (run_value (hbu W))
  · simp only [List.set_cons_succ, List.set_cons_zero]; rfl
  refine call_at 6 rfl (by kernel_rfl) (by rfl) (fun K hK => ?_)
  go_simp
  refine hK.out _ _ (by exact (heap_alloc_old W3 _ HGM.out).trans HRM.out) (fun hS => ?_)
  clear hK K
  refine' take_at 7 rfl (by kernel_rfl) (by kernel_rfl) (by kernel_rfl) (fun _ _ _ h => h) (by rfl) hS ?_ ?_ ?_
  rotate_left 2
  · intro W hSW; go_simp; try with_reducible rfl
  · simp only [List.set_cons_succ, List.set_cons_zero]; rfl
  refine wpAnyH_done (by kernel_rfl) ?_ _
  refine NoPanic.normal ?_
  clear hS
  (try simp only [Act.put])
  obtain ⟨W5, hW5⟩ : ∃ W5, (W3.alloc (.cells V 52)).drew = W5 := ⟨_, rfl⟩
  rw [hW5] at HA5 HB5
  (try rw [hW5])
  obtain ⟨g, hg⟩ : ∃ g, W3.heap.size = g := ⟨_, rfl⟩
  rw [hg] at HA5 HG5
  (try rw [hg])
  clear hW5 hg
  have hcn := HA5.out.cn
  by_cases hbig : n ≤ 1152921504606846976
  · have d1 : ¬ (1152921504606846976 : Int) < (n : Int) := by omega
    have HH := Lib.hid (HHE.out W5 g HA5.out (by omega))
    have HOKD : Hid (M = D.all (· == 0)) := Lib.hid (by rw [← HM.out]; simp [hbig])
    clear hbig
    go_wp2_with fail
    with_reducible refine HH.out.mono ?_
    rintro e w6 ⟨rfl, hw6⟩
    subst hw6
    clear HH HHE
    have HC5 := Lib.hid (HC2.out w6 HB5.out)
    have hdl := HDL.out
    go_wp2_with fail
    go_loop [38] (fun i => ∃ k : Nat, k ≤ D.length ∧ i = .int .i64 k ∧ Hid (∀ j, j < k → D.getD j 0 = 0)) (fun i => D.length - (intOf i).toNat)
    case atStart => exact ⟨0, Nat.zero_le _, rfl, Lib.hid (fun j hj => absurd hj (by omega))⟩
    case round =>
      obtain ⟨k, hk, rfl, HJ⟩ := hrel
      by_cases hlt : k < D.length
      · obtain ⟨x, hx⟩ : ∃ x, D.getD k 0 = x := ⟨_, rfl⟩
        have hc1 := HC5.out k hlt
        rw [hx] at hc1
        have Hx := Lib.hid hx
        clear hx
        by_cases hz : x = 0
        · have hb2 : ((x.toNat : Int) != 0) = false := by subst hz; rfl
          have Hz := Lib.hid hz
          clear hz
          go_wp2
          go_round
          case rel =>
            refine ⟨k + 1, by omega, by go_num, Lib.hid (fun j hj => ?_)⟩
            by_cases e : j = k
            · subst e; rw [Hx.out]; exact Hz.out
            · exact HJ.out j (by omega)
          case measure => simp [intOf]; omega
        · have hb2 : ((x.toNat : Int) != 0) = true := by
            simp
            intro h'
            exact hz (UInt8.toNat_inj.1 (by simpa using (by omega : x.toNat = 0)))
          have Hf : Hid (D.all (· == 0) = false) := Lib.hid (by
            rw [List.all_eq_false]
            exact ⟨D[k], List.getElem_mem hlt, by rw [← Hx.out] at hz; simpa [List.getD, List.getElem?_eq_getElem hlt] using hz⟩)
          clear hz
          go_wp2
          go_ret2
          exact HPN.out _ (HOKD.out.trans Hf.out) HB5.out
      · have Hf : Hid (D.all (· == 0) = true) := Lib.hid (by
          rw [List.all_eq_true]
          intro x hx
          obtain ⟨i, hi, rfl⟩ := List.getElem_of_mem hx
          have := HJ.out i (by omega)
          simpa [List.getD, List.getElem?_eq_getElem hi] using this)
        have hsb := fun u => slice_block_all g u
        have HB16 : Hid (Bs w6 A1 R) := Lib.hid (HB1.out.below HB5.out)
        have HMIN : Hid (128 = Nat.min R.length 128) := Lib.hid (by rw [HRL.out]; rfl)
        go_wp2_with (refine wpList_copy_block rfl (.tmp 48) (.tmp 49) rfl 0 128 128 A1 R (c - 72) rfl rfl HA5.out HB16.out rfl 128 HMIN.out ?_; intro w7 ha7 ho7; have HA7 := Lib.hid ha7; have HO7 := Lib.hid ho7; clear ha7 ho7)
        go_ret2
        refine HPY.out _ _ (HOKD.out.trans Hf.out) ⟨?_, _, HA7.out, ?_⟩ HG5.out (HB5.out.trans (HO7.out.below HB5.out.size (fun k hk e => by have := HG5.out; omega)))
        · show (R.take r).length = n % 128
          rw [List.length_take, HRL.out, HRR.out]; have := HRr.out; omega
        · show List.take (n % 128) _ = R.take r
          have e1 : R.take 128 = R := List.take_of_length_le (by rw [HRL.out]; omega)
          have e2 : K0.drop (0 + 128) = [] := List.drop_eq_nil_of_le (by rw [HK0.out]; omega)
          rw [HRR.out, List.take_zero, List.nil_append, e1, e2, List.append_nil]
  · have d1 : (1152921504606846976 : Int) < (n : Int) := by omega
    have HNO : Hid (M = false) := Lib.hid (by rw [← HM.out]; simp [hbig])
    clear hbig
    go_wp2_with fail
    go_ret2
    exact HPN.out _ HNO.out HB5.out

/-- bytes that are not 200 -/
theorem hloadNo_any (W0 : World) (A : Option Addr) (L c : Nat) (hL : L ≠ 200) (hl : L ≤ 100000) :
    Calls Try.prog 17 #[.slice A L c] W0 fun e w' => e = .returned (.tuple #[.pointer none, .bool false]) ∧ w' = W0 := by
  have h1 : ((L : Int) != 200) = true := by simp; omega
  go_enter Try.func17, Try.ntmps17
  go_wp2
  go_ret2
  first | exact ⟨rfl, rfl⟩ | exact ⟨rfl, trivial⟩
end Go.Proofs.Ytbkcglfdliicpaa

