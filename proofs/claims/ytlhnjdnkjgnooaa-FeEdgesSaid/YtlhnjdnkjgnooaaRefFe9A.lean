/- The contracts of the reference's prime, below, norm. Written by wip/tools/mk_norm9.py. -/
import Derived.Test.YtlhnjdnkjgnooaaTabI
import Derived.Test.YtlhnjdnkjgnooaaGbase
import Derived.StillTailTactics
import Derived.Laws.BitsLemmas
namespace Go.Proofs.Ytlhnjdnkjgnooaa
open Go.RowKit
set_option linter.unusedVariables false
set_option maxRecDepth 100000

theorem i64_and65535 (n : Int) : bits .and .i64 n 65535 = n % 65536 := by
  have h127 : (BitVec.ofInt 64 65535).toNat = 2 ^ 16 - 1 := by decide
  have key : (BitVec.ofInt 64 n &&& BitVec.ofInt 64 65535).toNat = (n % ((2 ^ 64 : Nat) : Int)).toNat % 2 ^ 16 := by
    rw [BitVec.toNat_and, BitVec.toNat_ofInt, h127, Nat.and_two_pow_sub_one_eq_mod]
  show IntKind.i64.wrap ((BitVec.ofInt 64 n &&& BitVec.ofInt 64 65535).toNat : Nat) = n % 65536
  rw [key, IntKind.wrap_i64]
  omega
theorem i64_and32767 (n : Int) : bits .and .i64 n 32767 = n % 32768 := by
  have h127 : (BitVec.ofInt 64 32767).toNat = 2 ^ 15 - 1 := by decide
  have key : (BitVec.ofInt 64 n &&& BitVec.ofInt 64 32767).toNat = (n % ((2 ^ 64 : Nat) : Int)).toNat % 2 ^ 15 := by
    rw [BitVec.toNat_and, BitVec.toNat_ofInt, h127, Nat.and_two_pow_sub_one_eq_mod]
  show IntKind.i64.wrap ((BitVec.ofInt 64 n &&& BitVec.ofInt 64 32767).toNat : Nat) = n % 32768
  rw [key, IntKind.wrap_i64]
  omega

/-- a row at g, another behind it -/
structure NormI (w wr : World) (g : Nat) (z0 T : Array Value) : Prop where
  t : wr.heap[g]? = some (.cells T 29 (0, 0))
  z : wr.heap[g + 1]? = some (.cells z0 29 (0, 0))
  below : Below g w wr
theorem NormI.lt {w wr : World} {g : Nat} {z0 T : Array Value} (h : NormI w wr g z0 T) : g + 1 < wr.heap.size := (Array.getElem?_eq_some_iff.1 h.z).1
theorem NormI.drew {w wr : World} {g : Nat} {z0 T : Array Value} (h : NormI w wr g z0 T) : NormI w wr.drew g z0 T := ⟨h.t, h.z, h.below.drew⟩
theorem NormI.cell {w wr : World} {g : Nat} {z0 T : Array Value} (h : NormI w wr g z0 T) (k : Nat) (v : Value) : NormI w (wr.setCell ⟨g, k, none⟩ v) g z0 (T.setIfInBounds k v) := by
  have e := setCell_eq_setRow wr g k _ _ _ v h.t
  exact ⟨by rw [e, setRow_heap _ _ _ _ _ _ h.t], by rw [e, setRow_other _ _ _ _ (by omega)]; exact h.z, h.below.setCell (p := ⟨g, k, none⟩) (Nat.le_refl _) _⟩
theorem NormI.call {w wr W : World} {g : Nat} {z0 T : Array Value} (h : NormI w wr g z0 T) (hb : Below wr.heap.size wr W) : NormI w W g z0 T := by
  have hl := h.lt
  exact ⟨by rw [hb.block _ (by omega)]; exact h.t, by rw [hb.block _ (by omega)]; exact h.z, h.below.trans (hb.mono (by omega))⟩
theorem NormI.row {w wr : World} {g : Nat} {z0 T : Array Value} (h : NormI w wr g z0 T) (o : Obj) (M : Array Value) : NormI w ((wr.alloc o).setRow wr.heap.size M) g z0 T := by
  have hl := h.lt
  refine ⟨?_, ?_, below_row (h.below.alloc (by omega) _) (by omega)⟩
  · rw [setRow_other _ _ _ _ (by omega), heap_alloc_old _ _ (by omega)]; exact h.t
  · rw [setRow_other _ _ _ _ (by omega), heap_alloc_old _ _ (by omega)]; exact h.z
theorem NormI.set {w wr : World} {g : Nat} {z0 T : Array Value} (h : NormI w wr g z0 T) (S : Array Value) : NormI w (wr.setRow (g + 1) S) g S T :=
  ⟨by rw [setRow_other _ _ _ _ (by omega)]; exact h.t, setRow_heap _ _ _ _ _ _ h.z, below_row h.below (by omega)⟩

theorem zero_fe (u : World) : (zeroValue 29).run Try.prog u = .ok (.agg (tabI (List.replicate 16 0))) u := zero_row 29 _ 16 (by kernel_rfl) u
theorem info_fe {l : List Int} (h : l.length = 16) : (Try.prog.info? 29).map (·.size) = some (tabI l).size := by rw [tabI_size, h]; kernel_rfl

/-- the row of p's digits, as it is built -/
def primeTo (k : Nat) : List Int := opTo (fun _ => 65535) (List.replicate 16 0) k
theorem primeTo_end : ((primeTo 16).set 0 65517).set 15 32767 = primeL := by decide
set_option maxHeartbeats 1600000 in
theorem rprime9_any (w : World) : Calls Try.prog 34 #[] w fun e w' => e = .returned (.agg (tabI primeL)) ∧ Below w.heap.size w w' := by
  have hz := fun u => zero_fe u
  obtain ⟨t0, ht0⟩ : ∃ t, tabI (List.replicate 16 0) = t := ⟨_, rfl⟩
  rw [ht0] at hz
  have s0 : (Try.prog.info? 29).map (·.size) = some t0.size := by rw [← ht0]; exact info_fe (by simp)
  have o0 : t0.all (·.oneCell') = true := by rw [← ht0]; exact tabI_one _
  have n0 : t0.size = 16 := by rw [← ht0, tabI_size]; simp
  have h2 : ((w.alloc (.cells t0 29)).alloc (.cells t0 29)).heap[w.heap.size + 1]? = some (.cells t0 29 (0, 0)) := heap_alloc2_new _ _ _
  have h0 : ((w.alloc (.cells t0 29)).alloc (.cells t0 29)).heap[w.heap.size]? = some (.cells t0 29 (0, 0)) := heap_alloc2_old _ _ _
  obtain ⟨W1, hW1⟩ : ∃ W, ((w.alloc (.cells t0 29)).alloc (.cells t0 29)).setRow (w.heap.size + 1) t0 = W := ⟨_, rfl⟩
  obtain ⟨g, hg⟩ : ∃ g, w.heap.size = g := ⟨_, rfl⟩
  have b1 : W1.heap[g + 1]? = some (.cells (tabI (primeTo 0)) 29 (0, 0)) := by rw [← hW1, ← hg, show primeTo 0 = List.replicate 16 0 from opTo_zero _ (by simp), ht0]; exact setRow_heap _ _ _ _ _ _ h2
  have b0 : W1.heap[g]? = some (.cells t0 29 (0, 0)) := by rw [← hW1, ← hg, setRow_other _ _ _ _ (by omega)]; exact h0
  have bb : Below g w W1 := by rw [← hW1, ← hg]; exact below_row (((Below.refl w.heap.size w).alloc (Nat.le_refl _) _).alloc (by simp) _) (by omega)
  have HB1 := Lib.hid b1
  have HB0 := Lib.hid b0
  have HBE := Lib.hid bb
  have HG := Lib.hid hg
  have HT := Lib.hid ht0
  have HW := Lib.hid hW1
  clear b1 b0 bb ht0 hW1 hg
  go_enter Try.func34, Try.ntmps34
  go_wp2_with (refine wpList_store_row rfl 29 (.tmp 1) (.tmp 3) rfl (w.heap.size + 1) t0 rfl rfl 29 t0 h2 s0 rfl o0 ?_)
  rw [HW.out, HG.out]
  clear h0 h2 HW
  go_loopw [2] (fun i wr => ∃ k : Nat, k ≤ 16 ∧ i = .int .i64 (k : Int) ∧ Hid (wr.heap[g]? = some (.cells t0 29 (0, 0))) ∧ Hid (wr.heap[g + 1]? = some (.cells (tabI (primeTo k)) 29 (0, 0))) ∧ Hid (Below g w wr)) (fun i _ => 16 - (intOf i).toNat)
  case atStart => exact ⟨0, by omega, rfl, HB0, HB1, HBE⟩
  case round =>
    clear HB0 HB1 HBE
    obtain ⟨k, hk, rfl, HB0, HB1, HBE⟩ := hrel
    by_cases hlt : k < 16
    · have hl : (primeTo k).length = 16 := opTo_len _ _ _
      have hck : wr.cell? ⟨g + 1, k, none⟩ = some (.int .i64 (gI (primeTo k) k)) := by rw [cell_of_row _ _ _ _ _ _ HB1.out, tabI_get _ _ (by omega)]
      have hfz : wr.frozen? ⟨g + 1, k, none⟩ = false := by have := HB1.out; simp [World.frozen?, this]
      have e := setCell_eq_setRow wr (g + 1) k _ _ _ (.int .i64 65535) HB1.out
      have n1 : Hid ((wr.setCell ⟨g + 1, k, none⟩ (.int .i64 65535)).heap[g]? = some (.cells t0 29 (0, 0))) := Lib.hid (by rw [e, setRow_other _ _ _ _ (by omega)]; exact HB0.out)
      have n2 : Hid ((wr.setCell ⟨g + 1, k, none⟩ (.int .i64 65535)).heap[g + 1]? = some (.cells (tabI (primeTo (k + 1))) 29 (0, 0))) := Lib.hid (by
        rw [e, setRow_heap _ _ _ _ _ _ HB1.out, tabI_set]
        unfold primeTo
        rw [opTo_set (fun _ => 65535) _ hlt])
      have n3 : Hid (Below g w (wr.setCell ⟨g + 1, k, none⟩ (.int .i64 65535))) := Lib.hid (HBE.out.setCell (p := ⟨g + 1, k, none⟩) (by show g ≤ g + 1; omega) _)
      generalize gI (primeTo k) k = old at *
      have p1 : 0 ≤ (k : Int) := by omega
      have p2 : (k : Int) < 16 := by omega
      clear e hl HB0 HB1 HBE
      go_wp2_with fail
      go_roundw
      case rel => exact ⟨k + 1, by omega, by go_num, n1, n2, n3⟩
      case measure => simp [intOf]; omega
    · obtain rfl : k = 16 := by omega
      have h1 := HB1.out
      have c0 : wr.cell? ⟨g + 1, 0, none⟩ = some (.int .i64 65535) := by rw [cell_of_row _ _ _ _ _ _ h1]; rfl
      have f0 : wr.frozen? ⟨g + 1, 0, none⟩ = false := by simp [World.frozen?, h1]
      have e1 := setCell_eq_setRow wr (g + 1) 0 _ _ _ (.int .i64 65517) h1
      have r1 : (wr.setCell ⟨g + 1, 0, none⟩ (.int .i64 65517)).heap[g + 1]? = some (.cells (tabI ((primeTo 16).set 0 65517)) 29 (0, 0)) := by rw [e1, setRow_heap _ _ _ _ _ _ h1, tabI_set]
      have c1 : (wr.setCell ⟨g + 1, 0, none⟩ (.int .i64 65517)).cell? ⟨g + 1, 15, none⟩ = some (.int .i64 65535) := by rw [cell_of_row _ _ _ _ _ _ r1]; rfl
      have f1 : (wr.setCell ⟨g + 1, 0, none⟩ (.int .i64 65517)).frozen? ⟨g + 1, 15, none⟩ = false := by simp [World.frozen?, r1]
      have e2 := setCell_eq_setRow _ (g + 1) 15 _ _ _ (.int .i64 32767) r1
      have r2 : ((wr.setCell ⟨g + 1, 0, none⟩ (.int .i64 65517)).setCell ⟨g + 1, 15, none⟩ (.int .i64 32767)).heap[g + 1]? = some (.cells (tabI primeL) 29 (0, 0)) := by rw [e2, setRow_heap _ _ _ _ _ _ r1, tabI_set, primeTo_end]
      have r0 : ((wr.setCell ⟨g + 1, 0, none⟩ (.int .i64 65517)).setCell ⟨g + 1, 15, none⟩ (.int .i64 32767)).heap[g]? = some (.cells t0 29 (0, 0)) := by rw [e2, setRow_other _ _ _ _ (by omega), e1, setRow_other _ _ _ _ (by omega)]; exact HB0.out
      have rb : Below g w ((wr.setCell ⟨g + 1, 0, none⟩ (.int .i64 65517)).setCell ⟨g + 1, 15, none⟩ (.int .i64 32767)) := (HBE.out.setCell (p := ⟨g + 1, 0, none⟩) (by show g ≤ g + 1; omega) _).setCell (p := ⟨g + 1, 15, none⟩) (by show g ≤ g + 1; omega) _
      have s1 : (Try.prog.info? 29).map (·.size) = some (tabI primeL).size := info_fe rfl
      have sz : t0.size = (tabI primeL).size := by rw [n0, tabI_size]; rfl
      have o1 := tabI_one primeL
      have HB := Lib.hid (below_row (cs := tabI primeL) rb (Nat.le_refl g))
      obtain ⟨t1, ht1⟩ : ∃ t, tabI primeL = t := ⟨_, rfl⟩
      rw [ht1] at r2 s1 sz o1 HB
      have HT1 := Lib.hid ht1
      clear e1 e2 r1 rb h1 ht1 HB0 HB1 HBE
      go_wp2_with (first
        | (refine wpList_load_row rfl 29 (.tmp 1) rfl (g + 1) rfl 29 t1 (0, 0) _ r2 Try.underlying29 rfl s1 ?_)
        | (refine wpList_store_row rfl 29 (.tmp 0) (.tmp 12) rfl g t1 rfl rfl 29 t0 r0 s1 sz o1 ?_))
      (try simp only [Exit.inBlock, Exit.then])
      refine bodyPost_ret (results_cell_row rfl _ _ g _ t1 _ _ rfl (setRow_heap _ _ _ _ _ _ r0) Try.underlying29 rfl s1) rfl ?_
      exact ⟨by rw [HT1.out], by rw [HG.out]; exact HB.out⟩

set_option maxHeartbeats 1600000 in
theorem rbelow9_any (a b : List Int) (ha : a.length = 16) (hb : b.length = 16) (pa : ∀ i, i < 16 → 0 ≤ gI a i ∧ gI a i < 65536) (pb : ∀ i, i < 16 → 0 ≤ gI b i ∧ gI b i < 65536) (w : World) :
    Calls Try.prog 38 #[.agg (tabI a), .agg (tabI b)] w fun e w' => e = .returned (.bool (decide (vL a < vL b))) ∧ Below w.heap.size w w' := by
  obtain ⟨Z, hZ⟩ : ∃ Z, decide (vL a < vL b) = Z := ⟨_, rfl⟩
  have HDIF : Hid (∀ k, k < 16 → (∀ j, k < j → j < 16 → gI a j = gI b j) → gI a k ≠ gI b k → decide (gI a k < gI b k) = Z) := Lib.hid (fun k h1 h2 h3 => by
    rw [← hZ]
    have := below_at ha hb pa pb k h1 h2 h3
    by_cases h : gI a k < gI b k
    · rw [decide_eq_true h, decide_eq_true (this.2 h)]
    · rw [decide_eq_false h, decide_eq_false (fun e => h (this.1 e))])
  have HSAM : Hid ((∀ j, j < 16 → gI a j = gI b j) → Z = false) := Lib.hid (fun h => by rw [← hZ, below_same ha hb h]; simp)
  rw [hZ]
  obtain ⟨RA, hRA⟩ : ∃ R, tabI a = R := ⟨_, rfl⟩
  obtain ⟨RB, hRB⟩ : ∃ R, tabI b = R := ⟨_, rfl⟩
  have h0 : ((w.alloc (.cells RA 29)).alloc (.cells RB 29)).heap[w.heap.size]? = some (.cells RA 29 (0, 0)) := heap_alloc2_old _ _ _
  have h1 : ((w.alloc (.cells RA 29)).alloc (.cells RB 29)).heap[w.heap.size + 1]? = some (.cells RB 29 (0, 0)) := heap_alloc2_new _ _ _
  have hbe : Below w.heap.size w ((w.alloc (.cells RA 29)).alloc (.cells RB 29)) := ((Below.refl w.heap.size w).alloc (Nat.le_refl _) _).alloc (by simp) _
  rw [hRA, hRB]
  have HAI : Hid (∀ W : World, W.heap[w.heap.size]? = some (.cells RA 29 (0, 0)) → ∀ j, j < 16 → W.cell? ⟨w.heap.size, j, none⟩ = some (.int .i64 (gI a j))) := Lib.hid fun W h j hj => by rw [cell_of_row _ _ _ _ _ _ h, ← hRA, tabI_get _ _ (by omega)]
  have HBI : Hid (∀ W : World, W.heap[w.heap.size + 1]? = some (.cells RB 29 (0, 0)) → ∀ j, j < 16 → W.cell? ⟨w.heap.size + 1, j, none⟩ = some (.int .i64 (gI b j))) := Lib.hid fun W h j hj => by rw [cell_of_row _ _ _ _ _ _ h, ← hRB, tabI_get _ _ (by omega)]
  obtain ⟨W1, hW1⟩ : ∃ W, (w.alloc (.cells RA 29)).alloc (.cells RB 29) = W := ⟨_, rfl⟩
  have HW1 := Lib.hid hW1
  rw [hW1] at h0 h1 hbe
  have H0 := Lib.hid h0
  have H1 := Lib.hid h1
  have HBE := Lib.hid hbe
  clear ha hb pa pb hZ hRA hRB h0 h1 hbe hW1
  go_enter Try.func38, Try.ntmps38
  go_wp2_with fail
  rw [HW1.out]
  clear HW1
  go_loopw [5] (fun i wr => ∃ k : Nat, k ≤ 16 ∧ i = .int .i64 ((k : Int) - 1) ∧ Hid (∀ j, k ≤ j → j < 16 → gI a j = gI b j) ∧ Hid (wr.heap[w.heap.size]? = some (.cells RA 29 (0, 0))) ∧ Hid (wr.heap[w.heap.size + 1]? = some (.cells RB 29 (0, 0))) ∧ Hid (Below w.heap.size w wr)) (fun i _ => (intOf i + 1).toNat)
  case atStart => exact ⟨16, by omega, by go_num, Lib.hid (fun j h1 h2 => by omega), H0, H1, HBE⟩
  case round =>
    clear H0 H1 HBE
    obtain ⟨k, hk, rfl, HS, H0, H1, HBE⟩ := hrel
    match k, hk, HS with
    | 0, _, HS =>
      have HZ := Lib.hid (HSAM.out (fun j hj => HS.out j (Nat.zero_le _) hj))
      have e0 : ((0 : Nat) : Int) - 1 = -1 := by omega
      rw [e0]
      clear HDIF HSAM HAI HBI HS
      go_wp2_with fail
      go_ret
      exact ⟨by rw [HZ.out]; rfl, HBE.out⟩
    | j + 1, hk, HS =>
      have ej : ((j + 1 : Nat) : Int) - 1 = (j : Int) := by omega
      rw [ej]
      have ca := HAI.out wr H0.out j (by omega)
      have cb := HBI.out wr H1.out j (by omega)
      have p1 : 0 ≤ (j : Int) := by omega
      have p2 : (j : Int) < 16 := by omega
      have H0' : Hid (wr.drew.heap[w.heap.size]? = some (.cells RA 29 (0, 0))) := Lib.hid H0.out
      have H1' : Hid (wr.drew.heap[w.heap.size + 1]? = some (.cells RB 29 (0, 0))) := Lib.hid H1.out
      have HBE' : Hid (Below w.heap.size w wr.drew) := Lib.hid HBE.out.drew
      by_cases hd : gI a j = gI b j
      · have HS2 : Hid (∀ i, j ≤ i → i < 16 → gI a i = gI b i) := Lib.hid fun i h1 h2 => by
          by_cases e : i = j
          · rw [e]; exact hd
          · exact HS.out i (by omega) h2
        rw [hd] at ca
        generalize gI b j = y at *
        clear HDIF HSAM HAI HBI HS hd H0 H1 HBE
        go_wp2_with fail
        refine wp_region_still_tail 6 (by kernel_rfl) (by kernel_rfl) ?_
        simp only [List.take_succ_cons, List.take_zero, List.drop_succ_cons, List.drop_zero]
        iterate 6 still_step
        refine wpStill_nil ?_
        go_wp2_with fail
        go_roundw
        case rel => exact ⟨j, by omega, by go_num, HS2, H0', H1', HBE'⟩
        case measure => simp [intOf]
      · have HZ := Lib.hid (HDIF.out j (by omega) (fun i h1 h2 => HS.out i (by omega) h2) hd)
        have hne : (gI a j != gI b j) = true := by simpa using hd
        have hd' := hd
        generalize gI a j = x at *
        generalize gI b j = y at *
        obtain ⟨wq, hwq⟩ : ∃ q, wr.drew = q := ⟨_, rfl⟩
        have ca2 : wq.cell? ⟨w.heap.size, j, none⟩ = some (.int .i64 x) := by rw [← hwq]; exact ca
        have cb2 : wq.cell? ⟨w.heap.size + 1, j, none⟩ = some (.int .i64 y) := by rw [← hwq]; exact cb
        have HB2 : Hid (Below w.heap.size w wq.drew) := Lib.hid (by rw [← hwq]; exact HBE.out.drew.drew)
        have HWQ := Lib.hid hwq
        clear HDIF HSAM HAI HBI HS H0 H1 HBE H0' H1' HBE' hwq
        go_wp2_with fail
        refine wp_region_still_tail 6 (by kernel_rfl) (by kernel_rfl) ?_
        simp only [List.take_succ_cons, List.take_zero, List.drop_succ_cons, List.drop_zero]
        iterate 6 still_step
        refine wpStill_nil ?_
        go_wp2_with fail
        rw [HWQ.out]
        refine wp_region_still_tail 7 (by kernel_rfl) (by kernel_rfl) ?_
        simp only [List.take_succ_cons, List.take_zero, List.drop_succ_cons, List.drop_zero]
        iterate 7 still_step
        refine wpStill_nil ?_
        go_wp2_with fail
        go_ret
        exact ⟨by rw [← HZ.out]; rfl, HB2.out⟩
end Go.Proofs.Ytlhnjdnkjgnooaa

