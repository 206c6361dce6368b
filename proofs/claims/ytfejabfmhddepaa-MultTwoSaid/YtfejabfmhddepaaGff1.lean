/- The contracts of the reference's prime, below, norm. Written by wip/tools/mk_norm9.py. The contract of the reference's norm. Written by wip/tools/mk_norm9.py. The contracts of the reference's norm (by its number), Add, Sub, Neg, Odd. -/
import Derived.Test.YtfejabfmhddepaaGfb
import Derived.Test.YtfejabfmhddepaaGbase
import Derived.StillTailTactics
import Derived.Laws.BitsLemmas
namespace Go.Proofs.Ytfejabfmhddepaa
open Go.RowKit
set_option linter.unusedVariables false
set_option maxRecDepth 100000

theorem i64_and65535 (n : Int) : bits .and .i64 n 65535 = n % 65536 := by
  have h127 : (BitVec.ofInt 64 65535).toNat = 2 ^ 16 - 1 := by decide
  have key : (BitVec.ofInt 64 n &&& BitVec.ofInt 64 65535).toNat = (n % ((2 ^ 64 : Nat) : Int)).toNat % 2 ^ 16 := by
    rw [BitVec.toNat_and, BitVec.toNat_ofInt, h127, Nat.and_two_pow_sub_one_eq_mod]
  show IntKind.i64.wrap ((BitVec.ofInt 64 n &&& BitVec.ofInt 64 65535).toNat : Nat) = n % 65536
  rw [key, IntKind.wrap_i64]
  omega
theorem i64_and32767 (n : Int) : bits .and .i64 n 32767 = n % 32768 := by
  have h127 : (BitVec.ofInt 64 32767).toNat = 2 ^ 15 - 1 := by decide
  have key : (BitVec.ofInt 64 n &&& BitVec.ofInt 64 32767).toNat = (n % ((2 ^ 64 : Nat) : Int)).toNat % 2 ^ 15 := by
    rw [BitVec.toNat_and, BitVec.toNat_ofInt, h127, Nat.and_two_pow_sub_one_eq_mod]
  show IntKind.i64.wrap ((BitVec.ofInt 64 n &&& BitVec.ofInt 64 32767).toNat : Nat) = n % 32768
  rw [key, IntKind.wrap_i64]
  omega

/-- a row at g, another behind it -/
structure NormI (w wr : World) (g : Nat) (z0 T : Array Value) : Prop where
  t : wr.heap[g]? = some (.cells T 31 (0, 0))
  z : wr.heap[g + 1]? = some (.cells z0 31 (0, 0))
  below : Below g w wr
theorem NormI.lt {w wr : World} {g : Nat} {z0 T : Array Value} (h : NormI w wr g z0 T) : g + 1 < wr.heap.size := (Array.getElem?_eq_some_iff.1 h.z).1
theorem NormI.drew {w wr : World} {g : Nat} {z0 T : Array Value} (h : NormI w wr g z0 T) : NormI w wr.drew g z0 T := ⟨h.t, h.z, h.below.drew⟩
theorem NormI.cell {w wr : World} {g : Nat} {z0 T : Array Value} (h : NormI w wr g z0 T) (k : Nat) (v : Value) : NormI w (wr.setCell ⟨g, k, none⟩ v) g z0 (T.setIfInBounds k v) := by
  have e := setCell_eq_setRow wr g k _ _ _ v h.t
  exact ⟨by rw [e, setRow_heap _ _ _ _ _ _ h.t], by rw [e, setRow_other _ _ _ _ (by omega)]; exact h.z, h.below.setCell (p := ⟨g, k, none⟩) (Nat.le_refl _) _⟩
theorem NormI.call {w wr W : World} {g : Nat} {z0 T : Array Value} (h : NormI w wr g z0 T) (hb : Below wr.heap.size wr W) : NormI w W g z0 T := by
  have hl := h.lt
  exact ⟨by rw [hb.block _ (by omega)]; exact h.t, by rw [hb.block _ (by omega)]; exact h.z, h.below.trans (hb.mono (by omega))⟩
theorem NormI.row {w wr : World} {g : Nat} {z0 T : Array Value} (h : NormI w wr g z0 T) (o : Obj) (M : Array Value) : NormI w ((wr.alloc o).setRow wr.heap.size M) g z0 T := by
  have hl := h.lt
  refine ⟨?_, ?_, below_row (h.below.alloc (by omega) _) (by omega)⟩
  · rw [setRow_other _ _ _ _ (by omega), heap_alloc_old _ _ (by omega)]; exact h.t
  · rw [setRow_other _ _ _ _ (by omega), heap_alloc_old _ _ (by omega)]; exact h.z
theorem NormI.set {w wr : World} {g : Nat} {z0 T : Array Value} (h : NormI w wr g z0 T) (S : Array Value) : NormI w (wr.setRow (g + 1) S) g S T :=
  ⟨by rw [setRow_other _ _ _ _ (by omega)]; exact h.t, setRow_heap _ _ _ _ _ _ h.z, below_row h.below (by omega)⟩

theorem zero_fe (u : World) : (zeroValue 31).run Try.prog u = .ok (.agg (tabI (List.replicate 16 0))) u := zero_row 31 _ 16 (by kernel_rfl) u
theorem info_fe {l : List Int} (h : l.length = 16) : (Try.prog.info? 31).map (·.size) = some (tabI l).size := by rw [tabI_size, h]; kernel_rfl

/-- the row of p's digits, as it is built -/
def primeTo (k : Nat) : List Int := opTo (fun _ => 65535) (List.replicate 16 0) k
theorem primeTo_end : ((primeTo 16).set 0 65517).set 15 32767 = primeL := by decide
set_option maxHeartbeats 1600000 in
theorem rprime9_any (w : World) : Calls Try.prog 87 #[] w fun e w' => e = .returned (.agg (tabI primeL)) ∧ Below w.heap.size w w' := by
  have hz := fun u => zero_fe u
  obtain ⟨t0, ht0⟩ : ∃ t, tabI (List.replicate 16 0) = t := ⟨_, rfl⟩
  rw [ht0] at hz
  have s0 : (Try.prog.info? 31).map (·.size) = some t0.size := by rw [← ht0]; exact info_fe (by simp)
  have o0 : t0.all (·.oneCell') = true := by rw [← ht0]; exact tabI_one _
  have n0 : t0.size = 16 := by rw [← ht0, tabI_size]; simp
  have h2 : ((w.alloc (.cells t0 31)).alloc (.cells t0 31)).heap[w.heap.size + 1]? = some (.cells t0 31 (0, 0)) := heap_alloc2_new _ _ _
  have h0 : ((w.alloc (.cells t0 31)).alloc (.cells t0 31)).heap[w.heap.size]? = some (.cells t0 31 (0, 0)) := heap_alloc2_old _ _ _
  obtain ⟨W1, hW1⟩ : ∃ W, ((w.alloc (.cells t0 31)).alloc (.cells t0 31)).setRow (w.heap.size + 1) t0 = W := ⟨_, rfl⟩
  obtain ⟨g, hg⟩ : ∃ g, w.heap.size = g := ⟨_, rfl⟩
  have b1 : W1.heap[g + 1]? = some (.cells (tabI (primeTo 0)) 31 (0, 0)) := by rw [← hW1, ← hg, show primeTo 0 = List.replicate 16 0 from opTo_zero _ (by simp), ht0]; exact setRow_heap _ _ _ _ _ _ h2
  have b0 : W1.heap[g]? = some (.cells t0 31 (0, 0)) := by rw [← hW1, ← hg, setRow_other _ _ _ _ (by omega)]; exact h0
  have bb : Below g w W1 := by rw [← hW1, ← hg]; exact below_row (((Below.refl w.heap.size w).alloc (Nat.le_refl _) _).alloc (by simp) _) (by omega)
  have HB1 := Lib.hid b1
  have HB0 := Lib.hid b0
  have HBE := Lib.hid bb
  have HG := Lib.hid hg
  have HT := Lib.hid ht0
  have HW := Lib.hid hW1
  clear b1 b0 bb ht0 hW1 hg
  go_enter Try.func87, Try.ntmps87
  go_wp2_with (refine wpList_store_row rfl 31 (.tmp 1) (.tmp 3) rfl (w.heap.size + 1) t0 rfl rfl 31 t0 h2 s0 rfl o0 ?_)
  rw [HW.out, HG.out]
  clear h0 h2 HW
  go_loopw [2] (fun i wr => ∃ k : Nat, k ≤ 16 ∧ i = .int .i64 (k : Int) ∧ Hid (wr.heap[g]? = some (.cells t0 31 (0, 0))) ∧ Hid (wr.heap[g + 1]? = some (.cells (tabI (primeTo k)) 31 (0, 0))) ∧ Hid (Below g w wr)) (fun i _ => 16 - (intOf i).toNat)
  case atStart => exact ⟨0, by omega, rfl, HB0, HB1, HBE⟩
  case round =>
    clear HB0 HB1 HBE
    obtain ⟨k, hk, rfl, HB0, HB1, HBE⟩ := hrel
    by_cases hlt : k < 16
    · have hl : (primeTo k).length = 16 := opTo_len _ _ _
      have hck : wr.cell? ⟨g + 1, k, none⟩ = some (.int .i64 (gI (primeTo k) k)) := by rw [cell_of_row _ _ _ _ _ _ HB1.out, tabI_get _ _ (by omega)]
      have hfz : wr.frozen? ⟨g + 1, k, none⟩ = false := by have := HB1.out; simp [World.frozen?, this]
      have e := setCell_eq_setRow wr (g + 1) k _ _ _ (.int .i64 65535) HB1.out
      have n1 : Hid ((wr.setCell ⟨g + 1, k, none⟩ (.int .i64 65535)).heap[g]? = some (.cells t0 31 (0, 0))) := Lib.hid (by rw [e, setRow_other _ _ _ _ (by omega)]; exact HB0.out)
      have n2 : Hid ((wr.setCell ⟨g + 1, k, none⟩ (.int .i64 65535)).heap[g + 1]? = some (.cells (tabI (primeTo (k + 1))) 31 (0, 0))) := Lib.hid (by
        rw [e, setRow_heap _ _ _ _ _ _ HB1.out, tabI_set]
        unfold primeTo
        rw [opTo_set (fun _ => 65535) _ hlt])
      have n3 : Hid (Below g w (wr.setCell ⟨g + 1, k, none⟩ (.int .i64 65535))) := Lib.hid (HBE.out.setCell (p := ⟨g + 1, k, none⟩) (by show g ≤ g + 1; omega) _)
      generalize gI (primeTo k) k = old at *
      have p1 : 0 ≤ (k : Int) := by omega
      have p2 : (k : Int) < 16 := by omega
      clear e hl HB0 HB1 HBE
      go_wp2_with fail
      go_roundw
      case rel => exact ⟨k + 1, by omega, by go_num, n1, n2, n3⟩
      case measure => simp [intOf]; omega
    · obtain rfl : k = 16 := by omega
      have h1 := HB1.out
      have c0 : wr.cell? ⟨g + 1, 0, none⟩ = some (.int .i64 65535) := by rw [cell_of_row _ _ _ _ _ _ h1]; rfl
      have f0 : wr.frozen? ⟨g + 1, 0, none⟩ = false := by simp [World.frozen?, h1]
      have e1 := setCell_eq_setRow wr (g + 1) 0 _ _ _ (.int .i64 65517) h1
      have r1 : (wr.setCell ⟨g + 1, 0, none⟩ (.int .i64 65517)).heap[g + 1]? = some (.cells (tabI ((primeTo 16).set 0 65517)) 31 (0, 0)) := by rw [e1, setRow_heap _ _ _ _ _ _ h1, tabI_set]
      have c1 : (wr.setCell ⟨g + 1, 0, none⟩ (.int .i64 65517)).cell? ⟨g + 1, 15, none⟩ = some (.int .i64 65535) := by rw [cell_of_row _ _ _ _ _ _ r1]; rfl
      have f1 : (wr.setCell ⟨g + 1, 0, none⟩ (.int .i64 65517)).frozen? ⟨g + 1, 15, none⟩ = false := by simp [World.frozen?, r1]
      have e2 := setCell_eq_setRow _ (g + 1) 15 _ _ _ (.int .i64 32767) r1
      have r2 : ((wr.setCell ⟨g + 1, 0, none⟩ (.int .i64 65517)).setCell ⟨g + 1, 15, none⟩ (.int .i64 32767)).heap[g + 1]? = some (.cells (tabI primeL) 31 (0, 0)) := by rw [e2, setRow_heap _ _ _ _ _ _ r1, tabI_set, primeTo_end]
      have r0 : ((wr.setCell ⟨g + 1, 0, none⟩ (.int .i64 65517)).setCell ⟨g + 1, 15, none⟩ (.int .i64 32767)).heap[g]? = some (.cells t0 31 (0, 0)) := by rw [e2, setRow_other _ _ _ _ (by omega), e1, setRow_other _ _ _ _ (by omega)]; exact HB0.out
      have rb : Below g w ((wr.setCell ⟨g + 1, 0, none⟩ (.int .i64 65517)).setCell ⟨g + 1, 15, none⟩ (.int .i64 32767)) := (HBE.out.setCell (p := ⟨g + 1, 0, none⟩) (by show g ≤ g + 1; omega) _).setCell (p := ⟨g + 1, 15, none⟩) (by show g ≤ g + 1; omega) _
      have s1 : (Try.prog.info? 31).map (·.size) = some (tabI primeL).size := info_fe rfl
      have sz : t0.size = (tabI primeL).size := by rw [n0, tabI_size]; rfl
      have o1 := tabI_one primeL
      have HB := Lib.hid (below_row (cs := tabI primeL) rb (Nat.le_refl g))
      obtain ⟨t1, ht1⟩ : ∃ t, tabI primeL = t := ⟨_, rfl⟩
      rw [ht1] at r2 s1 sz o1 HB
      have HT1 := Lib.hid ht1
      clear e1 e2 r1 rb h1 ht1 HB0 HB1 HBE
      go_wp2_with (first
        | (refine wpList_load_row rfl 31 (.tmp 1) rfl (g + 1) rfl 31 t1 (0, 0) _ r2 Try.underlying31 rfl s1 ?_)
        | (refine wpList_store_row rfl 31 (.tmp 0) (.tmp 12) rfl g t1 rfl rfl 31 t0 r0 s1 sz o1 ?_))
      (try simp only [Exit.inBlock, Exit.then])
      refine bodyPost_ret (results_cell_row rfl _ _ g _ t1 _ _ rfl (setRow_heap _ _ _ _ _ _ r0) Try.underlying31 rfl s1) rfl ?_
      exact ⟨by rw [HT1.out], by rw [HG.out]; exact HB.out⟩

set_option maxHeartbeats 1600000 in
theorem rbelow9_any (a b : List Int) (ha : a.length = 16) (hb : b.length = 16) (pa : ∀ i, i < 16 → 0 ≤ gI a i ∧ gI a i < 65536) (pb : ∀ i, i < 16 → 0 ≤ gI b i ∧ gI b i < 65536) (w : World) :
    Calls Try.prog 86 #[.agg (tabI a), .agg (tabI b)] w fun e w' => e = .returned (.bool (decide (vL a < vL b))) ∧ Below w.heap.size w w' := by
  obtain ⟨Z, hZ⟩ : ∃ Z, decide (vL a < vL b) = Z := ⟨_, rfl⟩
  have HDIF : Hid (∀ k, k < 16 → (∀ j, k < j → j < 16 → gI a j = gI b j) → gI a k ≠ gI b k → decide (gI a k < gI b k) = Z) := Lib.hid (fun k h1 h2 h3 => by
    rw [← hZ]
    have := below_at ha hb pa pb k h1 h2 h3
    by_cases h : gI a k < gI b k
    · rw [decide_eq_true h, decide_eq_true (this.2 h)]
    · rw [decide_eq_false h, decide_eq_false (fun e => h (this.1 e))])
  have HSAM : Hid ((∀ j, j < 16 → gI a j = gI b j) → Z = false) := Lib.hid (fun h => by rw [← hZ, below_same ha hb h]; simp)
  rw [hZ]
  obtain ⟨RA, hRA⟩ : ∃ R, tabI a = R := ⟨_, rfl⟩
  obtain ⟨RB, hRB⟩ : ∃ R, tabI b = R := ⟨_, rfl⟩
  have h0 : ((w.alloc (.cells RA 31)).alloc (.cells RB 31)).heap[w.heap.size]? = some (.cells RA 31 (0, 0)) := heap_alloc2_old _ _ _
  have h1 : ((w.alloc (.cells RA 31)).alloc (.cells RB 31)).heap[w.heap.size + 1]? = some (.cells RB 31 (0, 0)) := heap_alloc2_new _ _ _
  have hbe : Below w.heap.size w ((w.alloc (.cells RA 31)).alloc (.cells RB 31)) := ((Below.refl w.heap.size w).alloc (Nat.le_refl _) _).alloc (by simp) _
  rw [hRA, hRB]
  have HAI : Hid (∀ W : World, W.heap[w.heap.size]? = some (.cells RA 31 (0, 0)) → ∀ j, j < 16 → W.cell? ⟨w.heap.size, j, none⟩ = some (.int .i64 (gI a j))) := Lib.hid fun W h j hj => by rw [cell_of_row _ _ _ _ _ _ h, ← hRA, tabI_get _ _ (by omega)]
  have HBI : Hid (∀ W : World, W.heap[w.heap.size + 1]? = some (.cells RB 31 (0, 0)) → ∀ j, j < 16 → W.cell? ⟨w.heap.size + 1, j, none⟩ = some (.int .i64 (gI b j))) := Lib.hid fun W h j hj => by rw [cell_of_row _ _ _ _ _ _ h, ← hRB, tabI_get _ _ (by omega)]
  obtain ⟨W1, hW1⟩ : ∃ W, (w.alloc (.cells RA 31)).alloc (.cells RB 31) = W := ⟨_, rfl⟩
  have HW1 := Lib.hid hW1
  rw [hW1] at h0 h1 hbe
  have H0 := Lib.hid h0
  have H1 := Lib.hid h1
  have HBE := Lib.hid hbe
  clear ha hb pa pb hZ hRA hRB h0 h1 hbe hW1
  go_enter Try.func86, Try.ntmps86
  go_wp2_with fail
  rw [HW1.out]
  clear HW1
  go_loopw [5] (fun i wr => ∃ k : Nat, k ≤ 16 ∧ i = .int .i64 ((k : Int) - 1) ∧ Hid (∀ j, k ≤ j → j < 16 → gI a j = gI b j) ∧ Hid (wr.heap[w.heap.size]? = some (.cells RA 31 (0, 0))) ∧ Hid (wr.heap[w.heap.size + 1]? = some (.cells RB 31 (0, 0))) ∧ Hid (Below w.heap.size w wr)) (fun i _ => (intOf i + 1).toNat)
  case atStart => exact ⟨16, by omega, by go_num, Lib.hid (fun j h1 h2 => by omega), H0, H1, HBE⟩
  case round =>
    clear H0 H1 HBE
    obtain ⟨k, hk, rfl, HS, H0, H1, HBE⟩ := hrel
    match k, hk, HS with
    | 0, _, HS =>
      have HZ := Lib.hid (HSAM.out (fun j hj => HS.out j (Nat.zero_le _) hj))
      have e0 : ((0 : Nat) : Int) - 1 = -1 := by omega
      rw [e0]
      clear HDIF HSAM HAI HBI HS
      go_wp2_with fail
      go_ret
      exact ⟨by rw [HZ.out]; rfl, HBE.out⟩
    | j + 1, hk, HS =>
      have ej : ((j + 1 : Nat) : Int) - 1 = (j : Int) := by omega
      rw [ej]
      have ca := HAI.out wr H0.out j (by omega)
      have cb := HBI.out wr H1.out j (by omega)
      have p1 : 0 ≤ (j : Int) := by omega
      have p2 : (j : Int) < 16 := by omega
      have H0' : Hid (wr.drew.heap[w.heap.size]? = some (.cells RA 31 (0, 0))) := Lib.hid H0.out
      have H1' : Hid (wr.drew.heap[w.heap.size + 1]? = some (.cells RB 31 (0, 0))) := Lib.hid H1.out
      have HBE' : Hid (Below w.heap.size w wr.drew) := Lib.hid HBE.out.drew
      by_cases hd : gI a j = gI b j
      · have HS2 : Hid (∀ i, j ≤ i → i < 16 → gI a i = gI b i) := Lib.hid fun i h1 h2 => by
          by_cases e : i = j
          · rw [e]; exact hd
          · exact HS.out i (by omega) h2
        rw [hd] at ca
        generalize gI b j = y at *
        clear HDIF HSAM HAI HBI HS hd H0 H1 HBE
        go_wp2_with fail
        refine wp_region_still_tail 6 (by kernel_rfl) (by kernel_rfl) ?_
        simp only [List.take_succ_cons, List.take_zero, List.drop_succ_cons, List.drop_zero]
        iterate 6 still_step
        refine wpStill_nil ?_
        go_wp2_with fail
        go_roundw
        case rel => exact ⟨j, by omega, by go_num, HS2, H0', H1', HBE'⟩
        case measure => simp [intOf]
      · have HZ := Lib.hid (HDIF.out j (by omega) (fun i h1 h2 => HS.out i (by omega) h2) hd)
        have hne : (gI a j != gI b j) = true := by simpa using hd
        have hd' := hd
        generalize gI a j = x at *
        generalize gI b j = y at *
        obtain ⟨wq, hwq⟩ : ∃ q, wr.drew = q := ⟨_, rfl⟩
        have ca2 : wq.cell? ⟨w.heap.size, j, none⟩ = some (.int .i64 x) := by rw [← hwq]; exact ca
        have cb2 : wq.cell? ⟨w.heap.size + 1, j, none⟩ = some (.int .i64 y) := by rw [← hwq]; exact cb
        have HB2 : Hid (Below w.heap.size w wq.drew) := Lib.hid (by rw [← hwq]; exact HBE.out.drew.drew)
        have HWQ := Lib.hid hwq
        clear HDIF HSAM HAI HBI HS H0 H1 HBE H0' H1' HBE' hwq
        go_wp2_with fail
        refine wp_region_still_tail 6 (by kernel_rfl) (by kernel_rfl) ?_
        simp only [List.take_succ_cons, List.take_zero, List.drop_succ_cons, List.drop_zero]
        iterate 6 still_step
        refine wpStill_nil ?_
        go_wp2_with fail
        rw [HWQ.out]
        refine wp_region_still_tail 7 (by kernel_rfl) (by kernel_rfl) ?_
        simp only [List.take_succ_cons, List.take_zero, List.drop_succ_cons, List.drop_zero]
        iterate 7 still_step
        refine wpStill_nil ?_
        go_wp2_with fail
        go_ret
        exact ⟨by rw [← HZ.out]; rfl, HB2.out⟩
end Go.Proofs.Ytfejabfmhddepaa

namespace Go.Proofs.Ytfejabfmhddepaa
open Go.RowKit
set_option linter.unusedVariables false
set_option maxRecDepth 100000

set_option maxHeartbeats 6400000 in
theorem rnormL_any (l : List Int) (hl : l.length = 16) (hb : Bd 70368744177664 l) (hp : ∀ i, i < 16 → 0 ≤ gI (fin4 l) i ∧ gI (fin4 l) i < 65536) (w : World) :
    Calls Try.prog 70 #[.agg (tabI l)] w fun e w' => e = .returned (.agg (tabI (normL l))) ∧ Below w.heap.size w w' := by
  have hz := fun u => zero_fe u
  obtain ⟨z0, hz0e⟩ : ∃ t, tabI (List.replicate 16 0) = t := ⟨_, rfl⟩
  rw [hz0e] at hz
  have HZL : Hid (z0.size = 16) := Lib.hid (by rw [← hz0e, tabI_size]; simp)
  have HPR : Hid (∀ W : World, Calls Try.prog 87 #[] W fun e w' => e = .returned (.agg (tabI primeL)) ∧ Below W.heap.size W w') := Lib.hid rprime9_any
  have HOK : Hid (∀ k, (passN l k).length = 16 ∧ Bd 70368744177664 (passN l k)) := Lib.hid (passN_ok rfl hb hl)
  have HPF := Lib.hid hp
  obtain ⟨RL, hRL⟩ : ∃ R, tabI l = R := ⟨_, rfl⟩
  have HI : Hid (NormI w ((w.alloc (.cells RL 31)).alloc (.cells z0 31)) w.heap.size z0 (tabI (passN l 0))) := Lib.hid (by
    rw [show passN l 0 = l from rfl, hRL]
    exact ⟨heap_alloc2_old _ _ _, heap_alloc2_new _ _ _, ((Below.refl w.heap.size w).alloc (Nat.le_refl _) _).alloc (by simp) _⟩)
  rw [hRL]
  clear hz0e hb hl hp hRL
  go_enter Try.func70, Try.ntmps70
  go_wp2_with fail
  obtain ⟨W1, hW1⟩ : ∃ W, (w.alloc (.cells RL 31)).alloc (.cells z0 31) = W := ⟨_, rfl⟩
  obtain ⟨g, hg⟩ : ∃ g, w.heap.size = g := ⟨_, rfl⟩
  rw [hW1, hg] at HI
  rw [hW1, hg]
  have HG := Lib.hid hg
  clear hW1 hg
  go_loopw [3] (fun i wr => ∃ kk : Nat, kk ≤ 4 ∧ i = .int .i64 (kk : Int) ∧ Hid (NormI w wr g z0 (tabI (passN l kk)))) (fun i _ => 4 - (intOf i).toNat)
  case atStart => exact ⟨0, by omega, rfl, HI⟩
  case round =>
    clear HI
    obtain ⟨kk, hkk, rfl, HI⟩ := hrel
    by_cases hltk : kk < 4
    · obtain ⟨L, hL⟩ : ∃ L, passN l kk = L := ⟨_, rfl⟩
      have hok := HOK.out kk
      rw [hL] at hok HI
      have HLL := Lib.hid hok.1
      have HLB := Lib.hid hok.2
      have HLE := Lib.hid hL
      have dk : decide ((kk : Int) < 4) = true := decide_eq_true (by omega)
      clear hok hL
      go_wp2_with fail
      go_loopw [4] (fun i wr => ∃ k : Nat, k ≤ 15 ∧ i = .int .i64 (k : Int) ∧ Hid (NormI w wr g z0 (tabI (carryTo L k)))) (fun i _ => 15 - (intOf i).toNat)
      case atStart => exact ⟨0, by omega, rfl, HI⟩
      case round =>
        clear HI
        obtain ⟨k, hk, rfl, HI⟩ := hrel
        by_cases hlt : k < 15
        · have hml : (carryTo L k).length = 16 := by rw [carryTo_len, HLL.out]
          have hst := carry_st (l := L) (B := 70368744177664) (by omega) HLB.out k (by rw [HLL.out]; omega)
          obtain ⟨m, hm⟩ : ∃ m, carryTo L k = m := ⟨_, rfl⟩
          obtain ⟨m2, hm2⟩ : ∃ m2, m.set (k + 1) (gI m (k + 1) + gI m k / 65536) = m2 := ⟨_, rfl⟩
          have hnx : carryTo L (k + 1) = m2.set k (gI m k % 65536) := by rw [carryTo, hm, ← hm2]; rfl
          have hg2 : gI m2 k = gI m k := by rw [← hm2, gI_set _ _ _ _ (by rw [← hm, hml]; omega), if_neg (by omega)]
          have hxb := hst.at_
          have hyb : -70368744177664 ≤ gI m (k + 1) ∧ gI m (k + 1) ≤ 70368744177664 := by
            have h1 := hst.high (k + 1) (by omega)
            rw [hm] at h1
            rw [h1]
            exact HLB.out (k + 1)
          rw [hm] at hml hxb HI
          have HNX := Lib.hid hnx
          have hl2 : m2.length = 16 := by rw [← hm2, List.length_set]; exact hml
          have cx : wr.cell? ⟨g, k, none⟩ = some (.int .i64 (gI m k)) := by rw [cell_of_row _ _ _ _ _ _ HI.out.t, tabI_get _ _ (by omega)]
          have cy : wr.cell? ⟨g, k + 1, none⟩ = some (.int .i64 (gI m (k + 1))) := by rw [cell_of_row _ _ _ _ _ _ HI.out.t, tabI_get _ _ (by omega)]
          have fx : wr.frozen? ⟨g, k + 1, none⟩ = false := by have := HI.out.t; simp [World.frozen?, this]
          obtain ⟨x, hx⟩ : ∃ x, gI m k = x := ⟨_, rfl⟩
          obtain ⟨y, hy⟩ : ∃ y, gI m (k + 1) = y := ⟨_, rfl⟩
          obtain ⟨q, hq⟩ : ∃ q, x / 65536 = q := ⟨_, rfl⟩
          obtain ⟨r, hr⟩ : ∃ r, x % 65536 = r := ⟨_, rfl⟩
          obtain ⟨s, hs⟩ : ∃ s, y + q = s := ⟨_, rfl⟩
          rw [hx] at hxb cx hg2
          rw [hy] at hyb cy
          rw [hx, hr] at hnx
          rw [hx, hy, hq, hs] at hm2
          rw [hx, hr] at HNX
          have f1 : IntKind.i64.wrap s = s := by rw [IntKind.wrap_i64]; omega
          have f2 : bits .and .i64 x 65535 = r := by rw [i64_and65535, hr]
          have f3 : IntKind.i64.wrap ((k : Int) + 1) = (k : Int) + 1 := by rw [IntKind.wrap_i64]; omega
          have f4 : ((k + 1 : Nat) : Int) = (k : Int) + 1 := by omega
          have p1 : 0 ≤ (k : Int) := by omega
          have p2 : (k : Int) < 15 := by omega
          have p3 : 0 ≤ (k : Int) + 1 := by omega
          have p4 : (k : Int) + 1 < 16 := by omega
          have p5 : (k : Int) < 16 := by omega
          have HI2 : Hid (NormI w (wr.drew.setCell ⟨g, k + 1, none⟩ (.int .i64 s)) g z0 (tabI m2)) := Lib.hid (by rw [← hm2, ← tabI_set]; exact (HI.out.drew).cell (k + 1) _)
          have c2 : (wr.setCell ⟨g, k + 1, none⟩ (.int .i64 s)).drew.cell? ⟨g, k, none⟩ = some (.int .i64 x) := by rw [show (wr.setCell ⟨g, k + 1, none⟩ (.int .i64 s)).drew = wr.drew.setCell ⟨g, k + 1, none⟩ (.int .i64 s) from rfl, cell_of_row _ _ _ _ _ _ HI2.out.t, tabI_get _ _ (by omega), hg2]
          have z2 : (wr.setCell ⟨g, k + 1, none⟩ (.int .i64 s)).drew.frozen? ⟨g, k, none⟩ = false := by
            have := HI2.out.t
            show (wr.drew.setCell ⟨g, k + 1, none⟩ (.int .i64 s)).frozen? ⟨g, k, none⟩ = false
            simp [World.frozen?, this]
          have HI3 : Hid (NormI w ((wr.drew.setCell ⟨g, k + 1, none⟩ (.int .i64 s)).setCell ⟨g, k, none⟩ (.int .i64 r)) g z0 (tabI (m2.set k r))) := Lib.hid (by rw [← tabI_set]; exact HI2.out.cell k _)
          clear hst hm hm2 hnx hg2 hml hl2 hx hy hr HI HI2 f4
          go_wp2_with fail
          refine wp_region_still_tail 12 (by kernel_rfl) (by kernel_rfl) ?_
          simp only [List.take_succ_cons, List.take_zero, List.drop_succ_cons, List.drop_zero]
          iterate 12 still_step
          refine wpStill_nil ?_
          go_wp2_with fail
          go_roundw
          case rel => exact ⟨k + 1, by omega, by go_num, by rw [HNX.out]; exact HI3⟩
          case measure => simp [intOf]; omega
        · have hk15 : k = 15 := by omega
          have dk15 : decide ((k : Int) < 15) = false := decide_eq_false (by omega)
          rw [hk15] at HI
          clear hk15
          have hml : (carryTo L 15).length = 16 := by rw [carryTo_len, HLL.out]
          have hst := carry_st (l := L) (B := 70368744177664) (by omega) HLB.out 15 (by rw [HLL.out]; omega)
          obtain ⟨m, hm⟩ : ∃ m, carryTo L 15 = m := ⟨_, rfl⟩
          have hnx : passL L = (m.set 0 (gI m 0 + 19 * (gI m 15 / 32768))).set 15 (gI m 15 % 32768) := by rw [passL, hm]; rfl
          have hz0 := hst.low 0 (by omega)
          have hx0 := hst.at_
          rw [hm] at hml hz0 hx0 HI
          have c0 : wr.cell? ⟨g, 0, none⟩ = some (.int .i64 (gI m 0)) := by rw [cell_of_row _ _ _ _ _ _ HI.out.t, tabI_get _ _ (by omega)]
          have c15 : wr.cell? ⟨g, 15, none⟩ = some (.int .i64 (gI m 15)) := by rw [cell_of_row _ _ _ _ _ _ HI.out.t, tabI_get _ _ (by omega)]
          have f0 : wr.frozen? ⟨g, 0, none⟩ = false := by have := HI.out.t; simp [World.frozen?, this]
          obtain ⟨m2, hm2⟩ : ∃ m2, m.set 0 (gI m 0 + 19 * (gI m 15 / 32768)) = m2 := ⟨_, rfl⟩
          have hg2 : gI m2 15 = gI m 15 := by rw [← hm2, gI_set _ _ _ _ (by omega), if_neg (by omega)]
          have hl2 : m2.length = 16 := by rw [← hm2, List.length_set]; exact hml
          rw [hm2] at hnx
          obtain ⟨x, hx⟩ : ∃ x, gI m 15 = x := ⟨_, rfl⟩
          obtain ⟨y, hy⟩ : ∃ y, gI m 0 = y := ⟨_, rfl⟩
          rw [hx] at hx0 c15 hg2 hnx hm2
          rw [hy] at hz0 c0 hm2
          obtain ⟨q, hq⟩ : ∃ q, x / 32768 = q := ⟨_, rfl⟩
          obtain ⟨r, hr⟩ : ∃ r, x % 32768 = r := ⟨_, rfl⟩
          obtain ⟨v, hv⟩ : ∃ v, 19 * q = v := ⟨_, rfl⟩
          obtain ⟨s, hs⟩ : ∃ s, y + v = s := ⟨_, rfl⟩
          rw [hq, hv, hs] at hm2
          rw [hr] at hnx
          have f1 : IntKind.i64.wrap v = v := by rw [IntKind.wrap_i64]; omega
          have f2 : IntKind.i64.wrap s = s := by rw [IntKind.wrap_i64]; omega
          have f3 : bits .and .i64 x 32767 = r := by rw [i64_and32767, hr]
          have HI2 : Hid (NormI w (wr.setCell ⟨g, 0, none⟩ (.int .i64 s)) g z0 (tabI m2)) := Lib.hid (by rw [← hm2, ← tabI_set]; exact HI.out.cell 0 _)
          have d15 : (wr.setCell ⟨g, 0, none⟩ (.int .i64 s)).cell? ⟨g, 15, none⟩ = some (.int .i64 x) := by rw [cell_of_row _ _ _ _ _ _ HI2.out.t, tabI_get _ _ (by omega), hg2]
          have e15 : (wr.setCell ⟨g, 0, none⟩ (.int .i64 s)).frozen? ⟨g, 15, none⟩ = false := by have := HI2.out.t; simp [World.frozen?, this]
          have HI3 : Hid (NormI w ((wr.setCell ⟨g, 0, none⟩ (.int .i64 s)).setCell ⟨g, 15, none⟩ (.int .i64 r)) g z0 (tabI (m2.set 15 r))) := Lib.hid (by rw [← tabI_set]; exact HI2.out.cell 15 _)
          have HNX : Hid (passN l (kk + 1) = m2.set 15 r) := Lib.hid (by rw [passN, HLE.out, hnx])
          clear hst hm hm2 hnx hg2 hml hl2 hx hy hr HI HI2 HLL HLB HLE
          go_wp2_with fail
          go_roundw
          case rel => exact ⟨kk + 1, by omega, by go_num, by rw [HNX.out]; exact HI3⟩
          case measure => simp [intOf]; omega
    · have hkk4 : kk = 4 := by omega
      have dk : decide ((kk : Int) < 4) = false := decide_eq_false (by omega)
      rw [hkk4] at HI
      clear hkk4
      obtain ⟨L4, hL4⟩ : ∃ L, passN l 4 = L := ⟨_, rfl⟩
      have hok := HOK.out 4
      rw [hL4] at hok HI
      have HL4L := Lib.hid hok.1
      have HL4B := Lib.hid hok.2
      have HL4E := Lib.hid hL4
      clear hok hL4
      go_wp2_with fail
      go_loopw [5] (fun i wr => ∃ k : Nat, k ≤ 15 ∧ i = .int .i64 (k : Int) ∧ Hid (NormI w wr g z0 (tabI (carryTo L4 k)))) (fun i _ => 15 - (intOf i).toNat)
      case atStart => exact ⟨0, by omega, rfl, HI⟩
      case round =>
        clear HI
        obtain ⟨k, hk, rfl, HI⟩ := hrel
        by_cases hlt : k < 15
        · have hml : (carryTo L4 k).length = 16 := by rw [carryTo_len, HL4L.out]
          have hst := carry_st (l := L4) (B := 70368744177664) (by omega) HL4B.out k (by rw [HL4L.out]; omega)
          obtain ⟨m, hm⟩ : ∃ m, carryTo L4 k = m := ⟨_, rfl⟩
          obtain ⟨m2, hm2⟩ : ∃ m2, m.set (k + 1) (gI m (k + 1) + gI m k / 65536) = m2 := ⟨_, rfl⟩
          have hnx : carryTo L4 (k + 1) = m2.set k (gI m k % 65536) := by rw [carryTo, hm, ← hm2]; rfl
          have hg2 : gI m2 k = gI m k := by rw [← hm2, gI_set _ _ _ _ (by rw [← hm, hml]; omega), if_neg (by omega)]
          have hxb := hst.at_
          have hyb : -70368744177664 ≤ gI m (k + 1) ∧ gI m (k + 1) ≤ 70368744177664 := by
            have h1 := hst.high (k + 1) (by omega)
            rw [hm] at h1
            rw [h1]
            exact HL4B.out (k + 1)
          rw [hm] at hml hxb HI
          have HNX := Lib.hid hnx
          have hl2 : m2.length = 16 := by rw [← hm2, List.length_set]; exact hml
          have cx : wr.cell? ⟨g, k, none⟩ = some (.int .i64 (gI m k)) := by rw [cell_of_row _ _ _ _ _ _ HI.out.t, tabI_get _ _ (by omega)]
          have cy : wr.cell? ⟨g, k + 1, none⟩ = some (.int .i64 (gI m (k + 1))) := by rw [cell_of_row _ _ _ _ _ _ HI.out.t, tabI_get _ _ (by omega)]
          have fx : wr.frozen? ⟨g, k + 1, none⟩ = false := by have := HI.out.t; simp [World.frozen?, this]
          obtain ⟨x, hx⟩ : ∃ x, gI m k = x := ⟨_, rfl⟩
          obtain ⟨y, hy⟩ : ∃ y, gI m (k + 1) = y := ⟨_, rfl⟩
          obtain ⟨q, hq⟩ : ∃ q, x / 65536 = q := ⟨_, rfl⟩
          obtain ⟨r, hr⟩ : ∃ r, x % 65536 = r := ⟨_, rfl⟩
          obtain ⟨s, hs⟩ : ∃ s, y + q = s := ⟨_, rfl⟩
          rw [hx] at hxb cx hg2
          rw [hy] at hyb cy
          rw [hx, hr] at hnx
          rw [hx, hy, hq, hs] at hm2
          rw [hx, hr] at HNX
          have f1 : IntKind.i64.wrap s = s := by rw [IntKind.wrap_i64]; omega
          have f2 : bits .and .i64 x 65535 = r := by rw [i64_and65535, hr]
          have f3 : IntKind.i64.wrap ((k : Int) + 1) = (k : Int) + 1 := by rw [IntKind.wrap_i64]; omega
          have f4 : ((k + 1 : Nat) : Int) = (k : Int) + 1 := by omega
          have p1 : 0 ≤ (k : Int) := by omega
          have p2 : (k : Int) < 15 := by omega
          have p3 : 0 ≤ (k : Int) + 1 := by omega
          have p4 : (k : Int) + 1 < 16 := by omega
          have p5 : (k : Int) < 16 := by omega
          have HI2 : Hid (NormI w (wr.drew.setCell ⟨g, k + 1, none⟩ (.int .i64 s)) g z0 (tabI m2)) := Lib.hid (by rw [← hm2, ← tabI_set]; exact (HI.out.drew).cell (k + 1) _)
          have c2 : (wr.setCell ⟨g, k + 1, none⟩ (.int .i64 s)).drew.cell? ⟨g, k, none⟩ = some (.int .i64 x) := by rw [show (wr.setCell ⟨g, k + 1, none⟩ (.int .i64 s)).drew = wr.drew.setCell ⟨g, k + 1, none⟩ (.int .i64 s) from rfl, cell_of_row _ _ _ _ _ _ HI2.out.t, tabI_get _ _ (by omega), hg2]
          have z2 : (wr.setCell ⟨g, k + 1, none⟩ (.int .i64 s)).drew.frozen? ⟨g, k, none⟩ = false := by
            have := HI2.out.t
            show (wr.drew.setCell ⟨g, k + 1, none⟩ (.int .i64 s)).frozen? ⟨g, k, none⟩ = false
            simp [World.frozen?, this]
          have HI3 : Hid (NormI w ((wr.drew.setCell ⟨g, k + 1, none⟩ (.int .i64 s)).setCell ⟨g, k, none⟩ (.int .i64 r)) g z0 (tabI (m2.set k r))) := Lib.hid (by rw [← tabI_set]; exact HI2.out.cell k _)
          clear hst hm hm2 hnx hg2 hml hl2 hx hy hr HI HI2 f4
          go_wp2_with fail
          refine wp_region_still_tail 12 (by kernel_rfl) (by kernel_rfl) ?_
          simp only [List.take_succ_cons, List.take_zero, List.drop_succ_cons, List.drop_zero]
          iterate 12 still_step
          refine wpStill_nil ?_
          go_wp2_with fail
          go_roundw
          case rel => exact ⟨k + 1, by omega, by go_num, by rw [HNX.out]; exact HI3⟩
          case measure => simp [intOf]; omega
        · have hk15 : k = 15 := by omega
          have dk15 : decide ((k : Int) < 15) = false := decide_eq_false (by omega)
          rw [hk15] at HI
          clear hk15
          obtain ⟨F, hF⟩ : ∃ F, carryTo L4 15 = F := ⟨_, rfl⟩
          rw [hF] at HI
          have hFe : fin4 l = F := by unfold fin4; rw [HL4E.out, hF]
          have hFl : F.length = 16 := by rw [← hF, carryTo_len, HL4L.out]
          have hFp := HPF.out
          rw [hFe] at hFp
          have HBW : Hid (∀ W : World, Calls Try.prog 86 #[.agg (tabI F), .agg (tabI primeL)] W fun e w' => e = .returned (.bool (decide (vL F < pP))) ∧ Below W.heap.size W w') := Lib.hid fun W => by
            have h := rbelow9_any F primeL hFl rfl hFp primeL_pr W
            rwa [primeL_val] at h
          obtain ⟨RF, hRF⟩ : ∃ R, tabI F = R := ⟨_, rfl⟩
          have iF : (Try.prog.info? 31).map (·.size) = some RF.size := by rw [← hRF]; exact info_fe hFl
          have HRF := Lib.hid hRF
          have HFL := Lib.hid hFl
          have HFB : Hid (∀ i, i < 16 → 0 ≤ gI F i ∧ gI F i < 65536) := Lib.hid hFp
          have HLQ : Hid (normL l = if vL F < pP then F else carryTo (subL F primeL) 15) := Lib.hid (by unfold normL; rw [hFe])
          rw [hRF] at HI HBW
          obtain ⟨dd, hdd⟩ : ∃ b, decide (vL F < pP) = b := ⟨_, rfl⟩
          rw [hdd] at HBW
          clear hF hFe hFl hFp hRF HOK HPF HL4E HL4L HL4B
          cases dd with
          | true =>
            go_upto_region 16 with fail
            refine wp_region_noPanic ?_
            refine wp_region_held_drew (S := fun W => NormI w W g z0 RF) (by kernel_rfl) (by exact HI.out.drew) (fun hS => ?_)
            refine' take_at 0 rfl (by kernel_rfl) (by kernel_rfl) (by kernel_rfl) (fun _ _ _ h => h) (by rfl) hS ?_ ?_ ?_
            rotate_left 2
            · intro W hSW; exact run_loadR rfl rfl hSW.t Try.underlying31 rfl iF
            · simp only [List.set_cons_succ, List.set_cons_zero]; rfl
            refine call_at 1 rfl (by kernel_rfl) (by rfl) (fun K hK => ?_)
            go_simp
            with_reducible refine (HPR.out _).mono ?_
            rintro e v1 ⟨rfl, hb1⟩
            have kb1 := hS.call hb1
            clear hS hb1
            refine hK.out _ _ (by exact kb1) (fun hS => ?_)
            clear hK K
            refine call_at 2 rfl (by kernel_rfl) (by rfl) (fun K hK => ?_)
            go_simp
            with_reducible refine (HBW.out _).mono ?_
            rintro e v2 ⟨rfl, hb2⟩
            have kb2 := hS.call hb2
            clear hS hb2
            refine hK.out _ _ (by exact kb2) (fun hS => ?_)
            clear hK K
            refine' take_at 3 rfl (by kernel_rfl) (by kernel_rfl) (by kernel_rfl) (fun _ _ _ h => h) (by rfl) hS ?_ ?_ ?_
            rotate_left 2
            · intro W hSW; go_simp; try with_reducible rfl
            · simp only [List.set_cons_succ, List.set_cons_zero]; rfl
            refine wpAnyH_done (by kernel_rfl) ?_ _
            refine NoPanic.normal ?_
            have HLT : Hid (vL F < pP) := Lib.hid (of_decide_eq_true hdd)
            have HI := Lib.hid kb2
            rw [← HRF.out] at HI
            clear hdd kb2 hS
            have h1 := HI.out.t
            have h0 := HI.out.z
            have hfl : (F).length = 16 := HFL.out
            have s1 : (Try.prog.info? 31).map (·.size) = some (tabI (F)).size := info_fe hfl
            have sz : z0.size = (tabI (F)).size := by rw [HZL.out, tabI_size, hfl]
            have o1 := tabI_one (F)
            have HBF := Lib.hid (show Below w.heap.size w (v2.setRow (g + 1) (tabI (F))) by rw [HG.out]; exact below_row HI.out.below (by omega))
            obtain ⟨t1, ht1⟩ : ∃ t, tabI (F) = t := ⟨_, rfl⟩
            rw [ht1] at h1 s1 sz o1 HBF
            have HT1 : Hid (tabI (normL l) = t1) := Lib.hid (by rw [← ht1]; rw [HLQ.out, if_pos HLT.out])
            clear ht1 HI hfl
            go_upto_region 27 with fail
            go_wp2_with (first
              | (refine wpList_load_row rfl 31 (.tmp 1) rfl g rfl 31 t1 (0, 0) _ h1 Try.underlying31 rfl s1 ?_)
              | (refine wpList_store_row rfl 31 (.tmp 2) (.tmp 109) rfl (g + 1) t1 rfl rfl 31 z0 h0 s1 sz o1 ?_))
            (try simp only [Exit.inBlock, Exit.then])
            refine bodyPost_ret (results_cell_row rfl _ _ (g + 1) _ t1 _ _ rfl (setRow_heap _ _ _ _ _ _ h0) Try.underlying31 rfl s1) rfl ?_
            exact ⟨by rw [HT1.out], HBF.out⟩
          | false =>
            go_upto_region 16 with fail
            refine wp_region_noPanic ?_
            refine wp_region_held_drew (S := fun W => NormI w W g z0 RF) (by kernel_rfl) (by exact HI.out.drew) (fun hS => ?_)
            refine' take_at 0 rfl (by kernel_rfl) (by kernel_rfl) (by kernel_rfl) (fun _ _ _ h => h) (by rfl) hS ?_ ?_ ?_
            rotate_left 2
            · intro W hSW; exact run_loadR rfl rfl hSW.t Try.underlying31 rfl iF
            · simp only [List.set_cons_succ, List.set_cons_zero]; rfl
            refine call_at 1 rfl (by kernel_rfl) (by rfl) (fun K hK => ?_)
            go_simp
            with_reducible refine (HPR.out _).mono ?_
            rintro e v1 ⟨rfl, hb1⟩
            have kb1 := hS.call hb1
            clear hS hb1
            refine hK.out _ _ (by exact kb1) (fun hS => ?_)
            clear hK K
            refine call_at 2 rfl (by kernel_rfl) (by rfl) (fun K hK => ?_)
            go_simp
            with_reducible refine (HBW.out _).mono ?_
            rintro e v2 ⟨rfl, hb2⟩
            have kb2 := hS.call hb2
            clear hS hb2
            refine hK.out _ _ (by exact kb2) (fun hS => ?_)
            clear hK K
            refine' take_at 3 rfl (by kernel_rfl) (by kernel_rfl) (by kernel_rfl) (fun _ _ _ h => h) (by rfl) hS ?_ ?_ ?_
            rotate_left 2
            · intro W hSW; go_simp; try with_reducible rfl
            · simp only [List.set_cons_succ, List.set_cons_zero]; rfl
            refine wpAnyH_done (by kernel_rfl) ?_ _
            refine NoPanic.normal ?_
            have HLT : Hid (¬ vL F < pP) := Lib.hid (of_decide_eq_false hdd)
            have HI := Lib.hid kb2
            rw [← HRF.out] at HI
            clear hdd kb2 hS
            go_wp2_with fail
            with_reducible refine (HPR.out _).mono ?_
            rintro e v3 ⟨rfl, hb3⟩
            have HI3 := Lib.hid (HI.out.call hb3)
            obtain ⟨RP, hRP⟩ : ∃ R, tabI primeL = R := ⟨_, rfl⟩
            have iP : (Try.prog.info? 31).map (·.size) = some RP.size := by rw [← hRP]; exact info_fe rfl
            have nP : z0.size = RP.size := by rw [HZL.out, ← hRP, tabI_size]; rfl
            have oP : RP.all (·.oneCell') = true := by rw [← hRP]; exact tabI_one _
            rw [hRP]
            have hp0 : (v3.alloc (.cells z0 31)).heap[v3.heap.size]? = some (.cells z0 31 (0, 0)) := heap_alloc_new _ _
            have HI4 : Hid (NormI w ((v3.alloc (.cells z0 31)).setRow v3.heap.size RP) g z0 (tabI (opTo (fun i => gI F i - gI primeL i) F 0))) := Lib.hid (by rw [opTo_zero _ HFL.out]; exact HI3.out.row _ _)
            have HP4 : Hid (((v3.alloc (.cells z0 31)).setRow v3.heap.size RP).heap[v3.heap.size]? = some (.cells RP 31 (0, 0))) := Lib.hid (setRow_heap _ _ _ _ _ _ hp0)
            have HGP : Hid (g + 1 < v3.heap.size) := Lib.hid HI3.out.lt
            have HRP := Lib.hid hRP
            clear hb3 HI HI3 hRP
            go_wp2_with (refine wpList_store_row rfl 31 (.tmp 6) (.tmp 73) rfl v3.heap.size RP rfl rfl 31 z0 hp0 iP nP oP ?_)
            obtain ⟨W5, hW5⟩ : ∃ W, (v3.alloc (.cells z0 31)).setRow v3.heap.size RP = W := ⟨_, rfl⟩
            obtain ⟨gp, hgp⟩ : ∃ q, v3.heap.size = q := ⟨_, rfl⟩
            rw [hW5] at HI4
            rw [hW5, hgp] at HP4
            rw [hgp] at HGP
            rw [hW5, hgp]
            clear hp0 hW5 hgp
            go_loopw [7] (fun i wr => ∃ k : Nat, k ≤ 16 ∧ i = .int .i64 (k : Int) ∧ Hid (NormI w wr g z0 (tabI (opTo (fun i => gI F i - gI primeL i) F k))) ∧ Hid (wr.heap[gp]? = some (.cells RP 31 (0, 0)))) (fun i _ => 16 - (intOf i).toNat)
            case atStart => exact ⟨0, by omega, rfl, HI4, HP4⟩
            case round =>
              clear HI4 HP4
              obtain ⟨k, hk, rfl, HI, HP⟩ := hrel
              by_cases hlt : k < 16
              · have cx : wr.cell? ⟨g, k, none⟩ = some (.int .i64 (gI F k)) := by rw [cell_of_row _ _ _ _ _ _ HI.out.t, tabI_get _ _ (by rw [opTo_len]; exact hlt), opTo_get _ _ _ _ hlt, if_neg (by omega)]
                have cp : wr.cell? ⟨gp, k, none⟩ = some (.int .i64 (gI primeL k)) := by rw [cell_of_row _ _ _ _ _ _ HP.out, ← HRP.out, tabI_get _ _ hlt]
                have fx : wr.frozen? ⟨g, k, none⟩ = false := by have := HI.out.t; simp [World.frozen?, this]
                have hFk := HFB.out k hlt
                have hPk := primeL_pr k hlt
                obtain ⟨s, hs⟩ : ∃ s, gI F k - gI primeL k = s := ⟨_, rfl⟩
                have HI2 : Hid (NormI w (wr.drew.setCell ⟨g, k, none⟩ (.int .i64 s)) g z0 (tabI (opTo (fun i => gI F i - gI primeL i) F (k + 1)))) := Lib.hid (by
                  rw [← opTo_set (fun i => gI F i - gI primeL i) F hlt, ← hs, ← tabI_set]
                  exact (HI.out.drew).cell k _)
                have HP2 : Hid ((wr.drew.setCell ⟨g, k, none⟩ (.int .i64 s)).heap[gp]? = some (.cells RP 31 (0, 0))) := Lib.hid (by
                  rw [setCell_eq_setRow wr.drew g k _ _ _ (.int .i64 s) HI.out.drew.t, setRow_other _ _ _ _ (by have := HGP.out; omega)]
                  exact HP.out)
                generalize gI F k = x at *
                generalize gI primeL k = y at *
                have f1 : IntKind.i64.wrap s = s := by rw [IntKind.wrap_i64]; omega
                have p1 : 0 ≤ (k : Int) := by omega
                have p2 : (k : Int) < 16 := by omega
                clear HI HP hFk hPk
                go_wp2_with fail
                refine wp_region_still_tail 9 (by kernel_rfl) (by kernel_rfl) ?_
                simp only [List.take_succ_cons, List.take_zero, List.drop_succ_cons, List.drop_zero]
                iterate 9 still_step
                refine wpStill_nil ?_
                go_wp2_with fail
                go_roundw
                case rel => exact ⟨k + 1, by omega, by go_num, HI2, HP2⟩
                case measure => simp [intOf]; omega
              · have hk16 : k = 16 := by omega
                have dk16 : decide ((k : Int) < 16) = false := decide_eq_false (by omega)
                rw [hk16] at HI
                obtain ⟨D8, hD8⟩ : ∃ D, subL F primeL = D := ⟨_, rfl⟩
                rw [opTo_end, show (List.range 16).map (fun i => gI F i - gI primeL i) = D8 from hD8] at HI
                have HD8L : Hid (D8.length = 16) := Lib.hid (by rw [← hD8]; simp [subL])
                have HD8B : Hid (Bd 70368744177664 D8) := Lib.hid (fun i => by
                  by_cases hi : i < 16
                  · rw [← hD8, subL, gI_range _ _ hi]
                    have h1 := HFB.out i hi
                    have h2 := primeL_pr i hi
                    omega
                  · rw [gI_out (by rw [HD8L.out]; omega)]; omega)
                have HD8E := Lib.hid hD8
                clear hk16 hD8 HP HRP
                go_wp2_with fail
                go_loopw [8] (fun i wr => ∃ k : Nat, k ≤ 15 ∧ i = .int .i64 (k : Int) ∧ Hid (NormI w wr g z0 (tabI (carryTo D8 k)))) (fun i _ => 15 - (intOf i).toNat)
                case atStart => exact ⟨0, by omega, rfl, HI⟩
                case round =>
                  clear HI
                  obtain ⟨k, hk, rfl, HI⟩ := hrel
                  by_cases hlt : k < 15
                  · have hml : (carryTo D8 k).length = 16 := by rw [carryTo_len, HD8L.out]
                    have hst := carry_st (l := D8) (B := 70368744177664) (by omega) HD8B.out k (by rw [HD8L.out]; omega)
                    obtain ⟨m, hm⟩ : ∃ m, carryTo D8 k = m := ⟨_, rfl⟩
                    obtain ⟨m2, hm2⟩ : ∃ m2, m.set (k + 1) (gI m (k + 1) + gI m k / 65536) = m2 := ⟨_, rfl⟩
                    have hnx : carryTo D8 (k + 1) = m2.set k (gI m k % 65536) := by rw [carryTo, hm, ← hm2]; rfl
                    have hg2 : gI m2 k = gI m k := by rw [← hm2, gI_set _ _ _ _ (by rw [← hm, hml]; omega), if_neg (by omega)]
                    have hxb := hst.at_
                    have hyb : -70368744177664 ≤ gI m (k + 1) ∧ gI m (k + 1) ≤ 70368744177664 := by
                      have h1 := hst.high (k + 1) (by omega)
                      rw [hm] at h1
                      rw [h1]
                      exact HD8B.out (k + 1)
                    rw [hm] at hml hxb HI
                    have HNX := Lib.hid hnx
                    have hl2 : m2.length = 16 := by rw [← hm2, List.length_set]; exact hml
                    have cx : wr.cell? ⟨g, k, none⟩ = some (.int .i64 (gI m k)) := by rw [cell_of_row _ _ _ _ _ _ HI.out.t, tabI_get _ _ (by omega)]
                    have cy : wr.cell? ⟨g, k + 1, none⟩ = some (.int .i64 (gI m (k + 1))) := by rw [cell_of_row _ _ _ _ _ _ HI.out.t, tabI_get _ _ (by omega)]
                    have fx : wr.frozen? ⟨g, k + 1, none⟩ = false := by have := HI.out.t; simp [World.frozen?, this]
                    obtain ⟨x, hx⟩ : ∃ x, gI m k = x := ⟨_, rfl⟩
                    obtain ⟨y, hy⟩ : ∃ y, gI m (k + 1) = y := ⟨_, rfl⟩
                    obtain ⟨q, hq⟩ : ∃ q, x / 65536 = q := ⟨_, rfl⟩
                    obtain ⟨r, hr⟩ : ∃ r, x % 65536 = r := ⟨_, rfl⟩
                    obtain ⟨s, hs⟩ : ∃ s, y + q = s := ⟨_, rfl⟩
                    rw [hx] at hxb cx hg2
                    rw [hy] at hyb cy
                    rw [hx, hr] at hnx
                    rw [hx, hy, hq, hs] at hm2
                    rw [hx, hr] at HNX
                    have f1 : IntKind.i64.wrap s = s := by rw [IntKind.wrap_i64]; omega
                    have f2 : bits .and .i64 x 65535 = r := by rw [i64_and65535, hr]
                    have f3 : IntKind.i64.wrap ((k : Int) + 1) = (k : Int) + 1 := by rw [IntKind.wrap_i64]; omega
                    have f4 : ((k + 1 : Nat) : Int) = (k : Int) + 1 := by omega
                    have p1 : 0 ≤ (k : Int) := by omega
                    have p2 : (k : Int) < 15 := by omega
                    have p3 : 0 ≤ (k : Int) + 1 := by omega
                    have p4 : (k : Int) + 1 < 16 := by omega
                    have p5 : (k : Int) < 16 := by omega
                    have HI2 : Hid (NormI w (wr.drew.setCell ⟨g, k + 1, none⟩ (.int .i64 s)) g z0 (tabI m2)) := Lib.hid (by rw [← hm2, ← tabI_set]; exact (HI.out.drew).cell (k + 1) _)
                    have c2 : (wr.setCell ⟨g, k + 1, none⟩ (.int .i64 s)).drew.cell? ⟨g, k, none⟩ = some (.int .i64 x) := by rw [show (wr.setCell ⟨g, k + 1, none⟩ (.int .i64 s)).drew = wr.drew.setCell ⟨g, k + 1, none⟩ (.int .i64 s) from rfl, cell_of_row _ _ _ _ _ _ HI2.out.t, tabI_get _ _ (by omega), hg2]
                    have z2 : (wr.setCell ⟨g, k + 1, none⟩ (.int .i64 s)).drew.frozen? ⟨g, k, none⟩ = false := by
                      have := HI2.out.t
                      show (wr.drew.setCell ⟨g, k + 1, none⟩ (.int .i64 s)).frozen? ⟨g, k, none⟩ = false
                      simp [World.frozen?, this]
                    have HI3 : Hid (NormI w ((wr.drew.setCell ⟨g, k + 1, none⟩ (.int .i64 s)).setCell ⟨g, k, none⟩ (.int .i64 r)) g z0 (tabI (m2.set k r))) := Lib.hid (by rw [← tabI_set]; exact HI2.out.cell k _)
                    clear hst hm hm2 hnx hg2 hml hl2 hx hy hr HI HI2 f4
                    go_wp2_with fail
                    refine wp_region_still_tail 12 (by kernel_rfl) (by kernel_rfl) ?_
                    simp only [List.take_succ_cons, List.take_zero, List.drop_succ_cons, List.drop_zero]
                    iterate 12 still_step
                    refine wpStill_nil ?_
                    go_wp2_with fail
                    go_roundw
                    case rel => exact ⟨k + 1, by omega, by go_num, by rw [HNX.out]; exact HI3⟩
                    case measure => simp [intOf]; omega
                  · have hk15 : k = 15 := by omega
                    have dk15 : decide ((k : Int) < 15) = false := decide_eq_false (by omega)
                    rw [hk15] at HI
                    clear hk15
                    have h1 := HI.out.t
                    have h0 := HI.out.z
                    have hfl : (carryTo D8 15).length = 16 := by rw [carryTo_len, HD8L.out]
                    have s1 : (Try.prog.info? 31).map (·.size) = some (tabI (carryTo D8 15)).size := info_fe hfl
                    have sz : z0.size = (tabI (carryTo D8 15)).size := by rw [HZL.out, tabI_size, hfl]
                    have o1 := tabI_one (carryTo D8 15)
                    have HBF := Lib.hid (show Below w.heap.size w (wr.setRow (g + 1) (tabI (carryTo D8 15))) by rw [HG.out]; exact below_row HI.out.below (by omega))
                    obtain ⟨t1, ht1⟩ : ∃ t, tabI (carryTo D8 15) = t := ⟨_, rfl⟩
                    rw [ht1] at h1 s1 sz o1 HBF
                    have HT1 : Hid (tabI (normL l) = t1) := Lib.hid (by rw [← ht1]; rw [HLQ.out, if_neg (by have := HLT.out; omega), HD8E.out])
                    clear ht1 HI hfl
                    go_upto_region 27 with fail
                    go_wp2_with (first
                      | (refine wpList_load_row rfl 31 (.tmp 1) rfl g rfl 31 t1 (0, 0) _ h1 Try.underlying31 rfl s1 ?_)
                      | (refine wpList_store_row rfl 31 (.tmp 2) (.tmp 109) rfl (g + 1) t1 rfl rfl 31 z0 h0 s1 sz o1 ?_))
                    (try simp only [Exit.inBlock, Exit.then])
                    refine bodyPost_ret (results_cell_row rfl _ _ (g + 1) _ t1 _ _ rfl (setRow_heap _ _ _ _ _ _ h0) Try.underlying31 rfl s1) rfl ?_
                    exact ⟨by rw [HT1.out], HBF.out⟩
end Go.Proofs.Ytfejabfmhddepaa

namespace Go.Proofs.Ytfejabfmhddepaa
open Go.RowKit
set_option linter.unusedVariables false
set_option maxRecDepth 100000

theorem fin_pr {l : List Int} (hb : Bd 70368744177664 l) (h : l.length = 16) (h1 : -(8 * P255) ≤ vL l) (h2 : vL l ≤ 35184372088832 * P255) : ∀ i, i < 16 → 0 ≤ gI (fin4 l) i ∧ gI (fin4 l) i < 65536 := by
  obtain ⟨v, e, -⟩ := fin4_is rfl hb h h1 h2
  rw [e]
  exact fun i hi => dgN_get 16 v i hi
theorem rnorm9_any (l : List Int) (hl : l.length = 16) (hb : Bd 70368744177664 l) (h1 : -(8 * P255) ≤ vL l) (h2 : vL l ≤ 35184372088832 * P255) (w : World) :
    Calls Try.prog 70 #[.agg (tabI l)] w fun e w' => e = .returned (.agg (tabI (dgN 16 (vL l % pP)))) ∧ Below w.heap.size w w' := by
  have h := rnormL_any l hl hb (fin_pr hb hl h1 h2) w
  rwa [norm_is rfl hb hl h1 h2] at h

theorem p16 : (65536 : Int) ^ 16 = 2 * P255 := by decide
theorem dg_val {x : Int} (h0 : 0 ≤ x) (h1 : x < pP) : vL (dgN 16 x) = x := vL_dgN 16 x h0 (by rw [p16]; unfold pP P255 at *; omega)
theorem dg_bd {x : Int} (i : Nat) : 0 ≤ gI (dgN 16 x) i ∧ gI (dgN 16 x) i < 65536 := by
  by_cases h : i < 16
  · exact dgN_get 16 x i h
  · rw [gI_out (by rw [dgN_len]; omega)]; omega
/-- sums, differences, digit by digit -/
theorem map_add_val (f g : Nat → Int) (a b : List Int) (ha : a.length = 16) (hb : b.length = 16) : vL ((List.range 16).map fun i => gI a i + gI b i) = vL a + vL b := by
  rw [vL_add, vL16 ha, vL16 hb]
theorem map_bd {f : Nat → Int} {B : Int} (hB : 0 ≤ B) (h : ∀ i, i < 16 → -B ≤ f i ∧ f i ≤ B) : Bd B ((List.range 16).map f) := fun i => by
  by_cases hi : i < 16
  · rw [gI_range _ _ hi]; exact h i hi
  · rw [gI_out (by simp; omega)]; omega

structure AddI (w wr : World) (g : Nat) (X Y z0 : Array Value) : Prop where
  x : wr.heap[g]? = some (.cells X 31 (0, 0))
  y : wr.heap[g + 1]? = some (.cells Y 31 (0, 0))
  z : wr.heap[g + 1 + 1]? = some (.cells z0 31 (0, 0))
  below : Below g w wr
theorem AddI.lt {w wr : World} {g : Nat} {X Y z0 : Array Value} (h : AddI w wr g X Y z0) : g + 1 + 1 < wr.heap.size := (Array.getElem?_eq_some_iff.1 h.z).1
theorem AddI.drew {w wr : World} {g : Nat} {X Y z0 : Array Value} (h : AddI w wr g X Y z0) : AddI w wr.drew g X Y z0 := ⟨h.x, h.y, h.z, h.below.drew⟩
theorem AddI.cell {w wr : World} {g : Nat} {X Y z0 : Array Value} (h : AddI w wr g X Y z0) (k : Nat) (v : Value) : AddI w (wr.setCell ⟨g, k, none⟩ v) g (X.setIfInBounds k v) Y z0 := by
  have e := setCell_eq_setRow wr g k _ _ _ v h.x
  exact ⟨by rw [e, setRow_heap _ _ _ _ _ _ h.x], by rw [e, setRow_other _ _ _ _ (by omega)]; exact h.y, by rw [e, setRow_other _ _ _ _ (by omega)]; exact h.z, h.below.setCell (p := ⟨g, k, none⟩) (Nat.le_refl _) _⟩
theorem AddI.call {w wr W : World} {g : Nat} {X Y z0 : Array Value} (h : AddI w wr g X Y z0) (hb : Below wr.heap.size wr W) : AddI w W g X Y z0 := by
  have hl := h.lt
  exact ⟨by rw [hb.block _ (by omega)]; exact h.x, by rw [hb.block _ (by omega)]; exact h.y, by rw [hb.block _ (by omega)]; exact h.z, h.below.trans (hb.mono (by omega))⟩
theorem AddI.row {w wr : World} {g : Nat} {X Y z0 : Array Value} (h : AddI w wr g X Y z0) (o : Obj) (M : Array Value) : AddI w ((wr.alloc o).setRow wr.heap.size M) g X Y z0 := by
  have hl := h.lt
  refine ⟨?_, ?_, ?_, below_row (h.below.alloc (by omega) _) (by omega)⟩
  · rw [setRow_other _ _ _ _ (by omega), heap_alloc_old _ _ (by omega)]; exact h.x
  · rw [setRow_other _ _ _ _ (by omega), heap_alloc_old _ _ (by omega)]; exact h.y
  · rw [setRow_other _ _ _ _ (by omega), heap_alloc_old _ _ (by omega)]; exact h.z
theorem addI_start (w : World) (X Y z0 : Array Value) : AddI w (((w.alloc (.cells X 31)).alloc (.cells Y 31)).alloc (.cells z0 31)) w.heap.size X Y z0 := by
  refine ⟨?_, ?_, ?_, (((Below.refl w.heap.size w).alloc (Nat.le_refl _) _).alloc (by simp) _).alloc (by simp; omega) _⟩
  · rw [heap_alloc_old _ _ (by rw [World.size_alloc, World.size_alloc]; omega)]; exact heap_alloc2_old _ _ _
  · rw [heap_alloc_old _ _ (by rw [World.size_alloc, World.size_alloc]; omega)]; exact heap_alloc2_new _ _ _
  · have := heap_alloc_new ((w.alloc (.cells X 31)).alloc (.cells Y 31)) (.cells z0 31)
    rwa [World.size_alloc, World.size_alloc] at this

set_option maxHeartbeats 1600000 in
theorem radd9_any (x y : Int) (hx0 : 0 ≤ x) (hx : x < pP) (hy0 : 0 ≤ y) (hy : y < pP) (w : World) :
    Calls Try.prog 47 #[.agg (tabI (dgN 16 x)), .agg (tabI (dgN 16 y))] w fun e w' => e = .returned (.agg (tabI (dgN 16 ((x + y) % pP)))) ∧ Below w.heap.size w w' := by
  have hz := fun u => zero_fe u
  obtain ⟨z0, hz0e⟩ : ∃ t, tabI (List.replicate 16 0) = t := ⟨_, rfl⟩
  rw [hz0e] at hz
  have n0 : z0.size = 16 := by rw [← hz0e, tabI_size]; simp
  obtain ⟨a, ha⟩ : ∃ a, dgN 16 x = a := ⟨_, rfl⟩
  obtain ⟨b, hb⟩ : ∃ b, dgN 16 y = b := ⟨_, rfl⟩
  have hal : a.length = 16 := by rw [← ha, dgN_len]
  have hbl : b.length = 16 := by rw [← hb, dgN_len]
  have hab : ∀ i, 0 ≤ gI a i ∧ gI a i < 65536 := by rw [← ha]; exact fun i => dg_bd i
  have hbb : ∀ i, 0 ≤ gI b i ∧ gI b i < 65536 := by rw [← hb]; exact fun i => dg_bd i
  have hsv : vL ((List.range 16).map fun i => gI a i + gI b i) = x + y := by rw [map_add_val (fun _ => 0) (fun _ => 0) a b hal hbl, ← ha, ← hb, dg_val hx0 hx, dg_val hy0 hy]
  have hsb : Bd 70368744177664 ((List.range 16).map fun i => gI a i + gI b i) := map_bd (by omega) (fun i hi => by have := hab i; have := hbb i; omega)
  have HNO : Hid (∀ W : World, Calls Try.prog 70 #[.agg (tabI ((List.range 16).map fun i => gI a i + gI b i))] W fun e w' => e = .returned (.agg (tabI (dgN 16 ((x + y) % pP)))) ∧ Below W.heap.size W w') := Lib.hid fun W => by
    have h := rnorm9_any _ (by simp) hsb (by rw [hsv]; unfold pP P255 at *; omega) (by rw [hsv]; unfold pP P255 at *; omega) W
    rwa [hsv] at h
  obtain ⟨R, hR⟩ : ∃ R, tabI (dgN 16 ((x + y) % pP)) = R := ⟨_, rfl⟩
  have nR : R.size = 16 := by rw [← hR, tabI_size, dgN_len]
  have oR : R.all (·.oneCell') = true := by rw [← hR]; exact tabI_one _
  have iR : (Try.prog.info? 31).map (·.size) = some R.size := by rw [← hR]; exact info_fe (dgN_len _ _)
  have zR : z0.size = R.size := by rw [n0, nR]
  rw [hR] at HNO ⊢
  rw [ha, hb]
  have HAL := Lib.hid hal
  have HBL := Lib.hid hbl
  have HAB := Lib.hid hab
  have HBB := Lib.hid hbb
  obtain ⟨XA, hXA⟩ : ∃ X, tabI a = X := ⟨_, rfl⟩
  obtain ⟨YB, hYB⟩ : ∃ X, tabI b = X := ⟨_, rfl⟩
  have HI : Hid (AddI w (((w.alloc (.cells XA 31)).alloc (.cells YB 31)).alloc (.cells z0 31)) w.heap.size (tabI (opTo (fun i => gI a i + gI b i) a 0)) YB z0) := Lib.hid (by rw [opTo_zero _ hal, hXA]; exact addI_start _ _ _ _)
  have HYB := Lib.hid hYB
  rw [hXA, hYB]
  clear hz0e n0 ha hb hal hbl hab hbb hsv hsb hR nR hXA hYB hx0 hx hy0 hy
  go_enter Try.func47, Try.ntmps47
  go_wp2_with fail
  obtain ⟨W1, hW1⟩ : ∃ W, ((w.alloc (.cells XA 31)).alloc (.cells YB 31)).alloc (.cells z0 31) = W := ⟨_, rfl⟩
  obtain ⟨g, hg⟩ : ∃ g, w.heap.size = g := ⟨_, rfl⟩
  rw [hW1, hg] at HI
  rw [hW1, hg]
  have HG := Lib.hid hg
  clear hW1 hg
  go_loopw [5] (fun i wr => ∃ k : Nat, k ≤ 16 ∧ i = .int .i64 (k : Int) ∧ Hid (AddI w wr g (tabI (opTo (fun i => gI a i + gI b i) a k)) YB z0)) (fun i _ => 16 - (intOf i).toNat)
  case atStart => exact ⟨0, by omega, rfl, HI⟩
  case round =>
    clear HI
    obtain ⟨k, hk, rfl, HI⟩ := hrel
    by_cases hlt : k < 16
    · have cx : wr.cell? ⟨g, k, none⟩ = some (.int .i64 (gI a k)) := by rw [cell_of_row _ _ _ _ _ _ HI.out.x, tabI_get _ _ (by rw [opTo_len]; exact hlt), opTo_get _ _ _ _ hlt, if_neg (by omega)]
      have cy : wr.cell? ⟨g + 1, k, none⟩ = some (.int .i64 (gI b k)) := by rw [cell_of_row _ _ _ _ _ _ HI.out.y, ← HYB.out, tabI_get _ _ (by rw [HBL.out]; exact hlt)]
      have fx : wr.frozen? ⟨g, k, none⟩ = false := by have := HI.out.x; simp [World.frozen?, this]
      have h1 := HAB.out k
      have h2 := HBB.out k
      obtain ⟨s, hs⟩ : ∃ s, gI a k + gI b k = s := ⟨_, rfl⟩
      have HI2 : Hid (AddI w (wr.drew.setCell ⟨g, k, none⟩ (.int .i64 s)) g (tabI (opTo (fun i => gI a i + gI b i) a (k + 1))) YB z0) := Lib.hid (by
        rw [← opTo_set (fun i => gI a i + gI b i) a hlt, ← hs, ← tabI_set]
        exact (HI.out.drew).cell k _)
      generalize gI a k = u at *
      generalize gI b k = v at *
      have f1 : IntKind.i64.wrap s = s := by rw [IntKind.wrap_i64]; omega
      have p1 : 0 ≤ (k : Int) := by omega
      have p2 : (k : Int) < 16 := by omega
      clear HI h1 h2
      go_wp2_with fail
      refine wp_region_still_tail 9 (by kernel_rfl) (by kernel_rfl) ?_
      simp only [List.take_succ_cons, List.take_zero, List.drop_succ_cons, List.drop_zero]
      iterate 9 still_step
      refine wpStill_nil ?_
      go_wp2_with fail
      go_roundw
      case rel => exact ⟨k + 1, by omega, by go_num, HI2⟩
      case measure => simp [intOf]; omega
    · obtain rfl : k = 16 := by omega
      rw [opTo_end] at HI
      have h1 := HI.out.x
      have s1 : (Try.prog.info? 31).map (·.size) = some (tabI ((List.range 16).map fun i => gI a i + gI b i)).size := info_fe (by simp)
      generalize tabI ((List.range 16).map fun i => gI a i + gI b i) = T1 at *
      go_wp2_with (refine wpList_load_row rfl 31 (.tmp 2) rfl g rfl 31 T1 (0, 0) _ h1 Try.underlying31 rfl s1 ?_)
      with_reducible refine (HNO.out _).mono ?_
      rintro e w2 ⟨rfl, hb2⟩
      have HI2 := HI.out.call hb2
      have h0 := HI2.z
      have HB := Lib.hid (show Below w.heap.size w (w2.setRow (g + 1 + 1) R) by rw [HG.out]; exact below_row HI2.below (by omega))
      clear hb2 HI HI2 h1
      go_wp2_with (refine wpList_store_row rfl 31 (.tmp 4) (.tmp 20) rfl (g + 1 + 1) R rfl rfl 31 z0 h0 iR zR oR ?_)
      (try simp only [Exit.inBlock, Exit.then])
      refine bodyPost_ret (results_cell_row rfl _ _ (g + 1 + 1) _ R _ _ rfl (setRow_heap _ _ _ _ _ _ h0) Try.underlying31 rfl iR) rfl ?_
      exact ⟨rfl, HB.out⟩

set_option maxHeartbeats 1600000 in
theorem rsub9_any (x y : Int) (hx0 : 0 ≤ x) (hx : x < pP) (hy0 : 0 ≤ y) (hy : y < pP) (w : World) :
    Calls Try.prog 72 #[.agg (tabI (dgN 16 x)), .agg (tabI (dgN 16 y))] w fun e w' => e = .returned (.agg (tabI (dgN 16 ((x - y) % pP)))) ∧ Below w.heap.size w w' := by
  have hz := fun u => zero_fe u
  obtain ⟨z0, hz0e⟩ : ∃ t, tabI (List.replicate 16 0) = t := ⟨_, rfl⟩
  rw [hz0e] at hz
  have n0 : z0.size = 16 := by rw [← hz0e, tabI_size]; simp
  obtain ⟨a, ha⟩ : ∃ a, dgN 16 x = a := ⟨_, rfl⟩
  obtain ⟨b, hb⟩ : ∃ b, dgN 16 y = b := ⟨_, rfl⟩
  have hal : a.length = 16 := by rw [← ha, dgN_len]
  have hbl : b.length = 16 := by rw [← hb, dgN_len]
  have hab : ∀ i, 0 ≤ gI a i ∧ gI a i < 65536 := by rw [← ha]; exact fun i => dg_bd i
  have hbb : ∀ i, 0 ≤ gI b i ∧ gI b i < 65536 := by rw [← hb]; exact fun i => dg_bd i
  have hsv : vL ((List.range 16).map fun i => gI a i + gI primeL i - gI b i) = x + pP - y := by
    have e1 := vL_add (fun i => gI a i + gI primeL i) (fun i => (-1) * gI b i) (List.range 16)
    rw [vL_mulc, map_add_val (fun _ => 0) (fun _ => 0) a primeL hal rfl, vL16 hbl, primeL_val, ← ha, ← hb, dg_val hx0 hx, dg_val hy0 hy] at e1
    rw [show (fun i => gI a i + gI primeL i - gI b i) = fun i => gI a i + gI primeL i + (-1) * gI b i from funext fun i => by omega, ← ha, ← hb, e1]
    omega
  have hsb : Bd 70368744177664 ((List.range 16).map fun i => gI a i + gI primeL i - gI b i) := map_bd (by omega) (fun i hi => by have := hab i; have := hbb i; have := primeL_pr i hi; omega)
  have HNO : Hid (∀ W : World, Calls Try.prog 70 #[.agg (tabI ((List.range 16).map fun i => gI a i + gI primeL i - gI b i))] W fun e w' => e = .returned (.agg (tabI (dgN 16 ((x - y) % pP)))) ∧ Below W.heap.size W w') := Lib.hid fun W => by
    have h := rnorm9_any _ (by simp) hsb (by rw [hsv]; unfold pP P255 at *; omega) (by rw [hsv]; unfold pP P255 at *; omega) W
    rw [hsv, show (x + pP - y) % pP = (x - y) % pP by unfold pP; omega] at h
    exact h
  obtain ⟨R, hR⟩ : ∃ R, tabI (dgN 16 ((x - y) % pP)) = R := ⟨_, rfl⟩
  have nR : R.size = 16 := by rw [← hR, tabI_size, dgN_len]
  have oR : R.all (·.oneCell') = true := by rw [← hR]; exact tabI_one _
  have iR : (Try.prog.info? 31).map (·.size) = some R.size := by rw [← hR]; exact info_fe (dgN_len _ _)
  have zR : z0.size = R.size := by rw [n0, nR]
  rw [hR] at HNO ⊢
  rw [ha, hb]
  have HPR : Hid (∀ W : World, Calls Try.prog 87 #[] W fun e w' => e = .returned (.agg (tabI primeL)) ∧ Below W.heap.size W w') := Lib.hid rprime9_any
  obtain ⟨RP, hRP⟩ : ∃ R, tabI primeL = R := ⟨_, rfl⟩
  have iP : (Try.prog.info? 31).map (·.size) = some RP.size := by rw [← hRP]; exact info_fe rfl
  have nP : z0.size = RP.size := by rw [n0, ← hRP, tabI_size]; rfl
  have oP : RP.all (·.oneCell') = true := by rw [← hRP]; exact tabI_one _
  rw [hRP] at HPR
  have HRP := Lib.hid hRP
  clear hRP
  have HAL := Lib.hid hal
  have HBL := Lib.hid hbl
  have HAB := Lib.hid hab
  have HBB := Lib.hid hbb
  obtain ⟨XA, hXA⟩ : ∃ X, tabI a = X := ⟨_, rfl⟩
  obtain ⟨YB, hYB⟩ : ∃ X, tabI b = X := ⟨_, rfl⟩
  have HI : Hid (AddI w (((w.alloc (.cells XA 31)).alloc (.cells YB 31)).alloc (.cells z0 31)) w.heap.size (tabI (opTo (fun i => gI a i + gI primeL i - gI b i) a 0)) YB z0) := Lib.hid (by rw [opTo_zero _ hal, hXA]; exact addI_start _ _ _ _)
  have HYB := Lib.hid hYB
  rw [hXA, hYB]
  clear hz0e n0 ha hb hal hbl hab hbb hsv hsb hR nR hXA hYB hx0 hx hy0 hy
  go_enter Try.func72, Try.ntmps72
  go_wp2_with fail
  obtain ⟨W1, hW1⟩ : ∃ W, ((w.alloc (.cells XA 31)).alloc (.cells YB 31)).alloc (.cells z0 31) = W := ⟨_, rfl⟩
  obtain ⟨g, hg⟩ : ∃ g, w.heap.size = g := ⟨_, rfl⟩
  rw [hW1, hg] at HI
  rw [hW1, hg]
  have HG := Lib.hid hg
  clear hW1 hg
  with_reducible refine (HPR.out _).mono ?_
  rintro e v3 ⟨rfl, hb3⟩
  have HI3 := Lib.hid (HI.out.call hb3)
  have hp0 : (v3.alloc (.cells z0 31)).heap[v3.heap.size]? = some (.cells z0 31 (0, 0)) := heap_alloc_new _ _
  have HI4 := Lib.hid (HI3.out.row (.cells z0 31) RP)
  have HP4 : Hid (((v3.alloc (.cells z0 31)).setRow v3.heap.size RP).heap[v3.heap.size]? = some (.cells RP 31 (0, 0))) := Lib.hid (setRow_heap _ _ _ _ _ _ hp0)
  have HGP : Hid (g + 1 + 1 < v3.heap.size) := Lib.hid HI3.out.lt
  clear hb3 HI HI3
  go_wp2_with (refine wpList_store_row rfl 31 (.tmp 5) (.tmp 7) rfl v3.heap.size RP rfl rfl 31 z0 hp0 iP nP oP ?_)
  obtain ⟨W5, hW5⟩ : ∃ W, (v3.alloc (.cells z0 31)).setRow v3.heap.size RP = W := ⟨_, rfl⟩
  obtain ⟨gp, hgp⟩ : ∃ q, v3.heap.size = q := ⟨_, rfl⟩
  rw [hW5] at HI4
  rw [hW5, hgp] at HP4
  rw [hgp] at HGP
  rw [hW5, hgp]
  clear hp0 hW5 hgp
  go_loopw [6] (fun i wr => ∃ k : Nat, k ≤ 16 ∧ i = .int .i64 (k : Int) ∧ Hid (AddI w wr g (tabI (opTo (fun i => gI a i + gI primeL i - gI b i) a k)) YB z0) ∧ Hid (wr.heap[gp]? = some (.cells RP 31 (0, 0)))) (fun i _ => 16 - (intOf i).toNat)
  case atStart => exact ⟨0, by omega, rfl, HI4, HP4⟩
  case round =>
    clear HI4 HP4
    obtain ⟨k, hk, rfl, HI, HP⟩ := hrel
    by_cases hlt : k < 16
    · have cx : wr.cell? ⟨g, k, none⟩ = some (.int .i64 (gI a k)) := by rw [cell_of_row _ _ _ _ _ _ HI.out.x, tabI_get _ _ (by rw [opTo_len]; exact hlt), opTo_get _ _ _ _ hlt, if_neg (by omega)]
      have cy : wr.cell? ⟨g + 1, k, none⟩ = some (.int .i64 (gI b k)) := by rw [cell_of_row _ _ _ _ _ _ HI.out.y, ← HYB.out, tabI_get _ _ (by rw [HBL.out]; exact hlt)]
      have cp : wr.cell? ⟨gp, k, none⟩ = some (.int .i64 (gI primeL k)) := by rw [cell_of_row _ _ _ _ _ _ HP.out, ← HRP.out, tabI_get _ _ hlt]
      have h3 := primeL_pr k hlt
      have fx : wr.frozen? ⟨g, k, none⟩ = false := by have := HI.out.x; simp [World.frozen?, this]
      have h1 := HAB.out k
      have h2 := HBB.out k
      obtain ⟨s, hs⟩ : ∃ s, gI a k + gI primeL k - gI b k = s := ⟨_, rfl⟩
      have HI2 : Hid (AddI w (wr.drew.setCell ⟨g, k, none⟩ (.int .i64 s)) g (tabI (opTo (fun i => gI a i + gI primeL i - gI b i) a (k + 1))) YB z0) := Lib.hid (by
        rw [← opTo_set (fun i => gI a i + gI primeL i - gI b i) a hlt, ← hs, ← tabI_set]
        exact (HI.out.drew).cell k _)
      have HP2 : Hid ((wr.drew.setCell ⟨g, k, none⟩ (.int .i64 s)).heap[gp]? = some (.cells RP 31 (0, 0))) := Lib.hid (by
        rw [setCell_eq_setRow wr.drew g k _ _ _ (.int .i64 s) HI.out.drew.x, setRow_other _ _ _ _ (by have := HGP.out; omega)]
        exact HP.out)
      generalize gI primeL k = t at *
      obtain ⟨q, hq⟩ : ∃ q, gI a k + t = q := ⟨_, rfl⟩
      rw [hq] at hs
      generalize gI a k = u at *
      generalize gI b k = v at *
      have f0 : IntKind.i64.wrap q = q := by rw [IntKind.wrap_i64]; omega
      have f1 : IntKind.i64.wrap s = s := by rw [IntKind.wrap_i64]; omega
      have p1 : 0 ≤ (k : Int) := by omega
      have p2 : (k : Int) < 16 := by omega
      clear HI HP h1 h2 h3
      go_wp2_with fail
      refine wp_region_still_tail 13 (by kernel_rfl) (by kernel_rfl) ?_
      simp only [List.take_succ_cons, List.take_zero, List.drop_succ_cons, List.drop_zero]
      iterate 13 still_step
      refine wpStill_nil ?_
      go_wp2_with fail
      go_roundw
      case rel => exact ⟨k + 1, by omega, by go_num, HI2, HP2⟩
      case measure => simp [intOf]; omega
    · obtain rfl : k = 16 := by omega
      rw [opTo_end] at HI
      have h1 := HI.out.x
      have s1 : (Try.prog.info? 31).map (·.size) = some (tabI ((List.range 16).map fun i => gI a i + gI primeL i - gI b i)).size := info_fe (by simp)
      generalize tabI ((List.range 16).map fun i => gI a i + gI primeL i - gI b i) = T1 at *
      go_wp2_with (refine wpList_load_row rfl 31 (.tmp 2) rfl g rfl 31 T1 (0, 0) _ h1 Try.underlying31 rfl s1 ?_)
      with_reducible refine (HNO.out _).mono ?_
      rintro e w2 ⟨rfl, hb2⟩
      have HI2 := HI.out.call hb2
      have h0 := HI2.z
      have HB := Lib.hid (show Below w.heap.size w (w2.setRow (g + 1 + 1) R) by rw [HG.out]; exact below_row HI2.below (by omega))
      clear hb2 HI HI2 h1
      go_wp2_with (refine wpList_store_row rfl 31 (.tmp 4) (.tmp 26) rfl (g + 1 + 1) R rfl rfl 31 z0 h0 iR zR oR ?_)
      (try simp only [Exit.inBlock, Exit.then])
      refine bodyPost_ret (results_cell_row rfl _ _ (g + 1 + 1) _ R _ _ rfl (setRow_heap _ _ _ _ _ _ h0) Try.underlying31 rfl iR) rfl ?_
      exact ⟨rfl, HB.out⟩

theorem dg_zero : dgN 16 0 = List.replicate 16 0 := by decide
set_option maxHeartbeats 800000 in
theorem rneg9_any (x : Int) (hx0 : 0 ≤ x) (hx : x < pP) (w : World) :
    Calls Try.prog 34 #[.agg (tabI (dgN 16 x))] w fun e w' => e = .returned (.agg (tabI (dgN 16 (-x % pP)))) ∧ Below w.heap.size w w' := by
  have hz := fun u => zero_fe u
  have HS : Hid (∀ W : World, Calls Try.prog 72 #[.agg (tabI (List.replicate 16 0)), .agg (tabI (dgN 16 x))] W fun e w' => e = .returned (.agg (tabI (dgN 16 (-x % pP)))) ∧ Below W.heap.size W w') := Lib.hid fun W => by
    have h := rsub9_any 0 x (by omega) (by decide) hx0 hx W
    rwa [dg_zero, Int.zero_sub] at h
  obtain ⟨z0, hz0e⟩ : ∃ t, tabI (List.replicate 16 0) = t := ⟨_, rfl⟩
  rw [hz0e] at hz HS
  have n0 : z0.size = 16 := by rw [← hz0e, tabI_size]; simp
  obtain ⟨X, hX⟩ : ∃ t, tabI (dgN 16 x) = t := ⟨_, rfl⟩
  have iX : (Try.prog.info? 31).map (·.size) = some X.size := by rw [← hX]; exact info_fe (dgN_len _ _)
  obtain ⟨R, hR⟩ : ∃ t, tabI (dgN 16 (-x % pP)) = t := ⟨_, rfl⟩
  have iR : (Try.prog.info? 31).map (·.size) = some R.size := by rw [← hR]; exact info_fe (dgN_len _ _)
  have zR : z0.size = R.size := by rw [n0, ← hR, tabI_size, dgN_len]
  have oR : R.all (·.oneCell') = true := by rw [← hR]; exact tabI_one _
  rw [hX, hR] at HS
  rw [hX, hR]
  have h0 : ((w.alloc (.cells X 31)).alloc (.cells z0 31)).heap[w.heap.size]? = some (.cells X 31 (0, 0)) := heap_alloc2_old _ _ _
  have h1 : ((w.alloc (.cells X 31)).alloc (.cells z0 31)).heap[w.heap.size + 1]? = some (.cells z0 31 (0, 0)) := heap_alloc2_new _ _ _
  have H1 := Lib.hid h1
  have HB : Hid (Below w.heap.size w ((w.alloc (.cells X 31)).alloc (.cells z0 31))) := Lib.hid (((Below.refl w.heap.size w).alloc (Nat.le_refl _) _).alloc (by simp) _)
  clear hz0e n0 hX hR h1
  go_enter Try.func34, Try.ntmps34
  go_wp2_with (refine wpList_load_row rfl 31 (.tmp 1) rfl w.heap.size rfl 31 X (0, 0) _ h0 Try.underlying31 rfl iX ?_)
  with_reducible refine (HS.out _).mono ?_
  rintro e w2 ⟨rfl, hb2⟩
  have h2 : w2.heap[w.heap.size + 1]? = some (.cells z0 31 (0, 0)) := by rw [hb2.block _ (by simp)]; exact H1.out
  have HBF := Lib.hid (below_row (cs := R) (g := w.heap.size + 1) (below_then HB.out hb2) (by omega))
  clear hb2 h0
  go_wp2_with (refine wpList_store_row rfl 31 (.tmp 2) (.tmp 5) rfl (w.heap.size + 1) R rfl rfl 31 z0 h2 iR zR oR ?_)
  (try simp only [Exit.inBlock, Exit.then])
  refine bodyPost_ret (results_cell_row rfl _ _ (w.heap.size + 1) _ R _ _ rfl (setRow_heap _ _ _ _ _ _ h2) Try.underlying31 rfl iR) rfl ?_
  exact ⟨rfl, HBF.out⟩
end Go.Proofs.Ytfejabfmhddepaa

