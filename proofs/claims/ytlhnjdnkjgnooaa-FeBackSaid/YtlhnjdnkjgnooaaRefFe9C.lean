/- The contracts of the reference's norm (by its number), Add, Sub, Neg, Odd. -/
import Derived.Test.YtlhnjdnkjgnooaaRefFe9B
namespace Go.Proofs.Ytlhnjdnkjgnooaa
open Go.RowKit
set_option linter.unusedVariables false
set_option maxRecDepth 100000

theorem fin_pr {l : List Int} (hb : Bd 70368744177664 l) (h : l.length = 16) (h1 : -(8 * P255) ≤ vL l) (h2 : vL l ≤ 35184372088832 * P255) : ∀ i, i < 16 → 0 ≤ gI (fin4 l) i ∧ gI (fin4 l) i < 65536 := by
  obtain ⟨v, e, -⟩ := fin4_is rfl hb h h1 h2
  rw [e]
  exact fun i hi => dgN_get 16 v i hi
theorem rnorm9_any (l : List Int) (hl : l.length = 16) (hb : Bd 70368744177664 l) (h1 : -(8 * P255) ≤ vL l) (h2 : vL l ≤ 35184372088832 * P255) (w : World) :
    Calls Try.prog 31 #[.agg (tabI l)] w fun e w' => e = .returned (.agg (tabI (dgN 16 (vL l % pP)))) ∧ Below w.heap.size w w' := by
  have h := rnormL_any l hl hb (fin_pr hb hl h1 h2) w
  rwa [norm_is rfl hb hl h1 h2] at h

theorem p16 : (65536 : Int) ^ 16 = 2 * P255 := by decide
theorem dg_val {x : Int} (h0 : 0 ≤ x) (h1 : x < pP) : vL (dgN 16 x) = x := vL_dgN 16 x h0 (by rw [p16]; unfold pP P255 at *; omega)
theorem dg_bd {x : Int} (i : Nat) : 0 ≤ gI (dgN 16 x) i ∧ gI (dgN 16 x) i < 65536 := by
  by_cases h : i < 16
  · exact dgN_get 16 x i h
  · rw [gI_out (by rw [dgN_len]; omega)]; omega
/-- sums, differences, digit by digit -/
theorem map_add_val (f g : Nat → Int) (a b : List Int) (ha : a.length = 16) (hb : b.length = 16) : vL ((List.range 16).map fun i => gI a i + gI b i) = vL a + vL b := by
  rw [vL_add, vL16 ha, vL16 hb]
theorem map_bd {f : Nat → Int} {B : Int} (hB : 0 ≤ B) (h : ∀ i, i < 16 → -B ≤ f i ∧ f i ≤ B) : Bd B ((List.range 16).map f) := fun i => by
  by_cases hi : i < 16
  · rw [gI_range _ _ hi]; exact h i hi
  · rw [gI_out (by simp; omega)]; omega

structure AddI (w wr : World) (g : Nat) (X Y z0 : Array Value) : Prop where
  x : wr.heap[g]? = some (.cells X 29 (0, 0))
  y : wr.heap[g + 1]? = some (.cells Y 29 (0, 0))
  z : wr.heap[g + 1 + 1]? = some (.cells z0 29 (0, 0))
  below : Below g w wr
theorem AddI.lt {w wr : World} {g : Nat} {X Y z0 : Array Value} (h : AddI w wr g X Y z0) : g + 1 + 1 < wr.heap.size := (Array.getElem?_eq_some_iff.1 h.z).1
theorem AddI.drew {w wr : World} {g : Nat} {X Y z0 : Array Value} (h : AddI w wr g X Y z0) : AddI w wr.drew g X Y z0 := ⟨h.x, h.y, h.z, h.below.drew⟩
theorem AddI.cell {w wr : World} {g : Nat} {X Y z0 : Array Value} (h : AddI w wr g X Y z0) (k : Nat) (v : Value) : AddI w (wr.setCell ⟨g, k, none⟩ v) g (X.setIfInBounds k v) Y z0 := by
  have e := setCell_eq_setRow wr g k _ _ _ v h.x
  exact ⟨by rw [e, setRow_heap _ _ _ _ _ _ h.x], by rw [e, setRow_other _ _ _ _ (by omega)]; exact h.y, by rw [e, setRow_other _ _ _ _ (by omega)]; exact h.z, h.below.setCell (p := ⟨g, k, none⟩) (Nat.le_refl _) _⟩
theorem AddI.call {w wr W : World} {g : Nat} {X Y z0 : Array Value} (h : AddI w wr g X Y z0) (hb : Below wr.heap.size wr W) : AddI w W g X Y z0 := by
  have hl := h.lt
  exact ⟨by rw [hb.block _ (by omega)]; exact h.x, by rw [hb.block _ (by omega)]; exact h.y, by rw [hb.block _ (by omega)]; exact h.z, h.below.trans (hb.mono (by omega))⟩
theorem AddI.row {w wr : World} {g : Nat} {X Y z0 : Array Value} (h : AddI w wr g X Y z0) (o : Obj) (M : Array Value) : AddI w ((wr.alloc o).setRow wr.heap.size M) g X Y z0 := by
  have hl := h.lt
  refine ⟨?_, ?_, ?_, below_row (h.below.alloc (by omega) _) (by omega)⟩
  · rw [setRow_other _ _ _ _ (by omega), heap_alloc_old _ _ (by omega)]; exact h.x
  · rw [setRow_other _ _ _ _ (by omega), heap_alloc_old _ _ (by omega)]; exact h.y
  · rw [setRow_other _ _ _ _ (by omega), heap_alloc_old _ _ (by omega)]; exact h.z
theorem addI_start (w : World) (X Y z0 : Array Value) : AddI w (((w.alloc (.cells X 29)).alloc (.cells Y 29)).alloc (.cells z0 29)) w.heap.size X Y z0 := by
  refine ⟨?_, ?_, ?_, (((Below.refl w.heap.size w).alloc (Nat.le_refl _) _).alloc (by simp) _).alloc (by simp; omega) _⟩
  · rw [heap_alloc_old _ _ (by rw [World.size_alloc, World.size_alloc]; omega)]; exact heap_alloc2_old _ _ _
  · rw [heap_alloc_old _ _ (by rw [World.size_alloc, World.size_alloc]; omega)]; exact heap_alloc2_new _ _ _
  · have := heap_alloc_new ((w.alloc (.cells X 29)).alloc (.cells Y 29)) (.cells z0 29)
    rwa [World.size_alloc, World.size_alloc] at this

set_option maxHeartbeats 1600000 in
theorem radd9_any (x y : Int) (hx0 : 0 ≤ x) (hx : x < pP) (hy0 : 0 ≤ y) (hy : y < pP) (w : World) :
    Calls Try.prog 22 #[.agg (tabI (dgN 16 x)), .agg (tabI (dgN 16 y))] w fun e w' => e = .returned (.agg (tabI (dgN 16 ((x + y) % pP)))) ∧ Below w.heap.size w w' := by
  have hz := fun u => zero_fe u
  obtain ⟨z0, hz0e⟩ : ∃ t, tabI (List.replicate 16 0) = t := ⟨_, rfl⟩
  rw [hz0e] at hz
  have n0 : z0.size = 16 := by rw [← hz0e, tabI_size]; simp
  obtain ⟨a, ha⟩ : ∃ a, dgN 16 x = a := ⟨_, rfl⟩
  obtain ⟨b, hb⟩ : ∃ b, dgN 16 y = b := ⟨_, rfl⟩
  have hal : a.length = 16 := by rw [← ha, dgN_len]
  have hbl : b.length = 16 := by rw [← hb, dgN_len]
  have hab : ∀ i, 0 ≤ gI a i ∧ gI a i < 65536 := by rw [← ha]; exact fun i => dg_bd i
  have hbb : ∀ i, 0 ≤ gI b i ∧ gI b i < 65536 := by rw [← hb]; exact fun i => dg_bd i
  have hsv : vL ((List.range 16).map fun i => gI a i + gI b i) = x + y := by rw [map_add_val (fun _ => 0) (fun _ => 0) a b hal hbl, ← ha, ← hb, dg_val hx0 hx, dg_val hy0 hy]
  have hsb : Bd 70368744177664 ((List.range 16).map fun i => gI a i + gI b i) := map_bd (by omega) (fun i hi => by have := hab i; have := hbb i; omega)
  have HNO : Hid (∀ W : World, Calls Try.prog 31 #[.agg (tabI ((List.range 16).map fun i => gI a i + gI b i))] W fun e w' => e = .returned (.agg (tabI (dgN 16 ((x + y) % pP)))) ∧ Below W.heap.size W w') := Lib.hid fun W => by
    have h := rnorm9_any _ (by simp) hsb (by rw [hsv]; unfold pP P255 at *; omega) (by rw [hsv]; unfold pP P255 at *; omega) W
    rwa [hsv] at h
  obtain ⟨R, hR⟩ : ∃ R, tabI (dgN 16 ((x + y) % pP)) = R := ⟨_, rfl⟩
  have nR : R.size = 16 := by rw [← hR, tabI_size, dgN_len]
  have oR : R.all (·.oneCell') = true := by rw [← hR]; exact tabI_one _
  have iR : (Try.prog.info? 29).map (·.size) = some R.size := by rw [← hR]; exact info_fe (dgN_len _ _)
  have zR : z0.size = R.size := by rw [n0, nR]
  rw [hR] at HNO ⊢
  rw [ha, hb]
  have HAL := Lib.hid hal
  have HBL := Lib.hid hbl
  have HAB := Lib.hid hab
  have HBB := Lib.hid hbb
  obtain ⟨XA, hXA⟩ : ∃ X, tabI a = X := ⟨_, rfl⟩
  obtain ⟨YB, hYB⟩ : ∃ X, tabI b = X := ⟨_, rfl⟩
  have HI : Hid (AddI w (((w.alloc (.cells XA 29)).alloc (.cells YB 29)).alloc (.cells z0 29)) w.heap.size (tabI (opTo (fun i => gI a i + gI b i) a 0)) YB z0) := Lib.hid (by rw [opTo_zero _ hal, hXA]; exact addI_start _ _ _ _)
  have HYB := Lib.hid hYB
  rw [hXA, hYB]
  clear hz0e n0 ha hb hal hbl hab hbb hsv hsb hR nR hXA hYB hx0 hx hy0 hy
  go_enter Try.func22, Try.ntmps22
  go_wp2_with fail
  obtain ⟨W1, hW1⟩ : ∃ W, ((w.alloc (.cells XA 29)).alloc (.cells YB 29)).alloc (.cells z0 29) = W := ⟨_, rfl⟩
  obtain ⟨g, hg⟩ : ∃ g, w.heap.size = g := ⟨_, rfl⟩
  rw [hW1, hg] at HI
  rw [hW1, hg]
  have HG := Lib.hid hg
  clear hW1 hg
  go_loopw [5] (fun i wr => ∃ k : Nat, k ≤ 16 ∧ i = .int .i64 (k : Int) ∧ Hid (AddI w wr g (tabI (opTo (fun i => gI a i + gI b i) a k)) YB z0)) (fun i _ => 16 - (intOf i).toNat)
  case atStart => exact ⟨0, by omega, rfl, HI⟩
  case round =>
    clear HI
    obtain ⟨k, hk, rfl, HI⟩ := hrel
    by_cases hlt : k < 16
    · have cx : wr.cell? ⟨g, k, none⟩ = some (.int .i64 (gI a k)) := by rw [cell_of_row _ _ _ _ _ _ HI.out.x, tabI_get _ _ (by rw [opTo_len]; exact hlt), opTo_get _ _ _ _ hlt, if_neg (by omega)]
      have cy : wr.cell? ⟨g + 1, k, none⟩ = some (.int .i64 (gI b k)) := by rw [cell_of_row _ _ _ _ _ _ HI.out.y, ← HYB.out, tabI_get _ _ (by rw [HBL.out]; exact hlt)]
      have fx : wr.frozen? ⟨g, k, none⟩ = false := by have := HI.out.x; simp [World.frozen?, this]
      have h1 := HAB.out k
      have h2 := HBB.out k
      obtain ⟨s, hs⟩ : ∃ s, gI a k + gI b k = s := ⟨_, rfl⟩
      have HI2 : Hid (AddI w (wr.drew.setCell ⟨g, k, none⟩ (.int .i64 s)) g (tabI (opTo (fun i => gI a i + gI b i) a (k + 1))) YB z0) := Lib.hid (by
        rw [← opTo_set (fun i => gI a i + gI b i) a hlt, ← hs, ← tabI_set]
        exact (HI.out.drew).cell k _)
      generalize gI a k = u at *
      generalize gI b k = v at *
      have f1 : IntKind.i64.wrap s = s := by rw [IntKind.wrap_i64]; omega
      have p1 : 0 ≤ (k : Int) := by omega
      have p2 : (k : Int) < 16 := by omega
      clear HI h1 h2
      go_wp2_with fail
      refine wp_region_still_tail 9 (by kernel_rfl) (by kernel_rfl) ?_
      simp only [List.take_succ_cons, List.take_zero, List.drop_succ_cons, List.drop_zero]
      iterate 9 still_step
      refine wpStill_nil ?_
      go_wp2_with fail
      go_roundw
      case rel => exact ⟨k + 1, by omega, by go_num, HI2⟩
      case measure => simp [intOf]; omega
    · obtain rfl : k = 16 := by omega
      rw [opTo_end] at HI
      have h1 := HI.out.x
      have s1 : (Try.prog.info? 29).map (·.size) = some (tabI ((List.range 16).map fun i => gI a i + gI b i)).size := info_fe (by simp)
      generalize tabI ((List.range 16).map fun i => gI a i + gI b i) = T1 at *
      go_wp2_with (refine wpList_load_row rfl 29 (.tmp 2) rfl g rfl 29 T1 (0, 0) _ h1 Try.underlying29 rfl s1 ?_)
      with_reducible refine (HNO.out _).mono ?_
      rintro e w2 ⟨rfl, hb2⟩
      have HI2 := HI.out.call hb2
      have h0 := HI2.z
      have HB := Lib.hid (show Below w.heap.size w (w2.setRow (g + 1 + 1) R) by rw [HG.out]; exact below_row HI2.below (by omega))
      clear hb2 HI HI2 h1
      go_wp2_with (refine wpList_store_row rfl 29 (.tmp 4) (.tmp 20) rfl (g + 1 + 1) R rfl rfl 29 z0 h0 iR zR oR ?_)
      (try simp only [Exit.inBlock, Exit.then])
      refine bodyPost_ret (results_cell_row rfl _ _ (g + 1 + 1) _ R _ _ rfl (setRow_heap _ _ _ _ _ _ h0) Try.underlying29 rfl iR) rfl ?_
      exact ⟨rfl, HB.out⟩

set_option maxHeartbeats 1600000 in
theorem rsub9_any (x y : Int) (hx0 : 0 ≤ x) (hx : x < pP) (hy0 : 0 ≤ y) (hy : y < pP) (w : World) :
    Calls Try.prog 24 #[.agg (tabI (dgN 16 x)), .agg (tabI (dgN 16 y))] w fun e w' => e = .returned (.agg (tabI (dgN 16 ((x - y) % pP)))) ∧ Below w.heap.size w w' := by
  have hz := fun u => zero_fe u
  obtain ⟨z0, hz0e⟩ : ∃ t, tabI (List.replicate 16 0) = t := ⟨_, rfl⟩
  rw [hz0e] at hz
  have n0 : z0.size = 16 := by rw [← hz0e, tabI_size]; simp
  obtain ⟨a, ha⟩ : ∃ a, dgN 16 x = a := ⟨_, rfl⟩
  obtain ⟨b, hb⟩ : ∃ b, dgN 16 y = b := ⟨_, rfl⟩
  have hal : a.length = 16 := by rw [← ha, dgN_len]
  have hbl : b.length = 16 := by rw [← hb, dgN_len]
  have hab : ∀ i, 0 ≤ gI a i ∧ gI a i < 65536 := by rw [← ha]; exact fun i => dg_bd i
  have hbb : ∀ i, 0 ≤ gI b i ∧ gI b i < 65536 := by rw [← hb]; exact fun i => dg_bd i
  have hsv : vL ((List.range 16).map fun i => gI a i + gI primeL i - gI b i) = x + pP - y := by
    have e1 := vL_add (fun i => gI a i + gI primeL i) (fun i => (-1) * gI b i) (List.range 16)
    rw [vL_mulc, map_add_val (fun _ => 0) (fun _ => 0) a primeL hal rfl, vL16 hbl, primeL_val, ← ha, ← hb, dg_val hx0 hx, dg_val hy0 hy] at e1
    rw [show (fun i => gI a i + gI primeL i - gI b i) = fun i => gI a i + gI primeL i + (-1) * gI b i from funext fun i => by omega, ← ha, ← hb, e1]
    omega
  have hsb : Bd 70368744177664 ((List.range 16).map fun i => gI a i + gI primeL i - gI b i) := map_bd (by omega) (fun i hi => by have := hab i; have := hbb i; have := primeL_pr i hi; omega)
  have HNO : Hid (∀ W : World, Calls Try.prog 31 #[.agg (tabI ((List.range 16).map fun i => gI a i + gI primeL i - gI b i))] W fun e w' => e = .returned (.agg (tabI (dgN 16 ((x - y) % pP)))) ∧ Below W.heap.size W w') := Lib.hid fun W => by
    have h := rnorm9_any _ (by simp) hsb (by rw [hsv]; unfold pP P255 at *; omega) (by rw [hsv]; unfold pP P255 at *; omega) W
    rw [hsv, show (x + pP - y) % pP = (x - y) % pP by unfold pP; omega] at h
    exact h
  obtain ⟨R, hR⟩ : ∃ R, tabI (dgN 16 ((x - y) % pP)) = R := ⟨_, rfl⟩
  have nR : R.size = 16 := by rw [← hR, tabI_size, dgN_len]
  have oR : R.all (·.oneCell') = true := by rw [← hR]; exact tabI_one _
  have iR : (Try.prog.info? 29).map (·.size) = some R.size := by rw [← hR]; exact info_fe (dgN_len _ _)
  have zR : z0.size = R.size := by rw [n0, nR]
  rw [hR] at HNO ⊢
  rw [ha, hb]
  have HPR : Hid (∀ W : World, Calls Try.prog 34 #[] W fun e w' => e = .returned (.agg (tabI primeL)) ∧ Below W.heap.size W w') := Lib.hid rprime9_any
  obtain ⟨RP, hRP⟩ : ∃ R, tabI primeL = R := ⟨_, rfl⟩
  have iP : (Try.prog.info? 29).map (·.size) = some RP.size := by rw [← hRP]; exact info_fe rfl
  have nP : z0.size = RP.size := by rw [n0, ← hRP, tabI_size]; rfl
  have oP : RP.all (·.oneCell') = true := by rw [← hRP]; exact tabI_one _
  rw [hRP] at HPR
  have HRP := Lib.hid hRP
  clear hRP
  have HAL := Lib.hid hal
  have HBL := Lib.hid hbl
  have HAB := Lib.hid hab
  have HBB := Lib.hid hbb
  obtain ⟨XA, hXA⟩ : ∃ X, tabI a = X := ⟨_, rfl⟩
  obtain ⟨YB, hYB⟩ : ∃ X, tabI b = X := ⟨_, rfl⟩
  have HI : Hid (AddI w (((w.alloc (.cells XA 29)).alloc (.cells YB 29)).alloc (.cells z0 29)) w.heap.size (tabI (opTo (fun i => gI a i + gI primeL i - gI b i) a 0)) YB z0) := Lib.hid (by rw [opTo_zero _ hal, hXA]; exact addI_start _ _ _ _)
  have HYB := Lib.hid hYB
  rw [hXA, hYB]
  clear hz0e n0 ha hb hal hbl hab hbb hsv hsb hR nR hXA hYB hx0 hx hy0 hy
  go_enter Try.func24, Try.ntmps24
  go_wp2_with fail
  obtain ⟨W1, hW1⟩ : ∃ W, ((w.alloc (.cells XA 29)).alloc (.cells YB 29)).alloc (.cells z0 29) = W := ⟨_, rfl⟩
  obtain ⟨g, hg⟩ : ∃ g, w.heap.size = g := ⟨_, rfl⟩
  rw [hW1, hg] at HI
  rw [hW1, hg]
  have HG := Lib.hid hg
  clear hW1 hg
  with_reducible refine (HPR.out _).mono ?_
  rintro e v3 ⟨rfl, hb3⟩
  have HI3 := Lib.hid (HI.out.call hb3)
  have hp0 : (v3.alloc (.cells z0 29)).heap[v3.heap.size]? = some (.cells z0 29 (0, 0)) := heap_alloc_new _ _
  have HI4 := Lib.hid (HI3.out.row (.cells z0 29) RP)
  have HP4 : Hid (((v3.alloc (.cells z0 29)).setRow v3.heap.size RP).heap[v3.heap.size]? = some (.cells RP 29 (0, 0))) := Lib.hid (setRow_heap _ _ _ _ _ _ hp0)
  have HGP : Hid (g + 1 + 1 < v3.heap.size) := Lib.hid HI3.out.lt
  clear hb3 HI HI3
  go_wp2_with (refine wpList_store_row rfl 29 (.tmp 5) (.tmp 7) rfl v3.heap.size RP rfl rfl 29 z0 hp0 iP nP oP ?_)
  obtain ⟨W5, hW5⟩ : ∃ W, (v3.alloc (.cells z0 29)).setRow v3.heap.size RP = W := ⟨_, rfl⟩
  obtain ⟨gp, hgp⟩ : ∃ q, v3.heap.size = q := ⟨_, rfl⟩
  rw [hW5] at HI4
  rw [hW5, hgp] at HP4
  rw [hgp] at HGP
  rw [hW5, hgp]
  clear hp0 hW5 hgp
  go_loopw [6] (fun i wr => ∃ k : Nat, k ≤ 16 ∧ i = .int .i64 (k : Int) ∧ Hid (AddI w wr g (tabI (opTo (fun i => gI a i + gI primeL i - gI b i) a k)) YB z0) ∧ Hid (wr.heap[gp]? = some (.cells RP 29 (0, 0)))) (fun i _ => 16 - (intOf i).toNat)
  case atStart => exact ⟨0, by omega, rfl, HI4, HP4⟩
  case round =>
    clear HI4 HP4
    obtain ⟨k, hk, rfl, HI, HP⟩ := hrel
    by_cases hlt : k < 16
    · have cx : wr.cell? ⟨g, k, none⟩ = some (.int .i64 (gI a k)) := by rw [cell_of_row _ _ _ _ _ _ HI.out.x, tabI_get _ _ (by rw [opTo_len]; exact hlt), opTo_get _ _ _ _ hlt, if_neg (by omega)]
      have cy : wr.cell? ⟨g + 1, k, none⟩ = some (.int .i64 (gI b k)) := by rw [cell_of_row _ _ _ _ _ _ HI.out.y, ← HYB.out, tabI_get _ _ (by rw [HBL.out]; exact hlt)]
      have cp : wr.cell? ⟨gp, k, none⟩ = some (.int .i64 (gI primeL k)) := by rw [cell_of_row _ _ _ _ _ _ HP.out, ← HRP.out, tabI_get _ _ hlt]
      have h3 := primeL_pr k hlt
      have fx : wr.frozen? ⟨g, k, none⟩ = false := by have := HI.out.x; simp [World.frozen?, this]
      have h1 := HAB.out k
      have h2 := HBB.out k
      obtain ⟨s, hs⟩ : ∃ s, gI a k + gI primeL k - gI b k = s := ⟨_, rfl⟩
      have HI2 : Hid (AddI w (wr.drew.setCell ⟨g, k, none⟩ (.int .i64 s)) g (tabI (opTo (fun i => gI a i + gI primeL i - gI b i) a (k + 1))) YB z0) := Lib.hid (by
        rw [← opTo_set (fun i => gI a i + gI primeL i - gI b i) a hlt, ← hs, ← tabI_set]
        exact (HI.out.drew).cell k _)
      have HP2 : Hid ((wr.drew.setCell ⟨g, k, none⟩ (.int .i64 s)).heap[gp]? = some (.cells RP 29 (0, 0))) := Lib.hid (by
        rw [setCell_eq_setRow wr.drew g k _ _ _ (.int .i64 s) HI.out.drew.x, setRow_other _ _ _ _ (by have := HGP.out; omega)]
        exact HP.out)
      generalize gI primeL k = t at *
      obtain ⟨q, hq⟩ : ∃ q, gI a k + t = q := ⟨_, rfl⟩
      rw [hq] at hs
      generalize gI a k = u at *
      generalize gI b k = v at *
      have f0 : IntKind.i64.wrap q = q := by rw [IntKind.wrap_i64]; omega
      have f1 : IntKind.i64.wrap s = s := by rw [IntKind.wrap_i64]; omega
      have p1 : 0 ≤ (k : Int) := by omega
      have p2 : (k : Int) < 16 := by omega
      clear HI HP h1 h2 h3
      go_wp2_with fail
      refine wp_region_still_tail 13 (by kernel_rfl) (by kernel_rfl) ?_
      simp only [List.take_succ_cons, List.take_zero, List.drop_succ_cons, List.drop_zero]
      iterate 13 still_step
      refine wpStill_nil ?_
      go_wp2_with fail
      go_roundw
      case rel => exact ⟨k + 1, by omega, by go_num, HI2, HP2⟩
      case measure => simp [intOf]; omega
    · obtain rfl : k = 16 := by omega
      rw [opTo_end] at HI
      have h1 := HI.out.x
      have s1 : (Try.prog.info? 29).map (·.size) = some (tabI ((List.range 16).map fun i => gI a i + gI primeL i - gI b i)).size := info_fe (by simp)
      generalize tabI ((List.range 16).map fun i => gI a i + gI primeL i - gI b i) = T1 at *
      go_wp2_with (refine wpList_load_row rfl 29 (.tmp 2) rfl g rfl 29 T1 (0, 0) _ h1 Try.underlying29 rfl s1 ?_)
      with_reducible refine (HNO.out _).mono ?_
      rintro e w2 ⟨rfl, hb2⟩
      have HI2 := HI.out.call hb2
      have h0 := HI2.z
      have HB := Lib.hid (show Below w.heap.size w (w2.setRow (g + 1 + 1) R) by rw [HG.out]; exact below_row HI2.below (by omega))
      clear hb2 HI HI2 h1
      go_wp2_with (refine wpList_store_row rfl 29 (.tmp 4) (.tmp 26) rfl (g + 1 + 1) R rfl rfl 29 z0 h0 iR zR oR ?_)
      (try simp only [Exit.inBlock, Exit.then])
      refine bodyPost_ret (results_cell_row rfl _ _ (g + 1 + 1) _ R _ _ rfl (setRow_heap _ _ _ _ _ _ h0) Try.underlying29 rfl iR) rfl ?_
      exact ⟨rfl, HB.out⟩

theorem dg_zero : dgN 16 0 = List.replicate 16 0 := by decide
set_option maxHeartbeats 800000 in
theorem rneg9_any (x : Int) (hx0 : 0 ≤ x) (hx : x < pP) (w : World) :
    Calls Try.prog 29 #[.agg (tabI (dgN 16 x))] w fun e w' => e = .returned (.agg (tabI (dgN 16 (-x % pP)))) ∧ Below w.heap.size w w' := by
  have hz := fun u => zero_fe u
  have HS : Hid (∀ W : World, Calls Try.prog 24 #[.agg (tabI (List.replicate 16 0)), .agg (tabI (dgN 16 x))] W fun e w' => e = .returned (.agg (tabI (dgN 16 (-x % pP)))) ∧ Below W.heap.size W w') := Lib.hid fun W => by
    have h := rsub9_any 0 x (by omega) (by decide) hx0 hx W
    rwa [dg_zero, Int.zero_sub] at h
  obtain ⟨z0, hz0e⟩ : ∃ t, tabI (List.replicate 16 0) = t := ⟨_, rfl⟩
  rw [hz0e] at hz HS
  have n0 : z0.size = 16 := by rw [← hz0e, tabI_size]; simp
  obtain ⟨X, hX⟩ : ∃ t, tabI (dgN 16 x) = t := ⟨_, rfl⟩
  have iX : (Try.prog.info? 29).map (·.size) = some X.size := by rw [← hX]; exact info_fe (dgN_len _ _)
  obtain ⟨R, hR⟩ : ∃ t, tabI (dgN 16 (-x % pP)) = t := ⟨_, rfl⟩
  have iR : (Try.prog.info? 29).map (·.size) = some R.size := by rw [← hR]; exact info_fe (dgN_len _ _)
  have zR : z0.size = R.size := by rw [n0, ← hR, tabI_size, dgN_len]
  have oR : R.all (·.oneCell') = true := by rw [← hR]; exact tabI_one _
  rw [hX, hR] at HS
  rw [hX, hR]
  have h0 : ((w.alloc (.cells X 29)).alloc (.cells z0 29)).heap[w.heap.size]? = some (.cells X 29 (0, 0)) := heap_alloc2_old _ _ _
  have h1 : ((w.alloc (.cells X 29)).alloc (.cells z0 29)).heap[w.heap.size + 1]? = some (.cells z0 29 (0, 0)) := heap_alloc2_new _ _ _
  have H1 := Lib.hid h1
  have HB : Hid (Below w.heap.size w ((w.alloc (.cells X 29)).alloc (.cells z0 29))) := Lib.hid (((Below.refl w.heap.size w).alloc (Nat.le_refl _) _).alloc (by simp) _)
  clear hz0e n0 hX hR h1
  go_enter Try.func29, Try.ntmps29
  go_wp2_with (refine wpList_load_row rfl 29 (.tmp 1) rfl w.heap.size rfl 29 X (0, 0) _ h0 Try.underlying29 rfl iX ?_)
  with_reducible refine (HS.out _).mono ?_
  rintro e w2 ⟨rfl, hb2⟩
  have h2 : w2.heap[w.heap.size + 1]? = some (.cells z0 29 (0, 0)) := by rw [hb2.block _ (by simp)]; exact H1.out
  have HBF := Lib.hid (below_row (cs := R) (g := w.heap.size + 1) (below_then HB.out hb2) (by omega))
  clear hb2 h0
  go_wp2_with (refine wpList_store_row rfl 29 (.tmp 2) (.tmp 5) rfl (w.heap.size + 1) R rfl rfl 29 z0 h2 iR zR oR ?_)
  (try simp only [Exit.inBlock, Exit.then])
  refine bodyPost_ret (results_cell_row rfl _ _ (w.heap.size + 1) _ R _ _ rfl (setRow_heap _ _ _ _ _ _ h2) Try.underlying29 rfl iR) rfl ?_
  exact ⟨rfl, HBF.out⟩
end Go.Proofs.Ytlhnjdnkjgnooaa

