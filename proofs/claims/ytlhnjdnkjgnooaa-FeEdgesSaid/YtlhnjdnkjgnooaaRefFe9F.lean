/- The contracts of the reference's From, Bytes and Canonical. -/
import Derived.Test.YtlhnjdnkjgnooaaRefFe9E
import Derived.Test.YtlhnjdnkjgnooaaFeN
import Derived.Test.YtlhnjdnkjgnooaaArrB
namespace Go.Proofs.Ytlhnjdnkjgnooaa
open Go.RowKit
set_option linter.unusedVariables false
set_option maxRecDepth 100000

/-- three rows, one behind the other; the last one is written -/
structure Tri (t0 t1 t2 : TypeId) (w wr : World) (g : Nat) (X Y Z : Array Value) : Prop where
  x : wr.heap[g]? = some (.cells X t0 (0, 0))
  y : wr.heap[g + 1]? = some (.cells Y t1 (0, 0))
  z : wr.heap[g + 1 + 1]? = some (.cells Z t2 (0, 0))
  below : Below g w wr
section
variable {t0 t1 t2 : TypeId} {w wr W : World} {g : Nat} {X Y Z : Array Value}
theorem Tri.lt (h : Tri t0 t1 t2 w wr g X Y Z) : g + 1 + 1 < wr.heap.size := (Array.getElem?_eq_some_iff.1 h.z).1
theorem Tri.drew (h : Tri t0 t1 t2 w wr g X Y Z) : Tri t0 t1 t2 w wr.drew g X Y Z := ⟨h.x, h.y, h.z, h.below.drew⟩
theorem Tri.set (h : Tri t0 t1 t2 w wr g X Y Z) (k : Nat) (v : Value) : Tri t0 t1 t2 w (wr.setCell ⟨g + 1 + 1, k, none⟩ v) g X Y (Z.setIfInBounds k v) := by
  have e := setCell_eq_setRow wr (g + 1 + 1) k _ _ _ v h.z
  exact ⟨by rw [e, setRow_other _ _ _ _ (by omega)]; exact h.x, by rw [e, setRow_other _ _ _ _ (by omega)]; exact h.y, by rw [e, setRow_heap _ _ _ _ _ _ h.z], h.below.setCell (p := ⟨g + 1 + 1, k, none⟩) (by show g ≤ g + 1 + 1; omega) _⟩
theorem Tri.call (h : Tri t0 t1 t2 w wr g X Y Z) (hb : Below wr.heap.size wr W) : Tri t0 t1 t2 w W g X Y Z := by
  have hl := h.lt
  exact ⟨by rw [hb.block _ (by omega)]; exact h.x, by rw [hb.block _ (by omega)]; exact h.y, by rw [hb.block _ (by omega)]; exact h.z, h.below.trans (hb.mono (by omega))⟩
theorem tri_two (w : World) (X Y : Array Value) (t0 t1 : TypeId) : ((w.alloc (.cells X t0)).alloc (.cells Y t1)).heap.size = w.heap.size + 1 + 1 := by rw [World.size_alloc, World.size_alloc]
theorem tri_new (w : World) (X Y Z0 : Array Value) (t0 t1 t2 : TypeId) : (((w.alloc (.cells X t0)).alloc (.cells Y t1)).alloc (.cells Z0 t2)).heap[w.heap.size + 1 + 1]? = some (.cells Z0 t2 (0, 0)) := by
  rw [← tri_two w X Y t0 t1]; exact heap_alloc_new _ _
theorem tri_start (w : World) (X Y Z0 Z : Array Value) (t0 t1 t2 : TypeId) : Tri t0 t1 t2 w ((((w.alloc (.cells X t0)).alloc (.cells Y t1)).alloc (.cells Z0 t2)).setRow (w.heap.size + 1 + 1) Z) w.heap.size X Y Z := by
  refine ⟨?_, ?_, setRow_heap _ _ _ _ _ _ (tri_new w X Y Z0 t0 t1 t2), below_row ((((Below.refl w.heap.size w).alloc (Nat.le_refl _) _).alloc (by simp) _).alloc (by simp; omega) _) (by omega)⟩
  · rw [setRow_other _ _ _ _ (by omega), heap_alloc_old _ _ (by rw [World.size_alloc, World.size_alloc]; omega)]; exact heap_alloc2_old _ _ _
  · rw [setRow_other _ _ _ _ (by omega), heap_alloc_old _ _ (by rw [World.size_alloc, World.size_alloc]; omega)]; exact heap_alloc2_new _ _ _
theorem Tri.fz (h : Tri t0 t1 t2 w wr g X Y Z) (k : Nat) : wr.frozen? ⟨g + 1 + 1, k, none⟩ = false := by have := h.z; simp [World.frozen?, this]
end

set_option maxHeartbeats 1600000 in
theorem rfrom9_any (l : List UInt8) (hl : l.length = 32) (w : World) :
    Calls Try.prog 11 #[.agg (arrB l)] w fun e w' => e = .returned (.agg (tabI (dgN 16 (feN l : Int)))) ∧ Below w.heap.size w w' := by
  have hz := fun u => zero_fe u
  obtain ⟨z0, hz0e⟩ : ∃ t, tabI (List.replicate 16 0) = t := ⟨_, rfl⟩
  rw [hz0e] at hz
  have n0 : z0.size = 16 := by rw [← hz0e, tabI_size]; simp
  have s0 : (Try.prog.info? 29).map (·.size) = some z0.size := by rw [← hz0e]; exact info_fe (by simp)
  have o0 : z0.all (·.oneCell') = true := by rw [← hz0e]; exact tabI_one _
  have hval := digits_top hl
  have hbd : Bd 70368744177664 (((List.range 16).map (digitF l)).set 15 (digitF l 15 % 32768)) := fun i => by
    rw [gI_set _ _ _ _ (by simp)]
    by_cases e : 15 = i
    · rw [if_pos e]; omega
    · rw [if_neg e]
      by_cases hi : i < 16
      · rw [gI_range _ _ hi]; have := digitF_bd l i; omega
      · rw [gI_out (by simp; omega)]; omega
  have hlt : leN l % TT < TT := Nat.mod_lt _ (by decide)
  have HNO : Hid (∀ W : World, Calls Try.prog 31 #[.agg (tabI (((List.range 16).map (digitF l)).set 15 (digitF l 15 % 32768)))] W fun e w' => e = .returned (.agg (tabI (dgN 16 (feN l : Int)))) ∧ Below W.heap.size W w') := Lib.hid fun W => by
    have h := rnorm9_any _ (by simp) hbd (by rw [hval]; unfold P255; omega) (by rw [hval]; unfold P255 TT at *; omega) W
    rw [hval] at h
    rwa [show ((leN l % TT : Nat) : Int) % pP = (feN l : Int) by unfold feN pP PP; omega] at h
  obtain ⟨R, hR⟩ : ∃ R, tabI (dgN 16 (feN l : Int)) = R := ⟨_, rfl⟩
  have nR : R.size = 16 := by rw [← hR, tabI_size, dgN_len]
  have oR : R.all (·.oneCell') = true := by rw [← hR]; exact tabI_one _
  have iR : (Try.prog.info? 29).map (·.size) = some R.size := by rw [← hR]; exact info_fe (dgN_len _ _)
  have zR : z0.size = R.size := by rw [n0, nR]
  rw [hR] at HNO ⊢
  have HL := Lib.hid hl
  obtain ⟨BB, hBB⟩ : ∃ X, arrB l = X := ⟨_, rfl⟩
  have HBB := Lib.hid hBB
  rw [hBB]
  have h2 := tri_new w BB z0 z0 22 29 29
  have HI : Hid (Tri 22 29 29 w ((((w.alloc (.cells BB 22)).alloc (.cells z0 29)).alloc (.cells z0 29)).setRow (w.heap.size + 1 + 1) z0) w.heap.size BB z0 (tabI (opTo (digitF l) (List.replicate 16 0) 0))) := Lib.hid (by rw [opTo_zero _ (by simp), hz0e]; exact tri_start _ _ _ _ _ _ _ _)
  clear hz0e n0 hval hbd hlt hR nR hBB hl
  go_enter Try.func11, Try.ntmps11
  go_wp2_with (refine wpList_store_row rfl 29 (.tmp 3) (.tmp 5) rfl (w.heap.size + 1 + 1) z0 rfl rfl 29 z0 h2 s0 rfl o0 ?_)
  obtain ⟨W1, hW1⟩ : ∃ W, (((w.alloc (.cells BB 22)).alloc (.cells z0 29)).alloc (.cells z0 29)).setRow (w.heap.size + 1 + 1) z0 = W := ⟨_, rfl⟩
  obtain ⟨g, hg⟩ : ∃ g, w.heap.size = g := ⟨_, rfl⟩
  rw [hg] at hW1
  rw [hg, hW1] at HI
  rw [hg, hW1]
  have HG := Lib.hid hg
  clear hW1 hg h2
  go_loopw [4] (fun i wr => ∃ k : Nat, k ≤ 16 ∧ i = .int .i64 (k : Int) ∧ Hid (Tri 22 29 29 w wr g BB z0 (tabI (opTo (digitF l) (List.replicate 16 0) k)))) (fun i _ => 16 - (intOf i).toNat)
  case atStart => exact ⟨0, by omega, rfl, HI⟩
  case round =>
    clear HI
    obtain ⟨k, hk, rfl, HI⟩ := hrel
    by_cases hlt : k < 16
    · obtain ⟨j, hj⟩ : ∃ j, 2 * k = j := ⟨_, rfl⟩
      obtain ⟨j1, hj1⟩ : ∃ j1, j + 1 = j1 := ⟨_, rfl⟩
      obtain ⟨u, hu⟩ : ∃ u : Int, ((l.getD j 0).toNat : Int) = u := ⟨_, rfl⟩
      obtain ⟨v, hv⟩ : ∃ v : Int, ((l.getD j1 0).toNat : Int) = v := ⟨_, rfl⟩
      have cx : wr.cell? ⟨g, j, none⟩ = some (.int .u8 u) := by rw [cell_of_row _ _ _ _ _ _ HI.out.x, ← HBB.out, arrB_get _ _ (by rw [HL.out]; omega), hu]
      have cy : wr.cell? ⟨g, j1, none⟩ = some (.int .u8 v) := by rw [cell_of_row _ _ _ _ _ _ HI.out.x, ← HBB.out, arrB_get _ _ (by rw [HL.out]; omega), hv]
      have fx := HI.out.fz k
      have cz : wr.cell? ⟨g + 1 + 1, k, none⟩ = some (.int .i64 (gI (opTo (digitF l) (List.replicate 16 0) k) k)) := by rw [cell_of_row _ _ _ _ _ _ HI.out.z, tabI_get _ _ (by rw [opTo_len]; exact hlt)]
      have hub : 0 ≤ u ∧ u < 256 := by have := (l.getD j 0).toNat_lt; omega
      have hvb : 0 ≤ v ∧ v < 256 := by have := (l.getD j1 0).toNat_lt; omega
      obtain ⟨p, hp⟩ : ∃ p, 256 * v = p := ⟨_, rfl⟩
      obtain ⟨s, hs⟩ : ∃ s, u + p = s := ⟨_, rfl⟩
      have hds : digitF l k = s := by unfold digitF; rw [hj, hj1, hu, hv, hp, hs]
      have HI2 : Hid (Tri 22 29 29 w (wr.drew.setCell ⟨g + 1 + 1, k, none⟩ (.int .i64 s)) g BB z0 (tabI (opTo (digitF l) (List.replicate 16 0) (k + 1)))) := Lib.hid (by
        rw [← opTo_set (digitF l) _ hlt, hds, ← tabI_set]
        exact (HI.out.drew).set k _)
      generalize gI (opTo (digitF l) (List.replicate 16 0) k) k = old at *
      have f0 : (2 : Int) * (k : Int) = (j : Int) := by omega
      have f0' : IntKind.i64.wrap (j : Int) = (j : Int) := by rw [IntKind.wrap_i64]; omega
      have f1 : (j : Int) + 1 = (j1 : Int) := by omega
      have f1' : IntKind.i64.wrap (j1 : Int) = (j1 : Int) := by rw [IntKind.wrap_i64]; omega
      have f2' : IntKind.i64.wrap u = u := by rw [IntKind.wrap_i64]; omega
      have f3' : IntKind.i64.wrap v = v := by rw [IntKind.wrap_i64]; omega
      have f4' : IntKind.i64.wrap p = p := by rw [IntKind.wrap_i64]; omega
      have f5' : IntKind.i64.wrap s = s := by rw [IntKind.wrap_i64]; omega
      have b1 : 0 ≤ (j : Int) := by omega
      have b2 : (j : Int) < 32 := by omega
      have b3 : 0 ≤ (j1 : Int) := by omega
      have b4 : (j1 : Int) < 32 := by omega
      have b5 : 0 ≤ (k : Int) := by omega
      have b6 : (k : Int) < 16 := by omega
      clear HI hj hj1 hu hv hub hvb hds
      go_wp2_with fail
      refine wp_region_still_tail 15 (by kernel_rfl) (by kernel_rfl) ?_
      simp only [List.take_succ_cons, List.take_zero, List.drop_succ_cons, List.drop_zero]
      iterate 15 still_step
      refine wpStill_nil ?_
      go_wp2_with fail
      go_roundw
      case rel => exact ⟨k + 1, by omega, by go_num, HI2⟩
      case measure => simp [intOf]; omega
    · obtain rfl : k = 16 := by omega
      rw [opTo_end] at HI
      have cz : wr.cell? ⟨g + 1 + 1, 15, none⟩ = some (.int .i64 (digitF l 15)) := by rw [cell_of_row _ _ _ _ _ _ HI.out.z, tabI_get _ _ (by simp), gI_range _ _ (by omega)]
      have fx := HI.out.fz 15
      obtain ⟨d, hd⟩ : ∃ d, digitF l 15 = d := ⟨_, rfl⟩
      obtain ⟨m, hm⟩ : ∃ m, d % 32768 = m := ⟨_, rfl⟩
      have f1 : bits .and .i64 d 32767 = m := by rw [i64_and32767, hm]
      have HI2 : Hid (Tri 22 29 29 w (wr.setCell ⟨g + 1 + 1, 15, none⟩ (.int .i64 m)) g BB z0 (tabI (((List.range 16).map (digitF l)).set 15 (digitF l 15 % 32768)))) := Lib.hid (by
        rw [hd, hm, ← tabI_set]
        exact HI.out.set 15 _)
      rw [hd] at cz
      have h1 := HI2.out.z
      have s1 : (Try.prog.info? 29).map (·.size) = some (tabI (((List.range 16).map (digitF l)).set 15 (digitF l 15 % 32768))).size := info_fe (by simp)
      generalize tabI (((List.range 16).map (digitF l)).set 15 (digitF l 15 % 32768)) = T1 at *
      clear HI hd hm
      go_wp2_with (refine wpList_load_row rfl 29 (.tmp 3) rfl (g + 1 + 1) rfl 29 T1 (0, 0) _ h1 Try.underlying29 rfl s1 ?_)
      with_reducible refine (HNO.out _).mono ?_
      rintro e w2 ⟨rfl, hb2⟩
      have HI3 := HI2.out.call hb2
      have h0 := HI3.y
      have HB := Lib.hid (show Below w.heap.size w (w2.setRow (g + 1) R) by rw [HG.out]; exact below_row HI3.below (by omega))
      clear hb2 HI2 HI3 h1
      go_wp2_with (refine wpList_store_row rfl 29 (.tmp 2) (.tmp 30) rfl (g + 1) R rfl rfl 29 z0 h0 iR zR oR ?_)
      (try simp only [Exit.inBlock, Exit.then])
      refine bodyPost_ret (results_cell_row rfl _ _ (g + 1) _ R _ _ rfl (setRow_heap _ _ _ _ _ _ h0) Try.underlying29 rfl iR) rfl ?_
      exact ⟨rfl, HB.out⟩
end Go.Proofs.Ytlhnjdnkjgnooaa

