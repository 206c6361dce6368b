/- The contracts of the reference's Odd, Small. -/
import Derived.Test.YtlhnjdnkjgnooaaRefFe9D
namespace Go.Proofs.Ytlhnjdnkjgnooaa
open Go.RowKit
set_option linter.unusedVariables false
set_option maxRecDepth 100000

set_option maxHeartbeats 800000 in
theorem rodd9_any (x : Int) (w : World) : Calls Try.prog 19 #[.agg (tabI (dgN 16 x))] w fun e w' => e = .returned (.bool (x % 2 == 1)) ∧ Below w.heap.size w w' := by
  obtain ⟨d, hd⟩ : ∃ d, x % 65536 = d := ⟨_, rfl⟩
  have hdd : (x % 2 == 1) = (d % 2 == 1) := by
    have : x % 2 = d % 2 := by omega
    rw [this]
  have hd0 : 0 ≤ d := by omega
  have t1 : d.tmod 2 = d % 2 := Int.tmod_eq_emod_of_nonneg hd0
  have h0 : (w.alloc (.cells (tabI (dgN 16 x)) 29)).heap[w.heap.size]? = some (.cells (tabI (dgN 16 x)) 29 (0, 0)) := heap_alloc_new _ _
  have c0 : (w.alloc (.cells (tabI (dgN 16 x)) 29)).cell? ⟨w.heap.size, 0, none⟩ = some (.int .i64 d) := by
    rw [cell_of_row _ _ _ _ _ _ h0, tabI_get _ _ (by rw [dgN_len]; omega), dgN, gI_zero, hd]
  have HB := Lib.hid ((Below.refl w.heap.size w).alloc (Nat.le_refl _) (.cells (tabI (dgN 16 x)) 29))
  rw [hdd]
  generalize tabI (dgN 16 x) = X at *
  clear hd hdd h0
  go_enter Try.func19, Try.ntmps19
  go_wp2_with fail
  go_ret
  exact ⟨rfl, HB.out⟩

theorem u64_andM (q : Nat) (h : q < 18446744073709551616) : bits .and .u64 (q : Int) 65535 = ((q % 65536 : Nat) : Int) := by
  have h := bits_and_u64_nat q 65535 h (by omega)
  rw [show (65535 : Nat) = 2 ^ 16 - 1 by decide, Nat.and_two_pow_sub_one_eq_mod] at h
  exact h

/-- a small number's digits -/
def smallF (n : Nat) (i : Nat) : Int := if i < 4 then ((n / 65536 ^ i % 65536 : Nat) : Int) else 0
theorem small_dg (n : Nat) (h : n < 18446744073709551616) : opTo (smallF n) (List.replicate 16 0) 4 = dgN 16 (n : Int) := by
  have e : dgN 16 (n : Int) = dgN 16 (vL (opTo (smallF n) (List.replicate 16 0) 4)) := by
    congr 1
    have ho : opTo (smallF n) (List.replicate 16 0) 4 = [smallF n 0, smallF n 1, smallF n 2, smallF n 3, 0, 0, 0, 0, 0, 0, 0, 0, 0, 0, 0, 0] := rfl
    rw [ho]
    have s0 : smallF n 0 = ((n % 65536 : Nat) : Int) := by simp [smallF]
    have s1 : smallF n 1 = ((n / 65536 % 65536 : Nat) : Int) := by simp [smallF]
    have s2 : smallF n 2 = ((n / 4294967296 % 65536 : Nat) : Int) := by simp [smallF]
    have s3 : smallF n 3 = ((n / 281474976710656 % 65536 : Nat) : Int) := by simp [smallF]
    rw [s0, s1, s2, s3]
    simp only [vL]
    omega
  rw [e]
  have hl : (opTo (smallF n) (List.replicate 16 0) 4).length = 16 := opTo_len _ _ _
  have := dg_unique (opTo (smallF n) (List.replicate 16 0) 4) (fun i hi => by
    rw [hl] at hi
    rw [opTo_get _ _ _ _ hi]
    split
    · unfold smallF
      split <;> omega
    · have : gI (List.replicate 16 0) i = 0 := by
        simp only [gI, List.getD, List.getElem?_replicate]
        split <;> rfl
      omega)
  rw [hl] at this
  exact this

set_option maxHeartbeats 1600000 in
theorem rsmall9_any (n : Nat) (hn : n < 18446744073709551616) (w : World) : Calls Try.prog 15 #[.int .u64 (n : Int)] w fun e w' => e = .returned (.agg (tabI (dgN 16 (n : Int)))) ∧ Below w.heap.size w w' := by
  rw [← small_dg n hn]
  have hz := fun u => zero_fe u
  obtain ⟨t0, ht0⟩ : ∃ t, tabI (List.replicate 16 0) = t := ⟨_, rfl⟩
  rw [ht0] at hz
  have s0 : (Try.prog.info? 29).map (·.size) = some t0.size := by rw [← ht0]; exact info_fe (by simp)
  have o0 : t0.all (·.oneCell') = true := by rw [← ht0]; exact tabI_one _
  have n0 : t0.size = 16 := by rw [← ht0, tabI_size]; simp
  have h2 : ((w.alloc (.cells t0 29)).alloc (.cells t0 29)).heap[w.heap.size + 1]? = some (.cells t0 29 (0, 0)) := heap_alloc2_new _ _ _
  have h0 : ((w.alloc (.cells t0 29)).alloc (.cells t0 29)).heap[w.heap.size]? = some (.cells t0 29 (0, 0)) := heap_alloc2_old _ _ _
  obtain ⟨W1, hW1⟩ : ∃ W, ((w.alloc (.cells t0 29)).alloc (.cells t0 29)).setRow (w.heap.size + 1) t0 = W := ⟨_, rfl⟩
  obtain ⟨g, hg⟩ : ∃ g, w.heap.size = g := ⟨_, rfl⟩
  have b1 : W1.heap[g + 1]? = some (.cells (tabI (opTo (smallF n) (List.replicate 16 0) 0)) 29 (0, 0)) := by rw [← hW1, ← hg, opTo_zero _ (by simp), ht0]; exact setRow_heap _ _ _ _ _ _ h2
  have b0 : W1.heap[g]? = some (.cells t0 29 (0, 0)) := by rw [← hW1, ← hg, setRow_other _ _ _ _ (by omega)]; exact h0
  have bb : Below g w W1 := by rw [← hW1, ← hg]; exact below_row (((Below.refl w.heap.size w).alloc (Nat.le_refl _) _).alloc (by simp) _) (by omega)
  have HB1 := Lib.hid b1
  have HB0 := Lib.hid b0
  have HBE := Lib.hid bb
  have HG := Lib.hid hg
  have HW := Lib.hid hW1
  clear b1 b0 bb ht0 hW1 hg
  go_enter Try.func15, Try.ntmps15
  go_wp2_with (refine wpList_store_row rfl 29 (.tmp 3) (.tmp 5) rfl (w.heap.size + 1) t0 rfl rfl 29 t0 h2 s0 rfl o0 ?_)
  rw [HW.out, HG.out]
  clear h0 h2 HW
  go_loopw [4] (fun i wr => ∃ k : Nat, k ≤ 4 ∧ i = .int .i64 (k : Int) ∧ Hid (wr.heap[g]? = some (.cells t0 29 (0, 0))) ∧ Hid (wr.heap[g + 1]? = some (.cells (tabI (opTo (smallF n) (List.replicate 16 0) k)) 29 (0, 0))) ∧ Hid (Below g w wr)) (fun i _ => 4 - (intOf i).toNat)
  case atStart => exact ⟨0, by omega, rfl, HB0, HB1, HBE⟩
  case round =>
    clear HB0 HB1 HBE
    obtain ⟨k, hk, rfl, HB0, HB1, HBE⟩ := hrel
    by_cases hlt : k < 4
    · have hl : (opTo (smallF n) (List.replicate 16 0) k).length = 16 := opTo_len _ _ _
      have hck : wr.cell? ⟨g + 1, k, none⟩ = some (.int .i64 (gI (opTo (smallF n) (List.replicate 16 0) k) k)) := by rw [cell_of_row _ _ _ _ _ _ HB1.out, tabI_get _ _ (by omega)]
      have hfz : wr.frozen? ⟨g + 1, k, none⟩ = false := by have := HB1.out; simp [World.frozen?, this]
      obtain ⟨v, hv⟩ : ∃ v, smallF n k = v := ⟨_, rfl⟩
      have e := setCell_eq_setRow wr (g + 1) k _ _ _ (.int .i64 v) HB1.out
      have n1 : Hid ((wr.setCell ⟨g + 1, k, none⟩ (.int .i64 v)).heap[g]? = some (.cells t0 29 (0, 0))) := Lib.hid (by rw [e, setRow_other _ _ _ _ (by omega)]; exact HB0.out)
      have n2 : Hid ((wr.setCell ⟨g + 1, k, none⟩ (.int .i64 v)).heap[g + 1]? = some (.cells (tabI (opTo (smallF n) (List.replicate 16 0) (k + 1))) 29 (0, 0))) := Lib.hid (by
        rw [e, setRow_heap _ _ _ _ _ _ HB1.out, tabI_set, ← opTo_set (smallF n) _ (by omega), hv])
      have n3 : Hid (Below g w (wr.setCell ⟨g + 1, k, none⟩ (.int .i64 v))) := Lib.hid (HBE.out.setCell (p := ⟨g + 1, k, none⟩) (by show g ≤ g + 1; omega) _)
      generalize gI (opTo (smallF n) (List.replicate 16 0) k) k = old at *
      obtain ⟨s, hs⟩ : ∃ s, 16 * k = s := ⟨_, rfl⟩
      obtain ⟨q, hq⟩ : ∃ q, n / 2 ^ s = q := ⟨_, rfl⟩
      have hql : q < 18446744073709551616 := by rw [← hq]; exact Nat.lt_of_le_of_lt (Nat.div_le_self _ _) hn
      have hvq : v = ((q % 65536 : Nat) : Int) := by
        rw [← hv, ← hq, ← hs]
        unfold smallF
        rw [if_pos hlt, Nat.pow_mul]
      have f0 : (16 : Int) * (k : Int) = (s : Int) := by omega
      have f1 : IntKind.u64.wrap (s : Int) = (s : Int) := by rw [IntKind.wrap_u64]; omega
      have f2 : (n : Int) / 2 ^ s = (q : Int) := by rw [← hq]; simp
      have f3 : bits .and .u64 (q : Int) 65535 = v := by rw [u64_andM q hql, hvq]
      have f4 : IntKind.i64.wrap v = v := by rw [IntKind.wrap_i64, hvq]; omega
      have hs64 : s < 64 := by omega
      have p1 : 0 ≤ (k : Int) := by omega
      have p2 : (k : Int) < 16 := by omega
      clear e hl HB0 HB1 HBE hv hs hq hvq
      go_wp2_with fail
      go_roundw
      case rel => exact ⟨k + 1, by omega, by go_num, n1, n2, n3⟩
      case measure => simp [intOf]; omega
    · obtain rfl : k = 4 := by omega
      have h1 := HB1.out
      have h0 := HB0.out
      have hfl : (opTo (smallF n) (List.replicate 16 0) 4).length = 16 := opTo_len _ _ _
      have s1 : (Try.prog.info? 29).map (·.size) = some (tabI (opTo (smallF n) (List.replicate 16 0) 4)).size := info_fe hfl
      have sz : t0.size = (tabI (opTo (smallF n) (List.replicate 16 0) 4)).size := by rw [n0, tabI_size, hfl]
      have o1 := tabI_one (opTo (smallF n) (List.replicate 16 0) 4)
      have HB := Lib.hid (below_row (cs := tabI (opTo (smallF n) (List.replicate 16 0) 4)) HBE.out (Nat.le_refl g))
      obtain ⟨t1, ht1⟩ : ∃ t, tabI (opTo (smallF n) (List.replicate 16 0) 4) = t := ⟨_, rfl⟩
      rw [ht1] at h1 s1 sz o1 HB
      have HT1 := Lib.hid ht1
      clear ht1 hfl HB0 HB1 HBE
      go_wp2_with (first
        | (refine wpList_load_row rfl 29 (.tmp 3) rfl (g + 1) rfl 29 t1 (0, 0) _ h1 Try.underlying29 rfl s1 ?_)
        | (refine wpList_store_row rfl 29 (.tmp 2) (.tmp 19) rfl g t1 rfl rfl 29 t0 h0 s1 sz o1 ?_))
      (try simp only [Exit.inBlock, Exit.then])
      refine bodyPost_ret (results_cell_row rfl _ _ g _ t1 _ _ rfl (setRow_heap _ _ _ _ _ _ h0) Try.underlying29 rfl s1) rfl ?_
      exact ⟨by rw [HT1.out], by rw [HG.out]; exact HB.out⟩
end Go.Proofs.Ytlhnjdnkjgnooaa

