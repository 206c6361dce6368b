/- The contract of the developers' From. -/
import Derived.Test.YtlhnjdnkjgnooaaFeB
import Derived.Test.YtlhnjdnkjgnooaaFeW
namespace Go.Proofs.Ytlhnjdnkjgnooaa
open Go.RowKit
set_option linter.unusedVariables false
set_option maxRecDepth 100000

set_option maxHeartbeats 3200000 in
theorem fefrom_any (l : List UInt8) (hl : l.length = 32) (w : World) : Calls Try.prog 10 #[.agg (arrB l)] w (RetFe feR w (feN l)) := by
  have hz4 := fun u => zero_arr 48 #[.int .u64 0, .int .u64 0, .int .u64 0, .int .u64 0] 4 (by kernel_rfl) u
  have HX : Hid (∀ k : Nat, k < 32 → ∀ u, (Instr.index 22 (.agg (arrB l)) (.int .i64 (k : Int))).run Try.prog u = .ok (.int .u8 ((l.getD k 0).toNat : Int)) u) := Lib.hid fun k hk u => arr_at hl k hk u
  have iB := arr32_info hl
  have HL := Lib.hid hl
  obtain ⟨BB, hBB⟩ : ∃ X, arrB l = X := ⟨_, rfl⟩
  rw [hBB] at HX iB ⊢
  have hI : Tri 22 26 48 w (((w.alloc (.cells BB 22)).alloc (.cells #[.int .u64 0, .int .u64 0, .int .u64 0, .int .u64 0, .int .u64 0] 26)).alloc (.cells #[.int .u64 0, .int .u64 0, .int .u64 0, .int .u64 0] 48)) w.heap.size BB #[.int .u64 0, .int .u64 0, .int .u64 0, .int .u64 0, .int .u64 0] (wdA (leN (l.take 0))) := by
    refine ⟨?_, ?_, ?_, ((((Below.refl w.heap.size w).alloc (Nat.le_refl _) _).alloc (by simp) _).alloc (by simp; omega) _)⟩
    · rw [heap_alloc_old _ _ (by rw [World.size_alloc, World.size_alloc]; omega)]; exact heap_alloc2_old _ _ _
    · rw [heap_alloc_old _ _ (by rw [World.size_alloc, World.size_alloc]; omega)]; exact heap_alloc2_new _ _ _
    · have h := tri_new w BB #[.int .u64 0, .int .u64 0, .int .u64 0, .int .u64 0, .int .u64 0] #[.int .u64 0, .int .u64 0, .int .u64 0, .int .u64 0] 22 26 48
      rw [show wdA (leN (l.take 0)) = #[.int .u64 0, .int .u64 0, .int .u64 0, .int .u64 0] by rw [List.take_zero]; exact wdA_zero]
      exact h
  have hrb : (((w.alloc (.cells BB 22)).alloc (.cells #[.int .u64 0, .int .u64 0, .int .u64 0, .int .u64 0, .int .u64 0] 26)).alloc (.cells #[.int .u64 0, .int .u64 0, .int .u64 0, .int .u64 0] 48)).heap[w.heap.size]? = some (.cells BB 22 (0, 0)) := hI.x
  have HI := Lib.hid hI
  clear hI hBB hl
  go_enter Try.func10, Try.ntmps10
  go_wp2_with (refine wpList_load_row rfl 22 (.tmp 1) rfl w.heap.size rfl 22 BB (0, 0) _ hrb Try.underlying22 rfl iB ?_)
  obtain ⟨W1, hW1⟩ : ∃ W, ((w.alloc (.cells BB 22)).alloc (.cells #[.int .u64 0, .int .u64 0, .int .u64 0, .int .u64 0, .int .u64 0] 26)).alloc (.cells #[.int .u64 0, .int .u64 0, .int .u64 0, .int .u64 0] 48) = W := ⟨_, rfl⟩
  obtain ⟨g, hg⟩ : ∃ g, w.heap.size = g := ⟨_, rfl⟩
  rw [hg, hW1] at HI
  rw [hg, hW1]
  have HG := Lib.hid hg
  clear hW1 hg hrb
  go_loopw [7] (fun i wr => ∃ k : Nat, k ≤ 32 ∧ i = .int .i64 (k : Int) ∧ Hid (Tri 22 26 48 w wr g BB #[.int .u64 0, .int .u64 0, .int .u64 0, .int .u64 0, .int .u64 0] (wdA (leN (l.take k))))) (fun i _ => 32 - (intOf i).toNat)
  case atStart => exact ⟨0, by omega, rfl, HI⟩
  case round =>
    clear HI
    obtain ⟨k, hk, rfl, HI⟩ := hrel
    by_cases hlt : k < 32
    · have hx := HX.out k hlt
      obtain ⟨b, hb⟩ : ∃ b, (l.getD k 0).toNat = b := ⟨_, rfl⟩
      have hbl : b < 256 := by rw [← hb]; exact (l.getD k 0).toNat_lt
      obtain ⟨n, hn⟩ : ∃ n, leN (l.take k) = n := ⟨_, rfl⟩
      have hnl : n < 256 ^ k := by rw [← hn]; exact leN_take_lt l k (by rw [HL.out]; omega)
      have hn1 : leN (l.take (k + 1)) = n + b * 256 ^ k := by rw [leN_take l k (by rw [HL.out]; omega), hn, hb]
      obtain ⟨s1, s2, s3, s4⟩ := word_step n b k hlt hnl hbl
      have hd4 : k / 8 < 4 := by omega
      rw [hn] at HI
      rw [hb] at hx
      obtain ⟨d, hd⟩ : ∃ d, k / 8 = d := ⟨_, rfl⟩
      obtain ⟨r, hr⟩ : ∃ r, k % 8 = r := ⟨_, rfl⟩
      obtain ⟨e, he⟩ : ∃ e, r * 8 = e := ⟨_, rfl⟩
      rw [hd, hr, he] at s1 s3
      rw [hr, he] at s2
      rw [hd] at s4
      rw [hd] at hd4
      have hel : e < 57 := by omega
      have hs4 := wdA_set n (n + b * 256 ^ k) d hd4 (fun j hj hne => s4 j hj hne)
      rw [s3] at hs4
      have cz : wr.cell? ⟨g + 1 + 1, d, none⟩ = some (.int .u64 (wq n d : Int)) := by rw [cell_of_row _ _ _ _ _ _ HI.out.z, wdA_get _ _ hd4]
      have fx := HI.out.fz d
      have hw := wq_lt n d
      have f7 := or_low (wq n d) b e s1 hw s2
      have HI2 : Hid (Tri 22 26 48 w (wr.drew.setCell ⟨g + 1 + 1, d, none⟩ (.int .u64 ((wq n d + 2 ^ e * b : Nat) : Int))) g BB #[.int .u64 0, .int .u64 0, .int .u64 0, .int .u64 0, .int .u64 0] (wdA (leN (l.take (k + 1))))) := Lib.hid (by
        rw [hn1, ← hs4]
        exact (HI.out.drew).set d _)
      have f6 : IntKind.u64.wrap ((b : Int) * 2 ^ e) = ((2 ^ e * b : Nat) : Int) := by
        rw [IntKind.wrap_u64, show (b : Int) * 2 ^ e = ((2 ^ e * b : Nat) : Int) by rw [Int.natCast_mul, Int.mul_comm]; simp]
        unfold Q64 at s2
        omega
      generalize 2 ^ e * b = m at *
      obtain ⟨o, ho⟩ : ∃ o, wq n d + m = o := ⟨_, rfl⟩
      rw [ho] at f7 HI2
      generalize wq n d = q at *
      have f1 : (k : Int).tdiv 8 = (d : Int) := by rw [Int.tdiv_eq_ediv_of_nonneg (by omega)]; omega
      have f1' : (k : Int) / 8 = (d : Int) := by omega
      have f2 : IntKind.i64.wrap (d : Int) = (d : Int) := by rw [IntKind.wrap_i64]; omega
      have f3 : (k : Int).tmod 8 = (r : Int) := by rw [Int.tmod_eq_emod_of_nonneg (by omega)]; omega
      have f3' : (k : Int) % 8 = (r : Int) := by omega
      have f4 : (r : Int) * 8 = (e : Int) := by omega
      have f5 : IntKind.i64.wrap (e : Int) = (e : Int) := by rw [IntKind.wrap_i64]; omega
      have f8 : IntKind.u64.wrap (b : Int) = (b : Int) := by rw [IntKind.wrap_u64]; omega
      have b1 : 0 ≤ (d : Int) := by omega
      have b2 : (d : Int) < 4 := by omega
      have b3 : 0 ≤ (e : Int) := by omega
      have b5 : 0 ≤ (k : Int) := by omega
      have b6 : (k : Int) < 32 := by omega
      clear HI hb hbl hn hnl hn1 s1 s2 s3 s4 hd hr he hs4 hw ho
      go_wp2_with fail
      refine wp_region_still_tail 11 (by kernel_rfl) (by kernel_rfl) ?_
      simp only [List.take_succ_cons, List.take_zero, List.drop_succ_cons, List.drop_zero]
      iterate 11 still_step
      refine wpStill_nil ?_
      go_wp2_with fail
      go_roundw
      case rel => exact ⟨k + 1, by omega, by go_num, HI2⟩
      case measure => simp [intOf]; omega
    · obtain rfl : k = 32 := by omega
      have hV : l.take 32 = l := List.take_of_length_le (by rw [HL.out]; omega)
      rw [hV] at HI
      have hVl : leN l < 256 ^ 32 := by have := leN_lt l; rwa [HL.out] at this
      have hbits : val5 (leN l % M51) (leN l / M51 % M51) (leN l / M102 % M51) (leN l / M153 % M51) (leN l / M204 % M51) % PP = feN l := by rw [val5_bits]; rfl
      generalize leN l = V at *
      obtain ⟨t0, t1, t2, t3, t4⟩ := from_limbs V hVl
      have c0 : wr.cell? ⟨g + 1 + 1, 0, none⟩ = some (.int .u64 (wq V 0 : Int)) := by rw [cell_of_row _ _ _ _ _ _ HI.out.z]; rfl
      have c1 : wr.cell? ⟨g + 1 + 1, 1, none⟩ = some (.int .u64 (wq V 1 : Int)) := by rw [cell_of_row _ _ _ _ _ _ HI.out.z]; rfl
      have c2 : wr.cell? ⟨g + 1 + 1, 2, none⟩ = some (.int .u64 (wq V 2 : Int)) := by rw [cell_of_row _ _ _ _ _ _ HI.out.z]; rfl
      have c3 : wr.cell? ⟨g + 1 + 1, 3, none⟩ = some (.int .u64 (wq V 3 : Int)) := by rw [cell_of_row _ _ _ _ _ _ HI.out.z]; rfl
      have w0 := wq_lt V 0
      have w1 := wq_lt V 1
      have w2 := wq_lt V 2
      have w3 := wq_lt V 3
      have hm := fun y : Nat => Nat.mod_lt y (show M51 > 0 by decide)
      have hR : feR (limb5 (V % M51) (V / M51 % M51) (V / M102 % M51) (V / M153 % M51) (V / M204 % M51)) (feN l) := ⟨_, _, _, _, _, rfl, by have := hm V; unfold L51; unfold M51 at *; omega, by have := hm (V / M51); unfold L51; unfold M51 at *; omega, by have := hm (V / M102); unfold L51; unfold M51 at *; omega, by have := hm (V / M153); unfold L51; unfold M51 at *; omega, by have := hm (V / M204); unfold L51; unfold M51 at *; omega, hbits⟩
      rw [← t0, ← t1, ← t2, ← t3, ← t4] at hR
      unfold Q64 at w0 w1 w2 w3
      unfold M51 at hR
      have HP : Hid (∀ c w', c = #[.int .u64 ((wq V 0 % 2251799813685248 : Nat) : Int), .int .u64 (((wq V 0 / 2251799813685248 + 2 ^ 13 * (wq V 1 % 2251799813685248)) % 2251799813685248 : Nat) : Int), .int .u64 (((wq V 1 / 274877906944 + 2 ^ 26 * (wq V 2 % 274877906944)) % 2251799813685248 : Nat) : Int), .int .u64 (((wq V 2 / 33554432 + 2 ^ 39 * (wq V 3 % 33554432)) % 2251799813685248 : Nat) : Int), .int .u64 ((wq V 3 / 4096 % 2251799813685248 : Nat) : Int)] →
          Below w.heap.size w w' → RetFe feR w (feN l) (.returned (.agg c)) w') := Lib.hid fun c w' e hb => ⟨c, rfl, by rw [e]; exact hR, hb⟩
      clear hR t0 t1 t2 t3 t4 hm hbits hVl hV
      generalize wq V 0 = p0 at *
      generalize wq V 1 = p1 at *
      generalize wq V 2 = p2 at *
      generalize wq V 3 = p3 at *
      have e1 := or_low (p0 / 2251799813685248) (p1 % 2251799813685248) 13 (by omega) (by omega) (by omega)
      have e2 := or_low (p1 / 274877906944) (p2 % 274877906944) 26 (by omega) (by omega) (by omega)
      have e3 := or_low (p2 / 33554432) (p3 % 33554432) 39 (by omega) (by omega) (by omega)
      have d1 : (p0 : Int) / 2251799813685248 = ((p0 / 2251799813685248 : Nat) : Int) := by omega
      have d2 : (p1 : Int) / 274877906944 = ((p1 / 274877906944 : Nat) : Int) := by omega
      have d3 : (p2 : Int) / 33554432 = ((p2 / 33554432 : Nat) : Int) := by omega
      have d4 : (p3 : Int) / 4096 = ((p3 / 4096 : Nat) : Int) := by omega
      have m1 : IntKind.u64.wrap ((p1 : Int) * 8192) = ((2 ^ 13 * (p1 % 2251799813685248) : Nat) : Int) := by rw [IntKind.wrap_u64]; omega
      have m2 : IntKind.u64.wrap ((p2 : Int) * 67108864) = ((2 ^ 26 * (p2 % 274877906944) : Nat) : Int) := by rw [IntKind.wrap_u64]; omega
      have m3 : IntKind.u64.wrap ((p3 : Int) * 549755813888) = ((2 ^ 39 * (p3 % 33554432) : Nat) : Int) := by rw [IntKind.wrap_u64]; omega
      have k1 : p0 / 2251799813685248 + 2 ^ 13 * (p1 % 2251799813685248) < 18446744073709551616 := by omega
      have k2 : p1 / 274877906944 + 2 ^ 26 * (p2 % 274877906944) < 18446744073709551616 := by omega
      have k3 : p2 / 33554432 + 2 ^ 39 * (p3 % 33554432) < 18446744073709551616 := by omega
      have k4 : p3 / 4096 < 18446744073709551616 := by omega
      have a0 := and51 p0 w0
      have a1 := and51 _ k1
      have a2 := and51 _ k2
      have a3 := and51 _ k3
      have a4 := and51 _ k4
      generalize (p0 / 2251799813685248 + 2 ^ 13 * (p1 % 2251799813685248)) = j1 at *
      generalize (p1 / 274877906944 + 2 ^ 26 * (p2 % 274877906944)) = j2 at *
      generalize (p2 / 33554432 + 2 ^ 39 * (p3 % 33554432)) = j3 at *
      generalize 2 ^ 13 * (p1 % 2251799813685248) = s1 at *
      generalize 2 ^ 26 * (p2 % 274877906944) = s2 at *
      generalize 2 ^ 39 * (p3 % 33554432) = s3 at *
      generalize p0 / 2251799813685248 = h1 at *
      generalize p1 / 274877906944 = h2 at *
      generalize p2 / 33554432 = h3 at *
      generalize p3 / 4096 = h4 at *
      generalize p0 % 2251799813685248 = r0 at *
      generalize j1 % 2251799813685248 = r1 at *
      generalize j2 % 2251799813685248 = r2 at *
      generalize j3 % 2251799813685248 = r3 at *
      generalize h4 % 2251799813685248 = r4 at *
      have hr := HI.out.y
      have HB : Hid (Below w.heap.size w wr) := Lib.hid (by rw [HG.out]; exact HI.out.below)
      have sS : (#[.int .u64 0, .int .u64 0, .int .u64 0, .int .u64 0, .int .u64 0] : Array Value).size = (#[.int .u64 (r0 : Int), .int .u64 (r1 : Int), .int .u64 (r2 : Int), .int .u64 (r3 : Int), .int .u64 (r4 : Int)] : Array Value).size := rfl
      have iS : (Try.prog.info? 26).map (·.size) = some (#[.int .u64 (r0 : Int), .int .u64 (r1 : Int), .int .u64 (r2 : Int), .int .u64 (r3 : Int), .int .u64 (r4 : Int)] : Array Value).size := by kernel_rfl
      have oS : (#[.int .u64 (r0 : Int), .int .u64 (r1 : Int), .int .u64 (r2 : Int), .int .u64 (r3 : Int), .int .u64 (r4 : Int)] : Array Value).all (·.oneCell') = true := by simp [Value.oneCell']
      have HE : Hid (Below w.heap.size w (wr.setRow (g + 1) #[.int .u64 (r0 : Int), .int .u64 (r1 : Int), .int .u64 (r2 : Int), .int .u64 (r3 : Int), .int .u64 (r4 : Int)])) := Lib.hid (below_row HB.out (by have := HG.out; omega))
      clear w0 w1 w2 w3 k1 k2 k3 k4 HI HX HB
      go_wp2_with (refine wpList_store_row rfl 26 (.tmp 2) (.tmp 55) rfl (g + 1) #[.int .u64 (r0 : Int), .int .u64 (r1 : Int), .int .u64 (r2 : Int), .int .u64 (r3 : Int), .int .u64 (r4 : Int)] rfl rfl 26 #[.int .u64 0, .int .u64 0, .int .u64 0, .int .u64 0, .int .u64 0] hr iS sS oS ?_)
      (try simp only [Exit.inBlock, Exit.then])
      refine bodyPost_ret (results_cell_row rfl _ _ (g + 1) _ #[.int .u64 (r0 : Int), .int .u64 (r1 : Int), .int .u64 (r2 : Int), .int .u64 (r3 : Int), .int .u64 (r4 : Int)] _ _ rfl (setRow_heap _ _ _ _ _ _ hr) Try.underlying26 rfl iS) rfl ?_
      exact HP.out _ _ rfl HE.out
end Go.Proofs.Ytlhnjdnkjgnooaa

