/- The contracts of the developers' words and bytes of package scalar. -/
import Derived.Test.YtmmfbbbljhifjaaScN
import Derived.Test.YtmmfbbbljhifjaaGheld
import Derived.Test.YtmmfbbbljhifjaaRefSc11D
import Derived.Test.YtmmfbbbljhifjaaLaw9Spec
import Derived.Test.YtmmfbbbljhifjaaGroo1
import Derived.Deep.QuietTactic
import Derived.BigQuiet
import Derived.StillTailTactics
namespace Go.Proofs.Ytmmfbbbljhifjaa
open Go.RowKit
set_option linter.unusedVariables false
set_option maxRecDepth 100000

theorem wd4_info (n : Nat) : (Try.prog.info? 38).map (·.size) = some (wdW 4 n).size := by rw [wdW_size]; kernel_rfl
theorem wd8_info (n : Nat) : (Try.prog.info? 48).map (·.size) = some (wdW 8 n).size := by rw [wdW_size]; kernel_rfl
theorem wd4_zero (u : World) : (zeroValue 38).run Try.prog u = .ok (.agg (wdW 4 0)) u := zero_arr 38 (wdW 4 0) 4 (by kernel_rfl) u
theorem wd8_zero (u : World) : (zeroValue 48).run Try.prog u = .ok (.agg (wdW 8 0)) u := zero_arr 48 (wdW 8 0) 8 (by kernel_rfl) u
theorem b32_zero (u : World) : (zeroValue 22).run Try.prog u = .ok (.agg zero32) u := arr32_zero u
/-- rows that stand, and nothing else has turned -/
structure Lp (w wr : World) (g : Nat) (cs : Array Value) (t : TypeId) (L : List RowT) : Prop where
  rows : RowsW wr ((g, cs, t) :: L)
  new : w.heap.size ≤ g
  far : ∀ r ∈ L, r.1 ≠ g
  below : Below w.heap.size w wr
theorem Lp.drew {w wr g cs t L} (h : Lp w wr g cs t L) : Lp w wr.drew g cs t L := ⟨h.rows.drew, h.new, h.far, h.below.drew⟩
theorem Lp.set {w wr g cs t L} (h : Lp w wr g cs t L) (k : Nat) (v : Value) : Lp w (wr.setCell ⟨g, k, none⟩ v) g (cs.setIfInBounds k v) t L :=
  ⟨h.rows.set h.far k v, h.new, h.far, h.below.setCell (p := ⟨g, k, none⟩) h.new v⟩
theorem Lp.fz {w wr g cs t L} (h : Lp w wr g cs t L) (k : Nat) : wr.frozen? ⟨g, k, none⟩ = false := by have := h.rows.head; simp [World.frozen?, this]
theorem Lp.call {w wr W g cs t L} (h : Lp w wr g cs t L) (hb : Below wr.heap.size wr W) : Lp w W g cs t L := ⟨h.rows.below hb, h.new, h.far, below_next h.below hb⟩

set_option maxHeartbeats 3200000 in
theorem scwords_any (l : List UInt8) (hl : l.length = 32) (w : World) : Calls Try.prog 26 #[.agg (arrB l)] w (RetV w (.agg (wdW 4 (leN l)))) := by
  have hz4 := wd4_zero
  have HX : Hid (∀ k : Nat, k < 32 → ∀ u, (Instr.index 22 (.agg (arrB l)) (.int .i64 (k : Int))).run Try.prog u = .ok (.int .u8 ((l.getD k 0).toNat : Int)) u) := Lib.hid fun k hk u => arr_at hl k hk u
  have iB := arr32_info hl
  have HL := Lib.hid hl
  have HZ : Hid (wdW 4 0 = wdW 4 (leN (l.take 0))) := Lib.hid (by rw [List.take_zero]; rfl)
  have iO := wd4_info (leN l)
  have nO : (wdW 4 0).size = (wdW 4 (leN l)).size := by rw [wdW_size, wdW_size]
  have oO := wdW_one 4 (leN l)
  obtain ⟨BB, hBB⟩ : ∃ X, arrB l = X := ⟨_, rfl⟩
  rw [hBB] at HX iB ⊢
  obtain ⟨z4, hz⟩ : ∃ z, wdW 4 0 = z := ⟨_, rfl⟩
  rw [hz] at hz4 HZ nO
  have hr0 : RowsW (((w.alloc (.cells BB 22)).alloc (.cells z4 38)).alloc (.cells z4 38)) [(w.heap.size + 1 + 1, z4, 38), (w.heap.size + 1, z4, 38), (w.heap.size, BB, 22)] := by
    have h := (((RowsW.nil w).box BB 22).box z4 38).box z4 38
    simp only [World.size_alloc] at h
    exact h
  have hrb := hr0.tail.tail.head
  have hb0 : Below w.heap.size w (((w.alloc (.cells BB 22)).alloc (.cells z4 38)).alloc (.cells z4 38)) := below_alloc (below_alloc (below_alloc (Below.refl _ _) _) _) _
  have HR0 := Lib.hid hr0
  have HB0 := Lib.hid hb0
  clear hr0 hb0 hBB hz hl
  go_enter Try.func26, Try.ntmps26
  go_wp2_with (refine wpList_load_row rfl 22 (.tmp 1) rfl w.heap.size rfl 22 BB (0, 0) _ hrb Try.underlying22 rfl iB ?_)
  obtain ⟨W1, hW1⟩ : ∃ W, ((w.alloc (.cells BB 22)).alloc (.cells z4 38)).alloc (.cells z4 38) = W := ⟨_, rfl⟩
  rw [hW1] at HR0 HB0
  rw [hW1]
  have HI : Hid (Lp w W1 (w.heap.size + 1 + 1) (wdW 4 (leN (l.take 0))) 38 [(w.heap.size + 1, z4, 38)]) := Lib.hid ⟨by rw [← HZ.out]; exact ⟨HR0.out.head, HR0.out.tail.head, trivial⟩, by omega, by simp, HB0.out⟩
  obtain ⟨g, hg⟩ : ∃ g, w.heap.size = g := ⟨_, rfl⟩
  rw [hg] at HI
  rw [hg]
  have HG := Lib.hid hg
  clear hW1 hg hrb HR0 HB0 HZ
  go_loopw [7] (fun i wr => ∃ k : Nat, k ≤ 32 ∧ i = .int .i64 (k : Int) ∧ Hid (Lp w wr (g + 1 + 1) (wdW 4 (leN (l.take k))) 38 [(g + 1, z4, 38)])) (fun i _ => 32 - (intOf i).toNat)
  case atStart => exact ⟨0, by omega, rfl, HI⟩
  case round =>
    clear HI
    obtain ⟨k, hk, rfl, HI⟩ := hrel
    by_cases hlt : k < 32
    · have hx := HX.out k hlt
      obtain ⟨b, hb⟩ : ∃ b, (l.getD k 0).toNat = b := ⟨_, rfl⟩
      have hbl : b < 256 := by rw [← hb]; exact (l.getD k 0).toNat_lt
      obtain ⟨n, hn⟩ : ∃ n, leN (l.take k) = n := ⟨_, rfl⟩
      have hnl : n < 256 ^ k := by rw [← hn]; exact leN_take_lt l k (by rw [HL.out]; omega)
      have hn1 : leN (l.take (k + 1)) = n + b * 256 ^ k := by rw [leN_take l k (by rw [HL.out]; omega), hn, hb]
      obtain ⟨s1, s2, s3, s4⟩ := wd_step n b k hnl hbl
      have hd4 : k / 8 < 4 := by omega
      rw [hn] at HI
      rw [hb] at hx
      obtain ⟨d, hd⟩ : ∃ d, k / 8 = d := ⟨_, rfl⟩
      obtain ⟨r, hr⟩ : ∃ r, k % 8 = r := ⟨_, rfl⟩
      obtain ⟨e, he⟩ : ∃ e, r * 8 = e := ⟨_, rfl⟩
      rw [hd, hr, he] at s1 s3
      rw [hr, he] at s2
      rw [hd] at s4
      rw [hd] at hd4
      have hel : e < 57 := by omega
      have hs4 := wdW_set 4 n (n + b * 256 ^ k) d hd4 (fun j _ hne => s4 j hne)
      rw [s3] at hs4
      have cz : wr.cell? ⟨g + 1 + 1, d, none⟩ = some (.int .u64 (wq n d : Int)) := by rw [cell_of_row _ _ _ _ _ _ HI.out.rows.head, wdW_get _ _ _ hd4]
      have fx := HI.out.fz d
      have hw := wq_lt n d
      have f7 := or_low (wq n d) b e s1 hw s2
      have HI2 : Hid (Lp w (wr.drew.setCell ⟨g + 1 + 1, d, none⟩ (.int .u64 ((wq n d + 2 ^ e * b : Nat) : Int))) (g + 1 + 1) (wdW 4 (leN (l.take (k + 1)))) 38 [(g + 1, z4, 38)]) := Lib.hid (by
        rw [hn1, ← hs4]
        exact (HI.out.drew).set d _)
      have f6 : IntKind.u64.wrap ((b : Int) * 2 ^ e) = ((2 ^ e * b : Nat) : Int) := by
        rw [IntKind.wrap_u64, show (b : Int) * 2 ^ e = ((2 ^ e * b : Nat) : Int) by rw [Int.natCast_mul, Int.mul_comm]; simp]
        unfold Q64 at s2
        omega
      generalize 2 ^ e * b = m at *
      obtain ⟨o, ho⟩ : ∃ o, wq n d + m = o := ⟨_, rfl⟩
      rw [ho] at f7 HI2
      generalize wq n d = q at *
      have f1 : (k : Int).tdiv 8 = (d : Int) := by rw [Int.tdiv_eq_ediv_of_nonneg (by omega)]; omega
      have f1' : (k : Int) / 8 = (d : Int) := by omega
      have f2 : IntKind.i64.wrap (d : Int) = (d : Int) := by rw [IntKind.wrap_i64]; omega
      have f3 : (k : Int).tmod 8 = (r : Int) := by rw [Int.tmod_eq_emod_of_nonneg (by omega)]; omega
      have f3' : (k : Int) % 8 = (r : Int) := by omega
      have f4 : (r : Int) * 8 = (e : Int) := by omega
      have f5 : IntKind.i64.wrap (e : Int) = (e : Int) := by rw [IntKind.wrap_i64]; omega
      have f8 : IntKind.u64.wrap (b : Int) = (b : Int) := by rw [IntKind.wrap_u64]; omega
      have b1 : 0 ≤ (d : Int) := by omega
      have b2 : (d : Int) < 4 := by omega
      have b3 : 0 ≤ (e : Int) := by omega
      have b5 : 0 ≤ (k : Int) := by omega
      have b6 : (k : Int) < 32 := by omega
      clear HI hb hbl hn hnl hn1 s1 s2 s3 s4 hd hr he hs4 hw ho
      go_wp2_with fail
      refine wp_region_still_tail 11 (by kernel_rfl) (by kernel_rfl) ?_
      simp only [List.take_succ_cons, List.take_zero, List.drop_succ_cons, List.drop_zero]
      iterate 11 still_step
      refine wpStill_nil ?_
      go_wp2_with fail
      go_roundw
      case rel => exact ⟨k + 1, by omega, by go_num, HI2⟩
      case measure => simp [intOf]; omega
    · obtain rfl : k = 32 := by omega
      have hV : l.take 32 = l := List.take_of_length_le (by rw [HL.out]; omega)
      rw [hV] at HI
      generalize wdW 4 (leN l) = OUT at *
      have h1 := HI.out.rows.head
      have h0 := HI.out.rows.tail.head
      have HB : Hid (Below w.heap.size w (wr.setRow (g + 1) OUT)) := Lib.hid (below_row HI.out.below (by rw [HG.out]; omega))
      clear HI
      go_wp2_with (first
        | (refine wpList_load_row rfl 38 (.tmp 3) rfl (g + 1 + 1) rfl 38 OUT (0, 0) _ h1 Try.underlying38 rfl iO ?_)
        | (refine wpList_store_row rfl 38 (.tmp 2) (.tmp 24) rfl (g + 1) OUT rfl rfl 38 z4 h0 iO nO oO ?_))
      (try simp only [Exit.inBlock, Exit.then])
      refine bodyPost_ret (results_cell_row rfl _ _ (g + 1) _ OUT _ _ rfl (setRow_heap _ _ _ _ _ _ h0) Try.underlying38 rfl iO) rfl ?_
      exact ⟨rfl, HB.out⟩

/-- the bytes so far -/
def byteX (V i : Nat) : UInt8 := UInt8.ofNat (V / 256 ^ i)
theorem bytesX_end (V : Nat) : updTo (List.replicate 32 0) (byteX V) 32 = leB 32 V := by
  refine list_ext_getD (by rw [updTo_len, leB_len]; simp) fun i hi => ?_
  rw [updTo_len] at hi
  have hi' : i < 32 := by simpa using hi
  rw [updTo_get hi, if_pos hi', leB_get _ _ _ hi']
  rfl

set_option maxHeartbeats 3200000 in
theorem scbytes_any (x : Nat) (w : World) : Calls Try.prog 25 #[.agg (wdW 4 x)] w (RetV w (.agg (bytT x))) := by
  have HQ : Hid (∀ i, i < 32 → wq x (i / 8) / 2 ^ (i % 8 * 8) % 256 = x / 256 ^ i % 256) := Lib.hid (byte_of x)
  have hzb := b32_zero
  have nB := zero32_size (l := leB 32 x) (leB_len _ _)
  have oB := arrB_one (leB 32 x)
  have iB := arr32_info (leB_len 32 x)
  have HZB : Hid (zero32 = arrB (updTo (List.replicate 32 0) (byteX x) 0)) := Lib.hid (by rw [updTo_zero]; rfl)
  have Hend : Hid (arrB (updTo (List.replicate 32 0) (byteX x) 32) = arrB (leB 32 x)) := Lib.hid (by rw [bytesX_end])
  have HWD : Hid (∀ d, d < 4 → (wdW 4 x)[d]? = some (.int .u64 (wq x d : Int))) := Lib.hid fun d h => wdW_get 4 x d h
  unfold bytT
  obtain ⟨OUT, hOUT⟩ : ∃ o, arrB (leB 32 x) = o := ⟨_, rfl⟩
  rw [hOUT] at nB oB iB Hend ⊢
  generalize zero32 = z32 at *
  generalize wdW 4 x = N at *
  have hr0 : RowsW (((w.alloc (.cells N 38)).alloc (.cells z32 22)).alloc (.cells z32 22)) [(w.heap.size + 1 + 1, z32, 22), (w.heap.size + 1, z32, 22), (w.heap.size, N, 38)] := by
    have h := (((RowsW.nil w).box N 38).box z32 22).box z32 22
    simp only [World.size_alloc] at h
    exact h
  have hb0 : Below w.heap.size w (((w.alloc (.cells N 38)).alloc (.cells z32 22)).alloc (.cells z32 22)) := below_alloc (below_alloc (below_alloc (Below.refl _ _) _) _) _
  have HR0 := Lib.hid hr0
  have HB0 := Lib.hid hb0
  clear hr0 hb0 hOUT
  go_enter Try.func25, Try.ntmps25
  go_wp2_with fail
  obtain ⟨W1, hW1⟩ : ∃ W, ((w.alloc (.cells N 38)).alloc (.cells z32 22)).alloc (.cells z32 22) = W := ⟨_, rfl⟩
  rw [hW1] at HR0 HB0
  rw [hW1]
  have HI : Hid (Lp w W1 (w.heap.size + 1 + 1) (arrB (updTo (List.replicate 32 0) (byteX x) 0)) 22 [(w.heap.size + 1, z32, 22), (w.heap.size, N, 38)]) := Lib.hid ⟨by rw [← HZB.out]; exact HR0.out, by omega, by simp; omega, HB0.out⟩
  obtain ⟨g, hg⟩ : ∃ g, w.heap.size = g := ⟨_, rfl⟩
  rw [hg] at HI
  rw [hg]
  have HG := Lib.hid hg
  clear hW1 hg HR0 HB0 HZB
  go_loopw [5] (fun i wr => ∃ k : Nat, k ≤ 32 ∧ i = .int .i64 (k : Int) ∧ Hid (Lp w wr (g + 1 + 1) (arrB (updTo (List.replicate 32 0) (byteX x) k)) 22 [(g + 1, z32, 22), (g, N, 38)])) (fun i _ => 32 - (intOf i).toNat)
  case atStart => exact ⟨0, by omega, rfl, HI⟩
  case round =>
    clear HI
    obtain ⟨k, hk, rfl, HI⟩ := hrel
    by_cases hlt : k < 32
    · have hq := HQ.out k hlt
      have hd4 : k / 8 < 4 := by omega
      obtain ⟨d, hd⟩ : ∃ d, k / 8 = d := ⟨_, rfl⟩
      obtain ⟨r, hr⟩ : ∃ r, k % 8 = r := ⟨_, rfl⟩
      obtain ⟨e, he⟩ : ∃ e, r * 8 = e := ⟨_, rfl⟩
      rw [hd, hr, he] at hq
      rw [hd] at hd4
      have hel : e < 57 := by omega
      have cz : wr.cell? ⟨g, d, none⟩ = some (.int .u64 (wq x d : Int)) := by rw [cell_of_row _ _ _ _ _ _ HI.out.rows.tail.tail.head, HWD.out _ hd4]
      have hlen : (updTo (List.replicate 32 0) (byteX x) k).length = 32 := by rw [updTo_len]; simp
      have ce : wr.cell? ⟨g + 1 + 1, k, none⟩ = some (.int .u8 (((updTo (List.replicate 32 0) (byteX x) k).getD k 0).toNat : Int)) := by rw [cell_of_row _ _ _ _ _ _ HI.out.rows.head, arrB_get _ _ (by omega)]
      have fe := HI.out.fz k
      obtain ⟨t, ht⟩ : ∃ t, wq x d / 2 ^ e = t := ⟨_, rfl⟩
      rw [ht] at hq
      obtain ⟨v, hv⟩ : ∃ v, t % 256 = v := ⟨_, rfl⟩
      have hb : (byteX x k).toNat = v := by unfold byteX; rw [← hv, hq]; simp
      have HI2 : Hid (Lp w (wr.setCell ⟨g + 1 + 1, k, none⟩ (.int .u8 (v : Int))) (g + 1 + 1) (arrB (updTo (List.replicate 32 0) (byteX x) (k + 1))) 22 [(g + 1, z32, 22), (g, N, 38)]) := Lib.hid (by
        rw [← updTo_step (by simpa using hlt), ← arrB_set, hb]
        exact HI.out.set k _)
      have f6 : ((wq x d : Nat) : Int) / 2 ^ e = (t : Int) := by rw [← ht, Int.natCast_ediv]; simp
      have f7 : IntKind.u8.wrap (t : Int) = (v : Int) := by rw [IntKind.wrap_u8]; omega
      have f1 : (k : Int).tdiv 8 = (d : Int) := by rw [Int.tdiv_eq_ediv_of_nonneg (by omega)]; omega
      have f1' : (k : Int) / 8 = (d : Int) := by omega
      have f3 : (k : Int).tmod 8 = (r : Int) := by rw [Int.tmod_eq_emod_of_nonneg (by omega)]; omega
      have f3' : (k : Int) % 8 = (r : Int) := by omega
      have f4 : (r : Int) * 8 = (e : Int) := by omega
      have b1 : 0 ≤ (d : Int) := by omega
      have b2 : (d : Int) < 4 := by omega
      have b3 : 0 ≤ (e : Int) := by omega
      have b5 : 0 ≤ (k : Int) := by omega
      have b6 : (k : Int) < 32 := by omega
      generalize ((updTo (List.replicate 32 0) (byteX x) k).getD k 0) = old at *
      generalize wq x d = q at *
      clear HI hq hd hr he hb hlen ht hv
      go_wp2_with fail
      go_roundw
      case rel => exact ⟨k + 1, by omega, by go_num, HI2⟩
      case measure => simp [intOf]; omega
    · obtain rfl : k = 32 := by omega
      rw [Hend.out] at HI
      have h1 := HI.out.rows.head
      have h0 := HI.out.rows.tail.head
      have HB : Hid (Below w.heap.size w (wr.setRow (g + 1) OUT)) := Lib.hid (below_row HI.out.below (by rw [HG.out]; omega))
      clear HI
      go_wp2_with (first
        | (refine wpList_load_row rfl 22 (.tmp 3) rfl (g + 1 + 1) rfl 22 OUT (0, 0) _ h1 Try.underlying22 rfl iB ?_)
        | (refine wpList_store_row rfl 22 (.tmp 2) (.tmp 20) rfl (g + 1) OUT rfl rfl 22 z32 h0 iB nB oB ?_))
      (try simp only [Exit.inBlock, Exit.then])
      refine bodyPost_ret (results_cell_row rfl _ _ (g + 1) _ OUT _ _ rfl (setRow_heap _ _ _ _ _ _ h0) Try.underlying22 rfl iB) rfl ?_
      exact ⟨rfl, HB.out⟩
end Go.Proofs.Ytmmfbbbljhifjaa

