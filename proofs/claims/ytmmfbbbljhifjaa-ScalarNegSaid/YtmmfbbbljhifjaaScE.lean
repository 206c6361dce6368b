/- The contracts of the developers' Order, Canonical, Reduce, Add, Neg, MulAdd and Bit of package scalar. Written by wip/tools/mk_scal11.py. -/
import Derived.Test.YtmmfbbbljhifjaaScC
import Derived.Test.YtmmfbbbljhifjaaScD
import Derived.Test.YtmmfbbbljhifjaaLaw11Spec
namespace Go.Proofs.Ytmmfbbbljhifjaa
open Go.RowKit
set_option linter.unusedVariables false
set_option maxRecDepth 100000

set_option maxHeartbeats 1600000 in
theorem scOrder_any (w : World) : Calls Try.prog 9 #[] w (RetV w (.agg (bytT LL))) := by
  have hzb := b32_zero
  have HORD := Lib.hid fun W : World => scorder_any W
  have HBY := Lib.hid fun W : World => scbytes_any LL W
  have nB := zero32_size (l := leB 32 (LL)) (leB_len _ _)
  have oB := arrB_one (leB 32 (LL))
  have iB := arr32_info (leB_len 32 (LL))
  unfold bytT at *
  obtain ⟨OUT, hOUT⟩ : ∃ o, arrB (leB 32 (LL)) = o := ⟨_, rfl⟩
  rw [hOUT] at nB oB iB HBY ⊢
  generalize zero32 = z32 at *
  generalize wdW 4 LL = NL at *
  have hr0 : RowsW (w.alloc (.cells z32 22)) [(w.heap.size, z32, 22)] := by
    have h := (RowsW.nil w).box z32 22
    (try simp only [World.size_alloc] at h)
    exact h
  have hb0 : Below w.heap.size w (w.alloc (.cells z32 22)) := below_alloc (Below.refl _ _) _
  have HR0 := Lib.hid hr0
  have HB0 := Lib.hid hb0
  clear hr0 hb0
  clear hOUT
  go_enter Try.func9, Try.ntmps9
  go_wp2_with fail
  with_reducible refine (HORD.out _).mono ?_
  rintro e v1 ⟨rfl, hb1⟩
  have HR1 := Lib.hid (HR0.out.below hb1)
  have HB1 := Lib.hid (below_next HB0.out hb1)
  clear hb1 HR0 HB0
  go_wp2_with fail
  with_reducible refine (HBY.out _).mono ?_
  rintro e v2 ⟨rfl, hb2⟩
  have hr2 := (HR1.out.below hb2).head
  have HE : Hid (Below w.heap.size w (v2.setRow w.heap.size OUT)) := Lib.hid (below_row (below_next HB1.out hb2) (Nat.le_refl _))
  clear hb2
  go_wp2_with (refine wpList_store_row rfl 22 (.tmp 0) (.tmp 2) rfl w.heap.size OUT rfl rfl 22 z32 hr2 iB nB oB ?_)
  (try simp only [Exit.inBlock, Exit.then])
  refine bodyPost_ret (results_cell_row rfl _ _ (w.heap.size) _ OUT _ _ rfl (setRow_heap _ _ _ _ _ _ hr2) Try.underlying22 rfl iB) rfl ?_
  exact ⟨rfl, HE.out⟩

set_option maxHeartbeats 1600000 in
theorem scCan_any (l : List UInt8) (hl : l.length = 32) (w : World) : Calls Try.prog 11 #[.agg (arrB l)] w (RetV w (.bool (decide (leN l < LL)))) := by
  have hz4 := wd4_zero
  have hV : leN l < Q4 := by have := leN_lt l; rw [hl] at this; exact this
  have HWD := Lib.hid fun W : World => scwords_any l hl W
  have HORD := Lib.hid fun W : World => scorder_any W
  have HMIN := Lib.hid fun W : World => scminus_any (leN l) LL hV (by decide) W
  have iD := wd4_info ((leN l + (Q4 - LL)) % Q4)
  have sD : (wdW 4 0).size = (wdW 4 ((leN l + (Q4 - LL)) % Q4)).size := by rw [wdW_size, wdW_size]
  have oD := wdW_one 4 ((leN l + (Q4 - LL)) % Q4)
  have iL := arr32_info hl
  generalize decide (leN l < LL) = bb at *
  generalize wdW 4 ((leN l + (Q4 - LL)) % Q4) = D at *
  generalize wdW 4 (leN l) = NV at *
  generalize wdW 4 LL = NL at *
  generalize wdW 4 0 = z4 at *
  generalize arrB l = LA at *
  clear hV hl
  have hr0 : RowsW (w.alloc (.cells LA 22)) [(w.heap.size, LA, 22)] := by
    have h := (RowsW.nil w).box LA 22
    (try simp only [World.size_alloc] at h)
    exact h
  have hb0 : Below w.heap.size w (w.alloc (.cells LA 22)) := below_alloc (Below.refl _ _) _
  have HR0 := Lib.hid hr0
  have HB0 := Lib.hid hb0
  clear hr0 hb0
  have h0 := HR0.out.head
  go_enter Try.func11, Try.ntmps11
  go_wp2_with (refine wpList_load_row rfl 22 (.tmp 1) rfl w.heap.size rfl 22 LA (0, 0) _ h0 Try.underlying22 rfl iL ?_)
  with_reducible refine (HWD.out _).mono ?_
  rintro e v1 ⟨rfl, hb1⟩
  have HB1 := Lib.hid (below_next HB0.out hb1)
  clear hb1 HR0 HB0 h0
  go_wp2_with fail
  with_reducible refine (HORD.out _).mono ?_
  rintro e v2 ⟨rfl, hb2⟩
  have HB2 := Lib.hid (below_next HB1.out hb2)
  clear hb2 HB1
  go_wp2_with fail
  with_reducible refine (HMIN.out _).mono ?_
  rintro e v3 ⟨rfl, hb3⟩
  have HB3 := Lib.hid (below_next HB2.out hb3)
  clear hb3 HB2
  have h3 : (v3.alloc (.cells z4 38)).heap[v3.heap.size]? = some (.cells z4 38 (0, 0)) := heap_alloc_new _ _
  have HE : Hid (Below w.heap.size w ((v3.alloc (.cells z4 38)).setRow v3.heap.size D)) := Lib.hid (below_new HB3.out z4 D 38)
  go_wp2_with (refine wpList_store_row rfl 38 (.tmp 3) (.tmp 10) rfl v3.heap.size D rfl rfl 38 z4 h3 iD sD oD ?_)
  go_ret
  exact ⟨rfl, HE.out⟩
theorem arr64_at {l : List UInt8} (h : l.length = 64) (i : Nat) (hi : i < 64) (u : World) : (Instr.index 27 (.agg (arrB l)) (.int .i64 (i : Int))).run Try.prog u = .ok (.int .u8 ((l.getD i 0).toNat : Int)) u := by
  have hu : Try.prog.underlying 27 = some (.array 64 5) := by kernel_rfl
  have h1 : (0 : Int) ≤ (i : Int) ∧ (i : Int) < ((64 : Nat) : Int) := ⟨by omega, by omega⟩
  have hs : (sizeOf 5).run Try.prog u = .ok 1 u := by kernel_rfl
  have hv := arrB_get l i (by omega)
  simp [Instr.index, run_underlying hu, asIntOf, h1, hi, go_sem, hs, hv]

set_option maxHeartbeats 3200000 in
theorem scReduce_any (l : List UInt8) (hl : l.length = 64) (w : World) : Calls Try.prog 13 #[.agg (arrB l)] w (RetV w (.agg (bytT (leN l % LL)))) := by
  have hz8 := wd8_zero
  have hzb := b32_zero
  have HX : Hid (∀ k : Nat, k < 64 → ∀ u, (Instr.index 27 (.agg (arrB l)) (.int .i64 (k : Int))).run Try.prog u = .ok (.int .u8 ((l.getD k 0).toNat : Int)) u) := Lib.hid fun k hk u => arr64_at hl k hk u
  have i64 := arr64_info hl
  have HL := Lib.hid hl
  have hV : leN l < Q64 ^ 8 := by have := leN_lt l; rw [hl] at this; exact this
  have HRED := Lib.hid fun W : World => screduced_any (leN l) hV W
  have HBY := Lib.hid fun W : World => scbytes_any (leN l % LL) W
  have HZ : Hid (wdW 8 0 = wdW 8 (leN (l.take 0))) := Lib.hid (by rw [List.take_zero]; rfl)
  have iO := wd8_info (leN l)
  have nB := zero32_size (l := leB 32 (leN l % LL)) (leB_len _ _)
  have oB := arrB_one (leB 32 (leN l % LL))
  have iB := arr32_info (leB_len 32 (leN l % LL))
  unfold bytT at *
  obtain ⟨OUT, hOUT⟩ : ∃ o, arrB (leB 32 (leN l % LL)) = o := ⟨_, rfl⟩
  rw [hOUT] at nB oB iB HBY ⊢
  generalize zero32 = z32 at *
  generalize wdW 4 (leN l % LL) = NR at *
  obtain ⟨BB, hBB⟩ : ∃ X, arrB l = X := ⟨_, rfl⟩
  rw [hBB] at HX i64 ⊢
  obtain ⟨z8, hz⟩ : ∃ z, wdW 8 0 = z := ⟨_, rfl⟩
  rw [hz] at hz8 HZ
  have hr0 : RowsW (((w.alloc (.cells BB 27)).alloc (.cells z32 22)).alloc (.cells z8 48)) [(w.heap.size + 1 + 1, z8, 48), (w.heap.size + 1, z32, 22), (w.heap.size, BB, 27)] := by
    have h := (((RowsW.nil w).box BB 27).box z32 22).box z8 48
    (try simp only [World.size_alloc] at h)
    exact h
  have hb0 : Below w.heap.size w (((w.alloc (.cells BB 27)).alloc (.cells z32 22)).alloc (.cells z8 48)) := below_alloc (below_alloc (below_alloc (Below.refl _ _) _) _) _
  have HR0 := Lib.hid hr0
  have HB0 := Lib.hid hb0
  clear hr0 hb0
  have hrb := HR0.out.tail.tail.head
  clear hBB hz hl hV hOUT
  go_enter Try.func13, Try.ntmps13
  go_wp2_with (refine wpList_load_row rfl 27 (.tmp 1) rfl w.heap.size rfl 27 BB (0, 0) _ hrb Try.underlying27 rfl i64 ?_)
  clear hrb
  obtain ⟨W1, hW1⟩ : ∃ W, (((w.alloc (.cells BB 27)).alloc (.cells z32 22)).alloc (.cells z8 48)) = W := ⟨_, rfl⟩
  rw [hW1] at HR0 HB0
  rw [hW1]
  obtain ⟨g, hg⟩ : ∃ g, w.heap.size = g := ⟨_, rfl⟩
  rw [hg] at HR0
  rw [hg]
  have HG := Lib.hid hg
  clear hg
  clear hW1
  have HI : Hid (Lp w W1 (g + 1 + 1) (wdW 8 (leN (l.take 0))) 48 [(g + 1, z32, 22)]) := Lib.hid ⟨by rw [← HZ.out]; exact ⟨HR0.out.head, HR0.out.tail.head, trivial⟩, by rw [HG.out]; omega, by simp, HB0.out⟩
  clear HR0 HB0 HZ
  go_loopw [7] (fun i wr => ∃ k : Nat, k ≤ 64 ∧ i = .int .i64 (k : Int) ∧ Hid (Lp w wr (g + 1 + 1) (wdW 8 (leN (l.take k))) 48 [(g + 1, z32, 22)])) (fun i _ => 64 - (intOf i).toNat)
  case atStart => exact ⟨0, by omega, rfl, HI⟩
  case round =>
    clear HI
    obtain ⟨k, hk, rfl, HI⟩ := hrel
    by_cases hlt : k < 64
    · have hx := HX.out k hlt
      obtain ⟨b, hb⟩ : ∃ b, (l.getD k 0).toNat = b := ⟨_, rfl⟩
      have hbl : b < 256 := by rw [← hb]; exact (l.getD k 0).toNat_lt
      obtain ⟨n, hn⟩ : ∃ n, leN (l.take k) = n := ⟨_, rfl⟩
      have hnl : n < 256 ^ k := by rw [← hn]; exact leN_take_lt l k (by rw [HL.out]; omega)
      have hn1 : leN (l.take (k + 1)) = n + b * 256 ^ k := by rw [leN_take l k (by rw [HL.out]; omega), hn, hb]
      obtain ⟨s1, s2, s3, s4⟩ := wd_step n b k hnl hbl
      have hd4 : k / 8 < 8 := by omega
      rw [hn] at HI
      rw [hb] at hx
      obtain ⟨d, hd⟩ : ∃ d, k / 8 = d := ⟨_, rfl⟩
      obtain ⟨r, hr⟩ : ∃ r, k % 8 = r := ⟨_, rfl⟩
      obtain ⟨e, he⟩ : ∃ e, r * 8 = e := ⟨_, rfl⟩
      rw [hd, hr, he] at s1 s3
      rw [hr, he] at s2
      rw [hd] at s4
      rw [hd] at hd4
      have hel : e < 57 := by omega
      have hs4 := wdW_set 8 n (n + b * 256 ^ k) d hd4 (fun j _ hne => s4 j hne)
      rw [s3] at hs4
      have cz : wr.cell? ⟨g + 1 + 1, d, none⟩ = some (.int .u64 (wq n d : Int)) := by rw [cell_of_row _ _ _ _ _ _ HI.out.rows.head, wdW_get _ _ _ hd4]
      have fx := HI.out.fz d
      have hw := wq_lt n d
      have f7 := or_low (wq n d) b e s1 hw s2
      have HI2 : Hid (Lp w (wr.drew.setCell ⟨g + 1 + 1, d, none⟩ (.int .u64 ((wq n d + 2 ^ e * b : Nat) : Int))) (g + 1 + 1) (wdW 8 (leN (l.take (k + 1)))) 48 [(g + 1, z32, 22)]) := Lib.hid (by
        rw [hn1, ← hs4]
        exact (HI.out.drew).set d _)
      have f6 : IntKind.u64.wrap ((b : Int) * 2 ^ e) = ((2 ^ e * b : Nat) : Int) := by
        rw [IntKind.wrap_u64, show (b : Int) * 2 ^ e = ((2 ^ e * b : Nat) : Int) by rw [Int.natCast_mul, Int.mul_comm]; simp]
        unfold Q64 at s2
        omega
      generalize 2 ^ e * b = m at *
      obtain ⟨o, ho⟩ : ∃ o, wq n d + m = o := ⟨_, rfl⟩
      rw [ho] at f7 HI2
      generalize wq n d = q at *
      have f1 : (k : Int).tdiv 8 = (d : Int) := by rw [Int.tdiv_eq_ediv_of_nonneg (by omega)]; omega
      have f1' : (k : Int) / 8 = (d : Int) := by omega
      have f2 : IntKind.i64.wrap (d : Int) = (d : Int) := by rw [IntKind.wrap_i64]; omega
      have f3 : (k : Int).tmod 8 = (r : Int) := by rw [Int.tmod_eq_emod_of_nonneg (by omega)]; omega
      have f3' : (k : Int) % 8 = (r : Int) := by omega
      have f4 : (r : Int) * 8 = (e : Int) := by omega
      have f5 : IntKind.i64.wrap (e : Int) = (e : Int) := by rw [IntKind.wrap_i64]; omega
      have f8 : IntKind.u64.wrap (b : Int) = (b : Int) := by rw [IntKind.wrap_u64]; omega
      have b1 : 0 ≤ (d : Int) := by omega
      have b2 : (d : Int) < 8 := by omega
      have b3 : 0 ≤ (e : Int) := by omega
      have b5 : 0 ≤ (k : Int) := by omega
      have b6 : (k : Int) < 64 := by omega
      clear HI hb hbl hn hnl hn1 s1 s2 s3 s4 hd hr he hs4 hw ho
      go_wp2_with fail
      refine wp_region_still_tail 11 (by kernel_rfl) (by kernel_rfl) ?_
      simp only [List.take_succ_cons, List.take_zero, List.drop_succ_cons, List.drop_zero]
      iterate 11 still_step
      refine wpStill_nil ?_
      go_wp2_with fail
      go_roundw
      case rel => exact ⟨k + 1, by omega, by go_num, HI2⟩
      case measure => simp [intOf]; omega
    · obtain rfl : k = 64 := by omega
      have hV : l.take 64 = l := List.take_of_length_le (by rw [HL.out]; omega)
      rw [hV] at HI
      generalize wdW 8 (leN l) = N8 at *
      have h1 := HI.out.rows.head
      clear hV hlt hk
      go_wp2_with (refine wpList_load_row rfl 48 (.tmp 3) rfl (g + 1 + 1) rfl 48 N8 (0, 0) _ h1 Try.underlying48 rfl iO ?_)
      with_reducible refine (HRED.out _).mono ?_
      rintro e v1 ⟨rfl, hb1⟩
      have HI1 := Lib.hid (HI.out.call hb1)
      clear hb1 HI h1
      go_wp2_with fail
      with_reducible refine (HBY.out _).mono ?_
      rintro e v2 ⟨rfl, hb2⟩
      have HI2 := Lib.hid (HI1.out.call hb2)
      clear hb2 HI1
      have h0 := HI2.out.rows.tail.head
      have HE : Hid (Below w.heap.size w (v2.setRow (g + 1) OUT)) := Lib.hid (below_row HI2.out.below (by rw [HG.out]; omega))
      go_wp2_with (refine wpList_store_row rfl 22 (.tmp 2) (.tmp 26) rfl (g + 1) OUT rfl rfl 22 z32 h0 iB nB oB ?_)
      (try simp only [Exit.inBlock, Exit.then])
      refine bodyPost_ret (results_cell_row rfl _ _ (g + 1) _ OUT _ _ rfl (setRow_heap _ _ _ _ _ _ h0) Try.underlying22 rfl iB) rfl ?_
      exact ⟨rfl, HE.out⟩

set_option maxHeartbeats 6400000 in
theorem scMulAdd_any (l m n : List UInt8) (hl : l.length = 32) (hm : m.length = 32) (hn : n.length = 32) (w : World) : Calls Try.prog 20 #[.agg (arrB l), .agg (arrB m), .agg (arrB n)] w (RetV w (.agg (bytT ((leN l * leN m + leN n) % LL)))) := by
  have hzb := b32_zero
  have h1 : leN l < Q4 := by have := leN_lt l; rw [hl] at this; exact this
  have h2 : leN m < Q4 := by have := leN_lt m; rw [hm] at this; exact this
  have h3 : leN n < Q4 := by have := leN_lt n; rw [hn] at this; exact this
  have HW1 := Lib.hid fun W : World => scwords_any l hl W
  have HW2 := Lib.hid fun W : World => scwords_any m hm W
  have HW3 := Lib.hid fun W : World => scwords_any n hn W
  have HM := Lib.hid fun W : World => scmuladd_any _ _ _ h1 h2 h3 W
  have h8 : leN l * leN m + leN n < Q64 ^ 8 := by
    have := mul_lim h1 h2 h3
    exact this
  have HRED := Lib.hid fun W : World => screduced_any (leN l * leN m + leN n) h8 W
  have HBY := Lib.hid fun W : World => scbytes_any ((leN l * leN m + leN n) % LL) W
  have iL := arr32_info hl
  have iM := arr32_info hm
  have iN := arr32_info hn
  have nB := zero32_size (l := leB 32 ((leN l * leN m + leN n) % LL)) (leB_len _ _)
  have oB := arrB_one (leB 32 ((leN l * leN m + leN n) % LL))
  have iB := arr32_info (leB_len 32 ((leN l * leN m + leN n) % LL))
  unfold bytT at *
  obtain ⟨OUT, hOUT⟩ : ∃ o, arrB (leB 32 ((leN l * leN m + leN n) % LL)) = o := ⟨_, rfl⟩
  rw [hOUT] at nB oB iB HBY ⊢
  generalize zero32 = z32 at *
  generalize wdW 8 (leN l * leN m + leN n) = W8 at *
  generalize wdW 4 ((leN l * leN m + leN n) % LL) = NR at *
  generalize wdW 4 (leN l) = N1 at *
  generalize wdW 4 (leN m) = N2 at *
  generalize wdW 4 (leN n) = N3 at *
  generalize arrB l = LA at *
  generalize arrB m = MA at *
  generalize arrB n = NA at *
  clear h1 h2 h3 h8 hl hm hn hOUT
  have hr0 : RowsW ((((w.alloc (.cells LA 22)).alloc (.cells MA 22)).alloc (.cells NA 22)).alloc (.cells z32 22)) [(w.heap.size + 1 + 1 + 1, z32, 22), (w.heap.size + 1 + 1, NA, 22), (w.heap.size + 1, MA, 22), (w.heap.size, LA, 22)] := by
    have h := ((((RowsW.nil w).box LA 22).box MA 22).box NA 22).box z32 22
    (try simp only [World.size_alloc] at h)
    exact h
  have hb0 : Below w.heap.size w ((((w.alloc (.cells LA 22)).alloc (.cells MA 22)).alloc (.cells NA 22)).alloc (.cells z32 22)) := below_alloc (below_alloc (below_alloc (below_alloc (Below.refl _ _) _) _) _) _
  have HR0 := Lib.hid hr0
  have HB0 := Lib.hid hb0
  clear hr0 hb0
  go_enter Try.func20, Try.ntmps20
  go_upto_region 1 with fail
  obtain ⟨W1, hW1⟩ : ∃ W, ((((w.alloc (.cells LA 22)).alloc (.cells MA 22)).alloc (.cells NA 22)).alloc (.cells z32 22)) = W := ⟨_, rfl⟩
  rw [hW1] at HR0 HB0
  rw [hW1]
  obtain ⟨g, hg⟩ : ∃ g, w.heap.size = g := ⟨_, rfl⟩
  rw [hg] at HR0
  rw [hg]
  have HG := Lib.hid hg
  clear hg
  clear hW1
  refine wp_region_noPanic ?_
  refine wp_region_held_tail (S := fun W => Below W1.heap.size W1 W) 8 (by kernel_rfl) ⟨by kernel_rfl, by kernel_rfl, by kernel_rfl, by kernel_rfl⟩ (by exact (Below.refl _ _).drew) (fun hT inv hS => ?_)
  refine' take_atT 0 hT inv rfl (by omega) (by kernel_rfl) (by kernel_rfl) (fun _ _ _ h => h) (by rfl) hS ?_ ?_ ?_
  rotate_left 2
  · intro W hSW; exact run_loadR rfl rfl ((HR0.out.below hSW).tail.tail.tail.head) Try.underlying22 rfl iL
  · simp only [List.set_cons_succ, List.set_cons_zero]; rfl
  intro inv
  refine' take_atT 2 hT inv rfl (by omega) (by kernel_rfl) (by kernel_rfl) (fun _ _ _ h => h) (by rfl) hS ?_ ?_ ?_
  rotate_left 2
  · intro W hSW; exact run_loadR rfl rfl ((HR0.out.below hSW).tail.tail.head) Try.underlying22 rfl iM
  · simp only [List.set_cons_succ, List.set_cons_zero]; rfl
  intro inv
  refine' take_atT 4 hT inv rfl (by omega) (by kernel_rfl) (by kernel_rfl) (fun _ _ _ h => h) (by rfl) hS ?_ ?_ ?_
  rotate_left 2
  · intro W hSW; exact run_loadR rfl rfl ((HR0.out.below hSW).tail.head) Try.underlying22 rfl iN
  · simp only [List.set_cons_succ, List.set_cons_zero]; rfl
  intro inv
  refine call_atT 1 inv rfl (by omega) (by kernel_rfl) (by rfl) (fun K hK => ?_)
  go_simp
  with_reducible refine (HW1.out _).mono ?_
  rintro e u1 ⟨rfl, hb1⟩
  have kb1 := below_next hS hb1
  clear hS hb1
  refine hK.out _ _ (by exact kb1) (fun inv hS => ?_)
  clear hK K
  refine call_atT 3 inv rfl (by omega) (by kernel_rfl) (by rfl) (fun K hK => ?_)
  go_simp
  with_reducible refine (HW2.out _).mono ?_
  rintro e u2 ⟨rfl, hb2⟩
  have kb2 := below_next kb1 hb2
  clear hS hb2
  refine hK.out _ _ (by exact kb2) (fun inv hS => ?_)
  clear hK K
  refine call_atT 5 inv rfl (by omega) (by kernel_rfl) (by rfl) (fun K hK => ?_)
  go_simp
  with_reducible refine (HW3.out _).mono ?_
  rintro e u3 ⟨rfl, hb3⟩
  have kb3 := below_next kb2 hb3
  clear hS hb3
  refine hK.out _ _ (by exact kb3) (fun inv hS => ?_)
  clear hK K
  refine call_atT 6 inv rfl (by omega) (by kernel_rfl) (by rfl) (fun K hK => ?_)
  go_simp
  with_reducible refine (HM.out _).mono ?_
  rintro e u4 ⟨rfl, hb4⟩
  have kb4 := below_next kb3 hb4
  clear hS hb4
  refine hK.out _ _ (by exact kb4) (fun inv hS => ?_)
  clear hK K
  refine call_atT 7 inv rfl (by omega) (by kernel_rfl) (by rfl) (fun K hK => ?_)
  go_simp
  with_reducible refine (HRED.out _).mono ?_
  rintro e u5 ⟨rfl, hb5⟩
  have kb5 := below_next kb4 hb5
  clear hS hb5
  refine hK.out _ _ (by exact kb5) (fun inv hS => ?_)
  clear hK K
  refine done_atT (by kernel_rfl) ?_
  simp only [List.drop_succ_cons, List.drop_zero]
  clear hS
  (try simp only [Act.put])
  have HR2 := Lib.hid (HR0.out.below kb5)
  have HB2 := Lib.hid (below_next HB0.out kb5)
  clear kb1 kb2 kb3 kb4 kb5
  go_wp2_with fail
  with_reducible refine (HBY.out _).mono ?_
  rintro e w2 ⟨rfl, hb2⟩
  have hr2 := (HR2.out.below hb2).head
  have HE : Hid (Below w.heap.size w (w2.setRow (g + 1 + 1 + 1) OUT)) := Lib.hid (below_row (below_next HB2.out hb2) (by rw [HG.out]; omega))
  clear hb2
  go_wp2_with (refine wpList_store_row rfl 22 (.tmp 6) (.tmp 15) rfl (g + 1 + 1 + 1) OUT rfl rfl 22 z32 hr2 iB nB oB ?_)
  (try refine NoPanic.normal ?_)
  go_wp2_with fail
  (try simp only [Exit.inBlock, Exit.then])
  refine bodyPost_ret (results_cell_row rfl _ _ (g + 1 + 1 + 1) _ OUT _ _ rfl (setRow_heap _ _ _ _ _ _ hr2) Try.underlying22 rfl iB) rfl ?_
  exact ⟨rfl, HE.out⟩

set_option maxHeartbeats 3200000 in
theorem scAdd_any (l m : List UInt8) (hl : l.length = 32) (hm : m.length = 32) (w : World) : Calls Try.prog 16 #[.agg (arrB l), .agg (arrB m)] w (RetV w (.agg (bytT ((leN l + leN m) % LL)))) := by
  have hzb := b32_zero
  have HM : Hid (∀ W : World, Calls Try.prog 20 #[.agg (arrB l), .agg (bytT 1), .agg (arrB m)] W (RetV W (.agg (bytT ((leN l + leN m) % LL))))) := Lib.hid fun W => by
    have := scMulAdd_any l (leB 32 1) m hl (leB_len _ _) hm W
    rw [leN_leB 32 1 (by decide), Nat.mul_one] at this
    exact this
  have iL := arr32_info hl
  have iM := arr32_info hm
  have nB := zero32_size (l := leB 32 ((leN l + leN m) % LL)) (leB_len _ _)
  have oB := arrB_one (leB 32 ((leN l + leN m) % LL))
  have iB := arr32_info (leB_len 32 ((leN l + leN m) % LL))
  have hBU : ∀ (a : Act) (o : Oper), o.op = .build 22 #[(0, .const (.int .u8 ((1 : Nat) : Int)))] → ∀ W : World, (execOp (Act.eval a) o).run Try.prog W = .ok (.value (.agg (bytT 1))) W := fun a o ho W => run_build1 1 ho (by kernel_rfl) W
  have HBU := Lib.hid hBU
  clear hBU
  generalize bytT 1 = ONE at *
  unfold bytT at *
  obtain ⟨OUT, hOUT⟩ : ∃ o, arrB (leB 32 ((leN l + leN m) % LL)) = o := ⟨_, rfl⟩
  rw [hOUT] at nB oB iB HM ⊢
  generalize zero32 = z32 at *
  generalize arrB l = LA at *
  generalize arrB m = MA at *
  clear hl hm hOUT
  have hr0 : RowsW (((w.alloc (.cells LA 22)).alloc (.cells MA 22)).alloc (.cells z32 22)) [(w.heap.size + 1 + 1, z32, 22), (w.heap.size + 1, MA, 22), (w.heap.size, LA, 22)] := by
    have h := (((RowsW.nil w).box LA 22).box MA 22).box z32 22
    (try simp only [World.size_alloc] at h)
    exact h
  have hb0 : Below w.heap.size w (((w.alloc (.cells LA 22)).alloc (.cells MA 22)).alloc (.cells z32 22)) := below_alloc (below_alloc (below_alloc (Below.refl _ _) _) _) _
  have HR0 := Lib.hid hr0
  have HB0 := Lib.hid hb0
  clear hr0 hb0
  have hla := HR0.out.tail.tail.head
  have hma := HR0.out.tail.head
  go_enter Try.func16, Try.ntmps16
  go_wp2_with (first
    | (refine wpList_load_row rfl 22 (.tmp 2) rfl w.heap.size rfl 22 LA (0, 0) _ hla Try.underlying22 rfl iL ?_)
    | (refine wpList_load_row rfl 22 (.tmp 3) rfl (w.heap.size + 1) rfl 22 MA (0, 0) _ hma Try.underlying22 rfl iM ?_)
    | (refine wpList_runsV (o := ⟨some 6, _, _, _, _, _⟩) rfl (.agg ONE) (HBU.out _ _ rfl _) ?_))
  with_reducible refine (HM.out _).mono ?_
  rintro e v1 ⟨rfl, hb1⟩
  have hr2 := (HR0.out.below hb1).head
  have HE : Hid (Below w.heap.size w (v1.setRow (w.heap.size + 1 + 1) OUT)) := Lib.hid (below_row (below_next HB0.out hb1) (by omega))
  clear hb1 hla hma
  go_wp2_with (refine wpList_store_row rfl 22 (.tmp 4) (.tmp 8) rfl (w.heap.size + 1 + 1) OUT rfl rfl 22 z32 hr2 iB nB oB ?_)
  (try simp only [Exit.inBlock, Exit.then])
  refine bodyPost_ret (results_cell_row rfl _ _ (w.heap.size + 1 + 1) _ OUT _ _ rfl (setRow_heap _ _ _ _ _ _ hr2) Try.underlying22 rfl iB) rfl ?_
  exact ⟨rfl, HE.out⟩
theorem run_buildN (k : Nat) (hk : (Instr.build 38 #[(0, .int .u64 (k : Int))]).run Try.prog = fun W => .ok (.agg (wdW 4 k)) W) {a : Act} {o : Oper} (ho : o.op = .build 38 #[(0, .const (.int .u64 (k : Int)))]) (W : World) : (execOp (Act.eval a) o).run Try.prog W = .ok (.value (.agg (wdW 4 k))) W := by
  unfold execOp
  simp only [ho]
  have h := congrFun hk W
  simp [Act.eval, h]
theorem run_buildZ {a : Act} {o : Oper} (ho : o.op = .build 38 #[]) (W : World) : (execOp (Act.eval a) o).run Try.prog W = .ok (.value (.agg (wdW 4 0))) W := by
  unfold execOp
  simp only [ho]
  kernel_rfl
theorem neg_is0 (a : Nat) : (a * (LL - 1) + 0) % LL = (LL - a % LL) % LL := by rw [Nat.add_zero]; exact neg_is a
theorem neg_fac : (LL + (Q4 - 1)) % Q4 = LL - 1 := by decide

set_option maxHeartbeats 6400000 in
theorem scNeg_any (l : List UInt8) (hl : l.length = 32) (w : World) : Calls Try.prog 18 #[.agg (arrB l)] w (RetV w (.agg (bytT ((LL - leN l % LL) % LL)))) := by
  have hzb := b32_zero
  have hz4 := wd4_zero
  have h1 : leN l < Q4 := by have := leN_lt l; rw [hl] at this; exact this
  have HORD := Lib.hid fun W : World => scorder_any W
  have HMIN : Hid (∀ W : World, Calls Try.prog 27 #[.agg (wdW 4 LL), .agg (wdW 4 1)] W (RetV W (.tuple #[.agg (wdW 4 (LL - 1)), .bool (decide (LL < 1))]))) := Lib.hid fun W => by
    have := scminus_any LL 1 (by decide) (by decide) W
    rw [neg_fac] at this
    exact this
  have HW1 := Lib.hid fun W : World => scwords_any l hl W
  have HM := Lib.hid fun W : World => scmuladd_any (leN l) (LL - 1) 0 h1 (by decide) (by decide) W
  have h8 : leN l * (LL - 1) + 0 < Q64 ^ 8 := by
    have := mul_lim h1 (show LL - 1 < Q4 by decide) (show 0 < Q4 by decide)
    exact this
  have HRED := Lib.hid fun W : World => screduced_any (leN l * (LL - 1) + 0) h8 W
  have hv := neg_is0 (leN l)
  rw [hv] at HRED
  have HBY := Lib.hid fun W : World => scbytes_any ((LL - leN l % LL) % LL) W
  have iL := arr32_info hl
  have iF := wd4_info (LL - 1)
  have oF := wdW_one 4 (LL - 1)
  have sF : (wdW 4 0).size = (wdW 4 (LL - 1)).size := by rw [wdW_size, wdW_size]
  have nB := zero32_size (l := leB 32 ((LL - leN l % LL) % LL)) (leB_len _ _)
  have oB := arrB_one (leB 32 ((LL - leN l % LL) % LL))
  have iB := arr32_info (leB_len 32 ((LL - leN l % LL) % LL))
  have hBU : ∀ (a : Act) (o : Oper), o.op = .build 38 #[(0, .const (.int .u64 ((1 : Nat) : Int)))] → ∀ W : World, (execOp (Act.eval a) o).run Try.prog W = .ok (.value (.agg (wdW 4 1))) W := fun a o ho W => run_buildN 1 (by kernel_rfl) ho W
  have hBZ : ∀ (a : Act) (o : Oper), o.op = .build 38 #[] → ∀ W : World, (execOp (Act.eval a) o).run Try.prog W = .ok (.value (.agg (wdW 4 0))) W := fun a o ho W => run_buildZ ho W
  have HBU := Lib.hid hBU
  have HBZ := Lib.hid hBZ
  clear hBU hBZ
  unfold bytT at *
  obtain ⟨OUT, hOUT⟩ : ∃ o, arrB (leB 32 ((LL - leN l % LL) % LL)) = o := ⟨_, rfl⟩
  rw [hOUT] at nB oB iB HBY ⊢
  generalize zero32 = z32 at *
  generalize decide (LL < 1) = bb at *
  generalize wdW 8 (leN l * (LL - 1) + 0) = W8 at *
  generalize wdW 4 ((LL - leN l % LL) % LL) = NR at *
  generalize wdW 4 (leN l) = N1 at *
  generalize wdW 4 (LL - 1) = FA at *
  generalize wdW 4 LL = NL at *
  generalize wdW 4 1 = ONE at *
  generalize wdW 4 0 = z4 at *
  generalize arrB l = LA at *
  clear h1 h8 hl hOUT hv
  have hr0 : RowsW ((w.alloc (.cells LA 22)).alloc (.cells z32 22)) [(w.heap.size + 1, z32, 22), (w.heap.size, LA, 22)] := by
    have h := ((RowsW.nil w).box LA 22).box z32 22
    (try simp only [World.size_alloc] at h)
    exact h
  have hb0 : Below w.heap.size w ((w.alloc (.cells LA 22)).alloc (.cells z32 22)) := below_alloc (below_alloc (Below.refl _ _) _) _
  have HR0 := Lib.hid hr0
  have HB0 := Lib.hid hb0
  clear hr0 hb0
  go_enter Try.func18, Try.ntmps18
  go_wp2_with fail
  with_reducible refine (HORD.out _).mono ?_
  rintro e v1 ⟨rfl, hb1⟩
  have HR1 := Lib.hid (HR0.out.below hb1)
  have HB1 := Lib.hid (below_next HB0.out hb1)
  clear hb1 HR0 HB0
  go_wp2_with (refine wpList_runsV (o := ⟨some 7, _, _, _, _, _⟩) rfl (.agg ONE) (HBU.out _ _ rfl _) ?_)
  with_reducible refine (HMIN.out _).mono ?_
  rintro e v2 ⟨rfl, hb2⟩
  have HR2 := Lib.hid (HR1.out.below hb2)
  have HB2 := Lib.hid (below_next HB1.out hb2)
  clear hb2 HR1 HB1
  have h3 : (v2.alloc (.cells z4 38)).heap[v2.heap.size]? = some (.cells z4 38 (0, 0)) := heap_alloc_new _ _
  have HR3 := Lib.hid (HR2.out.new z4 FA 38)
  have HB3 := Lib.hid (below_new HB2.out z4 FA 38)
  go_upto_region 2 with (refine wpList_store_row rfl 38 (.tmp 3) (.tmp 9) rfl v2.heap.size FA rfl rfl 38 z4 h3 iF sF oF ?_)
  obtain ⟨W3, hW3⟩ : ∃ X, (v2.alloc (.cells z4 38)).setRow v2.heap.size FA = X := ⟨_, rfl⟩
  obtain ⟨gf, hgf⟩ : ∃ X, v2.heap.size = X := ⟨_, rfl⟩
  rw [hW3, hgf] at HR3
  rw [hW3] at HB3
  rw [hW3, hgf]
  clear hW3 hgf h3 HR2 HB2
  refine wp_region_noPanic ?_
  refine wp_region_held_tail (S := fun W => Below W3.heap.size W3 W) 6 (by kernel_rfl) ⟨by kernel_rfl, by kernel_rfl, by kernel_rfl, by kernel_rfl⟩ (by exact (Below.refl _ _).drew) (fun hT inv hS => ?_)
  refine' take_atT 0 hT inv rfl (by omega) (by kernel_rfl) (by kernel_rfl) (fun _ _ _ h => h) (by rfl) hS ?_ ?_ ?_
  rotate_left 2
  · intro W hSW; exact run_loadR rfl rfl ((HR3.out.below hSW).tail.tail.head) Try.underlying22 rfl iL
  · simp only [List.set_cons_succ, List.set_cons_zero]; rfl
  intro inv
  refine' take_atT 2 hT inv rfl (by omega) (by kernel_rfl) (by kernel_rfl) (fun _ _ _ h => h) (by rfl) hS ?_ ?_ ?_
  rotate_left 2
  · intro W hSW; exact run_loadR rfl rfl ((HR3.out.below hSW).head) Try.underlying38 rfl iF
  · simp only [List.set_cons_succ, List.set_cons_zero]; rfl
  intro inv
  refine' take_atT 3 hT inv rfl (by omega) (by kernel_rfl) (by kernel_rfl) (fun _ _ _ h => h) (by rfl) hS ?_ ?_ ?_
  rotate_left 2
  · intro W hSW; exact HBZ.out _ _ rfl W
  · simp only [List.set_cons_succ, List.set_cons_zero]; rfl
  intro inv
  refine call_atT 1 inv rfl (by omega) (by kernel_rfl) (by rfl) (fun K hK => ?_)
  go_simp
  with_reducible refine (HW1.out _).mono ?_
  rintro e u1 ⟨rfl, hb1⟩
  have kb1 := below_next hS hb1
  clear hS hb1
  refine hK.out _ _ (by exact kb1) (fun inv hS => ?_)
  clear hK K
  refine call_atT 4 inv rfl (by omega) (by kernel_rfl) (by rfl) (fun K hK => ?_)
  go_simp
  with_reducible refine (HM.out _).mono ?_
  rintro e u2 ⟨rfl, hb2⟩
  have kb2 := below_next kb1 hb2
  clear hS hb2
  refine hK.out _ _ (by exact kb2) (fun inv hS => ?_)
  clear hK K
  refine call_atT 5 inv rfl (by omega) (by kernel_rfl) (by rfl) (fun K hK => ?_)
  go_simp
  with_reducible refine (HRED.out _).mono ?_
  rintro e u3 ⟨rfl, hb3⟩
  have kb3 := below_next kb2 hb3
  clear hS hb3
  refine hK.out _ _ (by exact kb3) (fun inv hS => ?_)
  clear hK K
  refine done_atT (by kernel_rfl) ?_
  simp only [List.drop_succ_cons, List.drop_zero]
  clear hS
  (try simp only [Act.put])
  have HR4 := Lib.hid (HR3.out.below kb3)
  have HB4 := Lib.hid (below_next HB3.out kb3)
  clear kb1 kb2 kb3
  go_wp2_with fail
  with_reducible refine (HBY.out _).mono ?_
  rintro e w2 ⟨rfl, hb2⟩
  have hr2 := (HR4.out.below hb2).tail.head
  have HE : Hid (Below w.heap.size w (w2.setRow (w.heap.size + 1) OUT)) := Lib.hid (below_row (below_next HB4.out hb2) (by omega))
  clear hb2
  go_wp2_with (refine wpList_store_row rfl 22 (.tmp 2) (.tmp 17) rfl (w.heap.size + 1) OUT rfl rfl 22 z32 hr2 iB nB oB ?_)
  (try refine NoPanic.normal ?_)
  go_wp2_with fail
  (try simp only [Exit.inBlock, Exit.then])
  refine bodyPost_ret (results_cell_row rfl _ _ (w.heap.size + 1) _ OUT _ _ rfl (setRow_heap _ _ _ _ _ _ hr2) Try.underlying22 rfl iB) rfl ?_
  exact ⟨rfl, HE.out⟩
theorem u8_and1n (q : Nat) (hq : q < 256) : bits .and .u8 (q : Int) 1 = ((q % 2 : Nat) : Int) := by
  have h := u8_and_nat q 1 hq (by omega)
  rw [show (1 : Nat) = 2 ^ 1 - 1 by decide, Nat.and_two_pow_sub_one_eq_mod] at h
  exact h
set_option maxHeartbeats 1600000 in
theorem scBit_any (l : List UInt8) (hl : l.length = 32) (i : Int) (h1 : -9223372036854775808 ≤ i) (h2 : i ≤ 9223372036854775807) (w : World) : Calls Try.prog 22 #[.agg (arrB l), .int .i64 i] w (RetV w (.int .i64 (bitZ l i))) := by
  unfold bitZ
  have h0 : (w.alloc (.cells (arrB l) 22)).heap[w.heap.size]? = some (.cells (arrB l) 22 (0, 0)) := heap_alloc_new _ _
  have HB := Lib.hid (show Below w.heap.size w (w.alloc (.cells (arrB l) 22)) from (Below.refl w.heap.size w).alloc (Nat.le_refl _) _)
  by_cases hr : 0 ≤ i ∧ i ≤ 255
  · rw [if_pos hr]
    obtain ⟨k, rfl⟩ : ∃ k : Nat, i = (k : Int) := ⟨i.toNat, by omega⟩
    rw [Int.toNat_natCast]
    obtain ⟨j, hj⟩ : ∃ j, k / 8 = j := ⟨_, rfl⟩
    obtain ⟨r, hrr⟩ : ∃ r, k % 8 = r := ⟨_, rfl⟩
    have hb := leN_bit l k
    rw [hj, hrr] at hb
    obtain ⟨a, ha⟩ : ∃ a, (l.getD j 0).toNat = a := ⟨_, rfl⟩
    have hal : a < 256 := by rw [← ha]; exact (l.getD j 0).toNat_lt
    obtain ⟨q, hq⟩ : ∃ q, a / 2 ^ r = q := ⟨_, rfl⟩
    have hql : q < 256 := by rw [← hq]; exact Nat.lt_of_le_of_lt (Nat.div_le_self _ _) hal
    rw [ha, hq] at hb
    rw [← hb]
    obtain ⟨s, hs⟩ : ∃ s : Nat, q % 2 = s := ⟨_, rfl⟩
    have cx : (w.alloc (.cells (arrB l) 22)).cell? ⟨w.heap.size, j, none⟩ = some (.int .u8 (a : Int)) := by
      rw [cell_of_row _ _ _ _ _ _ h0, arrB_get _ _ (by omega), ha]
    have d0 : decide ((k : Int) < 0) = false := decide_eq_false (by omega)
    have d1 : decide ((256 : Int) ≤ (k : Int)) = false := decide_eq_false (by omega)
    have t1 : (k : Int).tdiv 8 = (j : Int) := by rw [Int.tdiv_eq_ediv_of_nonneg (by omega)]; omega
    have t1' : (k : Int) / 8 = (j : Int) := by omega
    have t2 : (k : Int).tmod 8 = (r : Int) := by rw [Int.tmod_eq_emod_of_nonneg (by omega)]; omega
    have t2' : (k : Int) % 8 = (r : Int) := by omega
    have t4 : (a : Int) / 2 ^ r = (q : Int) := by rw [← hq]; simp
    have t6 : bits .and .u8 (q : Int) 1 = (s : Int) := by rw [u8_and1n q hql, hs]
    have hs2 : s < 2 := by omega
    have t7 : IntKind.i64.wrap (s : Int) = (s : Int) := by rw [IntKind.wrap_i64]; omega
    have b0 : 0 ≤ (r : Int) := by omega
    have b1 : 0 ≤ (j : Int) := by omega
    have b2 : (j : Int) < 32 := by omega
    have hr8 : r < 8 := by omega
    rw [hs]
    clear hb ha hq hs h0 hj hrr hal h1 h2 hr hs2 hql
    generalize arrB l = LA at *
    go_enter Try.func22, Try.ntmps22
    go_wp2_with fail
    go_ret
    exact ⟨rfl, HB.out⟩
  · rw [if_neg hr]
    clear h0
    generalize arrB l = LA at *
    by_cases hneg : i < 0
    · have d0 : decide (i < 0) = true := decide_eq_true hneg
      clear hr hl
      go_enter Try.func22, Try.ntmps22
      go_wp2_with fail
      go_ret
      exact ⟨rfl, HB.out⟩
    · have d0 : decide (i < 0) = false := decide_eq_false hneg
      have d1 : decide ((256 : Int) ≤ i) = true := decide_eq_true (by omega)
      clear hr hl
      go_enter Try.func22, Try.ntmps22
      go_wp2_with fail
      go_ret
      exact ⟨rfl, HB.out⟩
theorem scC : ScC where
  order := scOrder_any
  can := scCan_any
  reduce := scReduce_any
  add := scAdd_any
  neg := scNeg_any
  mulAdd := scMulAdd_any
  bit := scBit_any
end Go.Proofs.Ytmmfbbbljhifjaa

