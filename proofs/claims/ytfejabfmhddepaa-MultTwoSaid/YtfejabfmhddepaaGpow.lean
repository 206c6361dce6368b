/- The contracts of the reference's Bit, Pow, ones, Invert. The contracts of the reference's ones and Invert. The contracts of the reference's Sqrt. Written by wip/tools/mk_pow10.py. The contract of the reference's Ratio. Written by wip/tools/mk_pow10.py. -/
import Derived.Test.YtfejabfmhddepaaLaw9Spec
import Derived.Test.YtfejabfmhddepaaGpw
import Derived.Test.YtfejabfmhddepaaGheld
import Derived.Test.YtfejabfmhddepaaGroo4
namespace Go.Proofs.Ytfejabfmhddepaa
open Go.RowKit
set_option linter.unusedVariables false
set_option maxRecDepth 100000

set_option maxHeartbeats 800000 in
theorem rbit_any (l : List UInt8) (hl : l.length = 32) (i : Nat) (hi : i < 256) (w : World) :
    Calls Try.prog 50 #[.agg (arrB l), .int .i64 (i : Int)] w (RetV w (.int .i64 ((leN l / 2 ^ i % 2 : Nat) : Int))) := by
  obtain ⟨j, hj⟩ : ∃ j, i / 8 = j := ⟨_, rfl⟩
  obtain ⟨r, hr⟩ : ∃ r, i % 8 = r := ⟨_, rfl⟩
  have hb := leN_bit l i
  rw [hj, hr] at hb
  obtain ⟨a, ha⟩ : ∃ a, (l.getD j 0).toNat = a := ⟨_, rfl⟩
  have hal : a < 256 := by rw [← ha]; exact (l.getD j 0).toNat_lt
  obtain ⟨q, hq⟩ : ∃ q, a / 2 ^ r = q := ⟨_, rfl⟩
  have hql : q < 256 := by rw [← hq]; exact Nat.lt_of_le_of_lt (Nat.div_le_self _ _) hal
  rw [ha, hq] at hb
  rw [← hb]
  obtain ⟨s, hs⟩ : ∃ s : Int, ((q % 2 : Nat) : Int) = s := ⟨_, rfl⟩
  have h0 : (w.alloc (.cells (arrB l) 22)).heap[w.heap.size]? = some (.cells (arrB l) 22 (0, 0)) := heap_alloc_new _ _
  have cx : (w.alloc (.cells (arrB l) 22)).cell? ⟨w.heap.size, j, none⟩ = some (.int .u8 (a : Int)) := by
    rw [cell_of_row _ _ _ _ _ _ h0, arrB_get _ _ (by omega), ha]
  have HB := Lib.hid (show Below w.heap.size w (w.alloc (.cells (arrB l) 22)) from (Below.refl w.heap.size w).alloc (Nat.le_refl _) _)
  have d0 : decide ((i : Int) < 0) = false := decide_eq_false (by omega)
  have d1 : decide ((255 : Int) < (i : Int)) = false := decide_eq_false (by omega)
  have t1 : (i : Int).tdiv 8 = (j : Int) := by rw [Int.tdiv_eq_ediv_of_nonneg (by omega)]; omega
  have t1' : (i : Int) / 8 = (j : Int) := by omega
  have t2 : (i : Int).tmod 8 = (r : Int) := by rw [Int.tmod_eq_emod_of_nonneg (by omega)]; omega
  have t2' : (i : Int) % 8 = (r : Int) := by omega
  have t3 : IntKind.u64.wrap (r : Int) = (r : Int) := by rw [IntKind.wrap_u64]; omega
  have t4 : (a : Int) / 2 ^ r = (q : Int) := by rw [← hq]; simp
  have t5 : IntKind.i64.wrap (q : Int) = (q : Int) := by rw [IntKind.wrap_i64]; omega
  have t6 : bits .and .i64 (q : Int) 1 = s := by rw [i64_and1, ← hs]; omega
  have b1 : 0 ≤ (j : Int) := by omega
  have b2 : (j : Int) < 32 := by omega
  have hr8 : r < 8 := by omega
  rw [hs]
  clear hb ha hq hs h0 hj hr hal
  generalize arrB l = LL at *
  go_enter Try.func50, Try.ntmps50
  go_wp2_with fail
  go_ret
  exact ⟨rfl, HB.out⟩

set_option maxHeartbeats 3200000 in
theorem rpowN {x : Nat} (hx : x < PP) (l : List UInt8) (hl : l.length = 32) (w : World) :
    Calls Try.prog 80 #[.agg (refT x), .agg (arrB l)] w (RetV w (.agg (refT (pwN x (leN l))))) := by
  have hzR := refT_zero
  have HX := Lib.hid hx
  have HL := Lib.hid hl
  have HS1 : Hid (∀ W : World, Calls Try.prog 51 #[.int .u64 1] W (RetV W (.agg (refT 1)))) := Lib.hid fun W => rsmallN 1 (by decide) W
  obtain ⟨E, hE⟩ : ∃ E, leN l = E := ⟨_, rfl⟩
  have hE0 : E / 2 ^ (256 - 0) = 0 := by
    have := leN_lt l
    rw [hl, hE] at this
    exact Nat.div_eq_of_lt (by rw [show (2 : Nat) ^ (256 - 0) = 256 ^ 32 by decide]; exact this)
  have HP0 : Hid (pwN x (E / 2 ^ (256 - 0)) = 1) := Lib.hid (by rw [hE0]; exact pwN_zero x)
  have HBI : Hid (∀ (i : Nat), i < 256 → ∀ W : World, Calls Try.prog 50 #[.agg (arrB l), .int .i64 (i : Int)] W (RetV W (.int .i64 ((E / 2 ^ i % 2 : Nat) : Int)))) := Lib.hid fun i hi W => by rw [← hE]; exact rbit_any l hl i hi W
  have iL := arr32_info hl
  rw [hE]
  have HR0 := Lib.hid ((((RowsW.nil w).box (refT x) 31).box (arrB l) 22).box (refT 0) 31)
  have HB0 := Lib.hid (below_box (below_box (below_box (Below.refl w.heap.size w) (refT x) 31) (arrB l) 22) (refT 0) 31)
  rw [World.size_alloc, World.size_alloc] at HR0
  clear hE hE0 hl hx
  generalize arrB l = LL at *
  go_enter Try.func80, Try.ntmps80
  go_wp2_with fail
  obtain ⟨W0, hW0⟩ : ∃ W, ((w.alloc (.cells (refT x) 31)).alloc (.cells LL 22)).alloc (.cells (refT 0) 31) = W := ⟨_, rfl⟩
  obtain ⟨g, hg⟩ : ∃ g, w.heap.size = g := ⟨_, rfl⟩
  rw [hW0] at HR0 HB0
  rw [hg] at HR0
  rw [hW0, hg]
  have HG := Lib.hid hg
  clear hW0 hg
  with_reducible refine (HS1.out _).mono ?_
  rintro e v1 ⟨rfl, hb1⟩
  have hr1 := HR0.out.below hb1
  have HNE := Lib.hid hr1.ne
  have h0 : (v1.alloc (.cells (refT 0) 31)).heap[v1.heap.size]? = some (.cells (refT 0) 31 (0, 0)) := heap_alloc_new _ _
  have HR1 := Lib.hid (hr1.new (refT 0) (refT 1) 31)
  have HB1 := Lib.hid (below_new (below_next HB0.out hb1) (refT 0) (refT 1) 31)
  have HGE : Hid (w.heap.size ≤ v1.heap.size) := Lib.hid (below_next HB0.out hb1).size
  clear hb1 hr1 HR0 HB0 HS1
  go_wp2_with (refine wpList_store_row rfl 31 (.tmp 5) (.tmp 7) rfl v1.heap.size (refT 1) rfl rfl 31 (refT 0) h0 (refT_info _) (refT_size _ _) (refT_one _) ?_)
  obtain ⟨W2, hW2⟩ : ∃ W, (v1.alloc (.cells (refT 0) 31)).setRow v1.heap.size (refT 1) = W := ⟨_, rfl⟩
  obtain ⟨gz, hgz⟩ : ∃ g, v1.heap.size = g := ⟨_, rfl⟩
  rw [hW2, hgz] at HR1
  rw [hW2] at HB1
  rw [hgz] at HNE HGE
  rw [hgz] at hW2
  rw [hgz, hW2]
  clear hW2 hgz h0
  go_loopw [6] (fun i wr => ∃ k : Nat, k ≤ 256 ∧ i = .int .i64 (255 - (k : Int)) ∧ Hid (RowsW wr [(gz, refT (pwN x (E / 2 ^ (256 - k))), 31), (g + 1 + 1, refT 0, 31), (g + 1, LL, 22), (g, refT x, 31)]) ∧ Hid (Below w.heap.size w wr)) (fun i _ => (intOf i + 1).toNat)
  case atStart => exact ⟨0, by omega, rfl, by rw [HP0.out]; exact HR1, HB1⟩
  case round =>
    clear HR1 HB1
    obtain ⟨k, hk, rfl, HR1, HB1⟩ := hrel
    by_cases hlt : k < 256
    · obtain ⟨i, hi⟩ : ∃ i, 255 - k = i := ⟨_, rfl⟩
      have e1 : 255 - (k : Int) = (i : Int) := by omega
      have e2 : (i : Int) - 1 = 255 - ((k + 1 : Nat) : Int) := by omega
      have hi255 : i ≤ 255 := by omega
      have hst := pow_step x E k hlt
      rw [hi] at hst
      obtain ⟨y, hy⟩ : ∃ y, pwN x (E / 2 ^ (256 - k)) = y := ⟨_, rfl⟩
      have hyl : y < PP := by rw [← hy]; exact pwN_lt _ _
      rw [hy] at hst HR1
      have hm := fun W : World => rmulN hyl hyl W
      obtain ⟨y2, hy2⟩ : ∃ n, y * y % PP = n := ⟨_, rfl⟩
      have hy2l : y2 < PP := by rw [← hy2]; exact mod_lt_PP _
      rw [hy2] at hm hst
      have HM := Lib.hid hm
      have HBT := Lib.hid (HBI.out i (by omega))
      obtain ⟨t, ht⟩ : ∃ t, E / 2 ^ i % 2 = t := ⟨_, rfl⟩
      have htl : t < 2 := by rw [← ht]; exact Nat.mod_lt _ (by omega)
      rw [ht] at HBT hst
      have HE2 := Lib.hid e2
      have hp : ¬ ((i : Int) < 0) := by omega
      rw [e1]
      have l1 := HR1.out.head
      clear hm hy hi e1 e2 ht
      go_wp2_with (refine wpList_load_row rfl 31 (.tmp 5) rfl gz rfl 31 (refT y) (0, 0) _ l1 Try.underlying31 rfl (refT_info _) ?_)
      with_reducible refine (HM.out _).mono ?_
      rintro e v3 ⟨rfl, hb3⟩
      have r3 := HR1.out.below hb3
      have l3 := r3.head
      have r4 := r3.put (fun r hr => by simp only [List.mem_cons, List.not_mem_nil, or_false] at hr; exact HNE.out r (by simpa using hr)) (refT y2)
      have b4 := below_row (cs := refT y2) (below_next HB1.out hb3) HGE.out
      have l4 := r4.tail.tail.head
      have HR4 := Lib.hid r4
      have HB4 := Lib.hid b4
      clear hb3 r3 r4 b4 l1 HM HR1 HB1
      go_wp2_with (first
        | (refine wpList_store_row rfl 31 (.tmp 5) (.tmp 14) rfl gz (refT y2) rfl rfl 31 (refT y) l3 (refT_info _) (refT_size _ _) (refT_one _) ?_)
        | (refine wpList_load_row rfl 22 (.tmp 3) rfl (g + 1) rfl 22 LL (0, 0) _ l4 Try.underlying22 rfl iL ?_))
      with_reducible refine (HBT.out _).mono ?_
      rintro e v5 ⟨rfl, hb5⟩
      have r5 := HR4.out.below hb5
      have HR5 := Lib.hid r5
      have HB5 := Lib.hid (below_next HB4.out hb5)
      clear hb5 l3 l4 HR4 HB4
      by_cases hbit : t = 1
      · subst hbit
        rw [if_pos rfl] at hst
        have hm2 := fun W : World => rmulN hy2l HX.out W
        rw [hst] at hm2
        have HM2 := Lib.hid hm2
        have l5 := r5.head
        have l6 := r5.tail.tail.tail.head
        clear r5 hm2 hst
        go_wp2_with (first
          | (refine wpList_load_row rfl 31 (.tmp 5) rfl gz rfl 31 (refT y2) (0, 0) _ l5 Try.underlying31 rfl (refT_info _) ?_)
          | (refine wpList_load_row rfl 31 (.tmp 2) rfl g rfl 31 (refT x) (0, 0) _ l6 Try.underlying31 rfl (refT_info _) ?_))
        with_reducible refine (HM2.out _).mono ?_
        rintro e v7 ⟨rfl, hb7⟩
        have r7 := HR5.out.below hb7
        have l7 := r7.head
        obtain ⟨y3, hy3⟩ : ∃ n, pwN x (E / 2 ^ (256 - (k + 1))) = n := ⟨_, rfl⟩
        rw [hy3]
        have HR8 := Lib.hid (r7.put (fun r hr => by simp only [List.mem_cons, List.not_mem_nil, or_false] at hr; exact HNE.out r (by simpa using hr)) (refT y3))
        have HB8 := Lib.hid (below_row (cs := refT y3) (below_next HB5.out hb7) HGE.out)
        have HY3 := Lib.hid hy3
        clear hb7 r7 l5 l6 HM2 HR5 HB5 hy3
        go_wp2_with (refine wpList_store_row rfl 31 (.tmp 5) (.tmp 21) rfl gz (refT y3) rfl rfl 31 (refT y2) l7 (refT_info _) (refT_size _ _) (refT_one _) ?_)
        go_roundw
        case rel => exact ⟨k + 1, by omega, by rw [← HE2.out], by rw [HY3.out]; exact HR8, HB8⟩
        case measure => simp [intOf] <;> omega
      · have ht0 : t = 0 := by omega
        subst ht0
        rw [if_neg (by omega)] at hst
        have HST := Lib.hid hst
        clear r5 hst hbit
        go_wp2_with fail
        go_roundw
        case rel => exact ⟨k + 1, by omega, by rw [← HE2.out], by rw [← HST.out]; exact HR5, HB5⟩
        case measure => simp [intOf] <;> omega
    · obtain rfl : k = 256 := by omega
      have HPE : Hid (pwN x (E / 2 ^ (256 - 256)) = pwN x E) := Lib.hid (by rw [Nat.sub_self, Nat.pow_zero, Nat.div_one])
      rw [HPE.out] at HR1
      obtain ⟨y, hy⟩ : ∃ y, pwN x E = y := ⟨_, rfl⟩
      rw [hy] at HR1
      have HY := Lib.hid hy
      have l1 := HR1.out.head
      have l2 := HR1.out.tail.head
      have HB := Lib.hid (show Below w.heap.size w (wr.setRow (g + 1 + 1) (refT y)) from below_row HB1.out (by rw [HG.out]; omega))
      have hp : ¬ (0 : Int) ≤ 255 - ((256 : Nat) : Int) := by omega
      clear hy HR1 HB1 HPE
      go_wp2_with (first
        | (refine wpList_load_row rfl 31 (.tmp 5) rfl gz rfl 31 (refT y) (0, 0) _ l1 Try.underlying31 rfl (refT_info _) ?_)
        | (refine wpList_store_row rfl 31 (.tmp 4) (.tmp 22) rfl (g + 1 + 1) (refT y) rfl rfl 31 (refT 0) l2 (refT_info _) (refT_size _ _) (refT_one _) ?_))
      (try simp only [Exit.inBlock, Exit.then])
      refine bodyPost_ret (results_cell_row rfl _ _ (g + 1 + 1) _ (refT y) _ _ rfl (setRow_heap _ _ _ _ _ _ l2) Try.underlying31 rfl (refT_info _)) rfl ?_
      exact ⟨by rw [HY.out], HB.out⟩
end Go.Proofs.Ytfejabfmhddepaa

namespace Go.Proofs.Ytfejabfmhddepaa
open Go.RowKit
set_option linter.unusedVariables false
set_option maxRecDepth 100000

theorem or_half (a b : Nat) (ha : a < 128) (hb : b < 2) : bits .or .u8 (a : Int) ((b * 128 : Nat) : Int) = ((a + b * 128 : Nat) : Int) := by
  have h := u8_or' (UInt8.ofNat a) (UInt8.ofNat (b * 128))
  have e1 : (UInt8.ofNat a).toNat = a := by simp; omega
  have e2 : (UInt8.ofNat (b * 128)).toNat = b * 128 := by simp; omega
  rw [UInt8.toNat_or, e1, e2] at h
  rw [h]
  have hb2 : b = 0 ∨ b = 1 := by omega
  rcases hb2 with rfl | rfl
  · simp
  · have := Nat.two_pow_add_eq_or_of_lt (i := 7) (b := a) (by omega) 1
    rw [Nat.or_comm, show 1 * 128 = 2 ^ 7 * 1 by decide, ← this, Nat.add_comm]
theorem u8_and1 (v : Nat) (h : v < 256) : bits .and .u8 (v : Int) 1 = ((v % 2 : Nat) : Int) := by
  have e := u8_and' (UInt8.ofNat v) 1
  have e1 : (UInt8.ofNat v).toNat = v := by simp; omega
  rw [UInt8.toNat_and, e1, show (1 : UInt8).toNat = 2 ^ 1 - 1 by decide, Nat.and_two_pow_sub_one_eq_mod] at e
  exact e

set_option maxHeartbeats 6400000 in
theorem ronesN (less halved : Nat) (h1 : less ≤ 237) (h2 : halved ≤ 100) (w : World) :
    Calls Try.prog 81 #[.int .i64 (less : Int), .int .i64 (halved : Int)] w (RetV w (.agg (arrB (leB 32 ((PP - less) / 2 ^ halved))))) := by
  have hz32 := zero32_zero
  have HLE := Lib.hid h1
  have HHA := Lib.hid h2
  have h0 : ((w.alloc (.cells zero32 22)).alloc (.cells zero32 22)).heap[w.heap.size + 1]? = some (.cells zero32 22 (0, 0)) := heap_alloc2_new _ _ _
  have HR1 := Lib.hid (((RowsW.nil w).box zero32 22).new zero32 (arrB (fillB 0)) 22)
  have HB1 := Lib.hid (below_new (below_box (Below.refl w.heap.size w) zero32 22) zero32 (arrB (fillB 0)) 22)
  have hq : arrB (fillB 0) = zero32 := rfl
  rw [World.size_alloc, hq] at HR1 HB1
  clear h1 h2
  go_enter Try.func81, Try.ntmps81
  go_wp2_with (refine wpList_store_row rfl 22 (.tmp 5) (.tmp 10) rfl (w.heap.size + 1) zero32 rfl rfl 22 zero32 h0 zero32_info rfl zero32_one ?_)
  obtain ⟨W1, hW1⟩ : ∃ W, ((w.alloc (.cells zero32 22)).alloc (.cells zero32 22)).setRow (w.heap.size + 1) zero32 = W := ⟨_, rfl⟩
  rw [hW1] at HR1 HB1
  obtain ⟨g, hg⟩ : ∃ g, w.heap.size = g := ⟨_, rfl⟩
  rw [hg] at HR1 hW1
  rw [hg, hW1]
  rw [← hq] at HR1
  have HG := Lib.hid hg
  clear hW1 hg h0 hq
  go_loopw [6] (fun i wr => ∃ k : Nat, k ≤ 32 ∧ i = .int .i64 (k : Int) ∧ Hid (RowsW wr [(g + 1, arrB (fillB k), 22), (g, zero32, 22)]) ∧ Hid (Below w.heap.size w wr)) (fun i _ => 32 - (intOf i).toNat)
  case atStart => exact ⟨0, by omega, rfl, HR1, HB1⟩
  case round =>
    clear HR1 HB1
    obtain ⟨k, hk, rfl, HR1, HB1⟩ := hrel
    by_cases hlt : k < 32
    · have cx : wr.cell? ⟨g + 1, k, none⟩ = some (.int .u8 (((fillB k).getD k 0).toNat : Int)) := by rw [cell_of_row _ _ _ _ _ _ HR1.out.head, arrB_get _ _ (by rw [fillB_len hk]; exact hlt)]
      have fx := frozen_row HR1.out.head k
      have hs := HR1.out.set (by simp) k (.int .u8 255)
      rw [show (255 : Int) = ((255 : UInt8).toNat : Int) from rfl, arrB_set, fillB_set hlt] at hs
      have HR2 : Hid (RowsW (wr.setCell ⟨g + 1, k, none⟩ (.int .u8 255)) [(g + 1, arrB (fillB (k + 1)), 22), (g, zero32, 22)]) := Lib.hid hs
      have HB2 := Lib.hid (HB1.out.setCell (p := ⟨g + 1, k, none⟩) (by show w.heap.size ≤ g + 1; rw [HG.out]; omega) (.int .u8 255))
      generalize ((fillB k).getD k 0) = old at *
      have b5 : 0 ≤ (k : Int) := by omega
      have b6 : (k : Int) < 32 := by omega
      clear HR1 HB1 hs
      go_wp2_with fail
      go_roundw
      case rel => exact ⟨k + 1, by omega, by go_num, HR2, HB2⟩
      case measure => simp [intOf] <;> omega
    · obtain rfl : k = 32 := by omega
      rw [fillB_end] at HR1
      obtain ⟨L, hL⟩ : ∃ L, List.replicate 32 (255 : UInt8) = L := ⟨_, rfl⟩
      have hLl : L.length = 32 := by rw [← hL]; simp
      rw [hL] at HR1
      have hle := HLE.out
      obtain ⟨d, hd⟩ : ∃ d, 237 - less = d := ⟨_, rfl⟩
      have c1 : wr.cell? ⟨g + 1, 31, none⟩ = some (.int .u8 ((L.getD 31 0).toNat : Int)) := by rw [cell_of_row _ _ _ _ _ _ HR1.out.head, arrB_get _ _ (by omega)]
      have f1 := frozen_row HR1.out.head 31
      have hs := HR1.out.set (by simp) 31 (.int .u8 127)
      rw [show (127 : Int) = ((127 : UInt8).toNat : Int) from rfl, arrB_set] at hs
      rw [show ((127 : UInt8).toNat : Int) = 127 from rfl] at hs
      have c0 : (wr.setCell ⟨g + 1, 31, none⟩ (.int .u8 127)).cell? ⟨g + 1, 0, none⟩ = some (.int .u8 (((L.set 31 127).getD 0 0).toNat : Int)) := by rw [cell_of_row _ _ _ _ _ _ hs.head, arrB_get _ _ (by rw [List.length_set]; omega)]
      have f0 := frozen_row hs.head 0
      have e2 : ((UInt8.ofNat d).toNat : Int) = (d : Int) := by simp; omega
      have hs2 := hs.set (by simp) 0 (.int .u8 ((UInt8.ofNat d).toNat : Int))
      rw [arrB_set, e2, ← hL, ← hd, ones_low hle, hd] at hs2
      have hb2 := (HB1.out.setCell (p := ⟨g + 1, 31, none⟩) (by show w.heap.size ≤ g + 1; rw [HG.out]; omega) (.int .u8 127)).setCell (p := ⟨g + 1, 0, none⟩) (by show w.heap.size ≤ g + 1; rw [HG.out]; omega) (.int .u8 (d : Int))
      have t1 : IntKind.i64.wrap (237 - (less : Int)) = (d : Int) := by rw [IntKind.wrap_i64]; omega
      have t2 : (237 : Int) - (less : Int) = (d : Int) := by omega
      have t3 : IntKind.u8.wrap (d : Int) = (d : Int) := by rw [IntKind.wrap_u8]; omega
      obtain ⟨E0, hE0⟩ : ∃ E, PP - less = E := ⟨_, rfl⟩
      have hE0l : E0 < 256 ^ 32 := by rw [← hE0]; exact Nat.lt_of_le_of_lt (Nat.sub_le _ _) PP_lt
      rw [hE0] at hs2
      have HE0 := Lib.hid hE0
      have HE0L := Lib.hid hE0l
      have HR2 : Hid (RowsW ((wr.setCell ⟨g + 1, 31, none⟩ (.int .u8 127)).setCell ⟨g + 1, 0, none⟩ (.int .u8 (d : Int))) [(g + 1, arrB (leB 32 (E0 / 2 ^ 0)), 22), (g, zero32, 22)]) := Lib.hid (by rw [Nat.pow_zero, Nat.div_one]; exact hs2)
      have HB2 := Lib.hid hb2
      generalize (L.getD 31 0) = old1 at *
      generalize ((L.set 31 127).getD 0 0) = old0 at *
      have dk : decide (((32 : Nat) : Int) < 32) = false := by decide
      clear hs hs2 hb2 e2 hL hLl hlt hk hd hle hE0 hE0l HR1 HB1
      go_wp2_with fail
      obtain ⟨W4, hW4⟩ : ∃ W, (wr.setCell ⟨g + 1, 31, none⟩ (.int .u8 127)).setCell ⟨g + 1, 0, none⟩ (.int .u8 (d : Int)) = W := ⟨_, rfl⟩
      rw [hW4] at HR2 HB2
      rw [hW4]
      clear hW4 c0 c1 f0 f1 t1 t2 t3
      go_loopw [7] (fun i wr => ∃ n : Nat, n ≤ halved ∧ i = .int .i64 (n : Int) ∧ Hid (RowsW wr [(g + 1, arrB (leB 32 (E0 / 2 ^ n)), 22), (g, zero32, 22)]) ∧ Hid (Below w.heap.size w wr)) (fun i _ => halved - (intOf i).toNat)
      case atStart => exact ⟨0, by omega, rfl, HR2, HB2⟩
      case round =>
        clear HR2 HB2
        obtain ⟨n, hn, rfl, HR2, HB2⟩ := hrel
        by_cases hlt2 : n < halved
        · obtain ⟨E, hE⟩ : ∃ E, E0 / 2 ^ n = E := ⟨_, rfl⟩
          have hEl : E < 256 ^ 32 := by rw [← hE]; exact Nat.lt_of_le_of_lt (Nat.div_le_self _ _) HE0L.out
          have HNX : Hid (leB 32 (E / 2) = leB 32 (E0 / 2 ^ (n + 1))) := Lib.hid (by rw [← hE, Nat.div_div_eq_div_mul, Nat.pow_succ])
          rw [hE, ← halfB9_zero] at HR2
          have HEL := Lib.hid hEl
          have HNL := Lib.hid hlt2
          have dn : decide ((n : Int) < (halved : Int)) = true := decide_eq_true (by omega)
          clear hE hEl hlt2 hn
          go_wp2_with fail
          go_loopw [8] (fun i wr => ∃ k : Nat, k ≤ 32 ∧ i = .int .i64 (k : Int) ∧ Hid (RowsW wr [(g + 1, arrB (halfB9 E k), 22), (g, zero32, 22)]) ∧ Hid (Below w.heap.size w wr)) (fun i _ => 32 - (intOf i).toNat)
          case atStart => exact ⟨0, by omega, rfl, HR2, HB2⟩
          case round =>
            clear HR2 HB2
            obtain ⟨k, hk, rfl, HR2, HB2⟩ := hrel
            by_cases hlt3 : k < 32
            · obtain ⟨v0, hv0⟩ : ∃ v, E / 256 ^ k % 256 = v := ⟨_, rfl⟩
              have hv0l : v0 < 256 := by rw [← hv0]; exact Nat.mod_lt _ (by omega)
              have cx : wr.cell? ⟨g + 1, k, none⟩ = some (.int .u8 (v0 : Int)) := by
                rw [cell_of_row _ _ _ _ _ _ HR2.out.head, arrB_get _ _ (by rw [halfB9_len _ hk]; exact hlt3), halfB9_get E (Nat.le_refl k) hlt3 hk, ← hv0]
                simp
              have fx := frozen_row HR2.out.head k
              obtain ⟨b, hb⟩ : ∃ b, E / 256 ^ (k + 1) % 2 = b := ⟨_, rfl⟩
              have hbl : b < 2 := by rw [← hb]; exact Nat.mod_lt _ (by omega)
              have hby := half_byte E k
              rw [hv0, hb] at hby
              obtain ⟨h0, hh0⟩ : ∃ h, v0 / 2 = h := ⟨_, rfl⟩
              have hh0l : h0 < 128 := by omega
              rw [hh0] at hby
              obtain ⟨nb, hnb⟩ : ∃ x, h0 + b * 128 = x := ⟨_, rfl⟩
              have hor := or_half h0 b hh0l hbl
              rw [hnb] at hby hor
              obtain ⟨m, hm⟩ : ∃ m, b * 128 = m := ⟨_, rfl⟩
              rw [hm] at hor
              have enb : ((UInt8.ofNat (E / 2 / 256 ^ k)).toNat : Int) = (nb : Int) := by rw [← hby]; simp
              have hs := HR2.out.set (by simp) k (.int .u8 ((UInt8.ofNat (E / 2 / 256 ^ k)).toNat : Int))
              rw [arrB_set, halfB9_set E hlt3, enb] at hs
              have HR3 := Lib.hid hs
              have HB3 := Lib.hid (HB2.out.setCell (p := ⟨g + 1, k, none⟩) (by show w.heap.size ≤ g + 1; rw [HG.out]; omega) (.int .u8 (nb : Int)))
              have t1 : (v0 : Int) / 2 = (h0 : Int) := by omega
              have b5 : 0 ≤ (k : Int) := by omega
              have b6 : (k : Int) < 32 := by omega
              by_cases hk31 : k < 31
              · obtain ⟨j, hj⟩ : ∃ j, k + 1 = j := ⟨_, rfl⟩
                obtain ⟨v1, hv1⟩ : ∃ v, E / 256 ^ j % 256 = v := ⟨_, rfl⟩
                have hv1l : v1 < 256 := by rw [← hv1]; exact Nat.mod_lt _ (by omega)
                have cy : wr.cell? ⟨g + 1, j, none⟩ = some (.int .u8 (v1 : Int)) := by
                  rw [cell_of_row _ _ _ _ _ _ HR2.out.head, arrB_get _ _ (by rw [halfB9_len _ hk]; omega), halfB9_get E (show k ≤ j by omega) (by omega) hk, ← hv1]
                  simp
                have hvb : v1 % 2 = b := by rw [← hv1, ← hb, hj]; omega
                have hand := u8_and1 v1 hv1l
                rw [hvb] at hand
                have d31 : decide ((k : Int) < 31) = true := decide_eq_true (by omega)
                have t2 : (k : Int) + 1 = (j : Int) := by omega
                have t3' : (b : Int) * 128 = (m : Int) := by omega
                have t3 : IntKind.u8.wrap (m : Int) = (m : Int) := by rw [IntKind.wrap_u8]; omega
                have b7 : 0 ≤ (j : Int) := by omega
                have b8 : (j : Int) < 32 := by omega
                clear HR2 HB2 hs enb hnb hby hh0 hb hv0 hv1 hvb hj hlt3 hk hm
                go_wp2_with fail
                go_roundw
                case rel => exact ⟨k + 1, by omega, by go_num, HR3, HB3⟩
                case measure => simp [intOf] <;> omega
              · have hk2 : k = 31 := by omega
                have hb0 : b = 0 := by rw [← hb, hk2]; exact half_top HEL.out
                have hm0 : m = 0 := by rw [← hm, hb0]
                rw [hm0] at hor
                have hor0 : bits .or .u8 (h0 : Int) 0 = (nb : Int) := hor
                have d31 : decide ((k : Int) < 31) = false := decide_eq_false (by omega)
                have d31' : ¬ (k : Int) < 31 := by omega
                clear hor hm hm0 hb0 hk2 hk31
                clear HR2 HB2 hs enb hnb hby hh0 hb hv0 hlt3
                go_wp2_with fail
                go_roundw
                case rel => exact ⟨k + 1, by omega, by go_num, HR3, HB3⟩
                case measure => simp [intOf] <;> omega
            · have hk32 : k = 32 := by omega
              rw [hk32, halfB9_end, HNX.out] at HR2
              have d32 : decide ((k : Int) < 32) = false := decide_eq_false (by omega)
              have hnl := HNL.out
              have hha := HHA.out
              clear hlt3
              go_wp2_with fail
              go_roundw
              case rel => exact ⟨n + 1, by omega, by go_num, HR2, HB2⟩
              case measure => simp [intOf] <;> omega
        · have hnh : n = halved := by omega
          rw [hnh] at HR2
          obtain ⟨T, hT⟩ : ∃ T, arrB (leB 32 (E0 / 2 ^ halved)) = T := ⟨_, rfl⟩
          have iT : (Try.prog.info? 22).map (·.size) = some T.size := by rw [← hT]; exact arr32_info (leB_len _ _)
          have zT : zero32.size = T.size := by rw [← hT]; exact zero32_size (leB_len _ _)
          have oT : T.all (·.oneCell') = true := by rw [← hT]; exact arrB_one _
          rw [hT] at HR2
          have l1 := HR2.out.head
          have l2 := HR2.out.tail.head
          have HB := Lib.hid (show Below w.heap.size w (wr.setRow g T) from below_row HB2.out (by rw [HG.out]; exact Nat.le_refl _))
          have HT : Hid (arrB (leB 32 ((PP - less) / 2 ^ halved)) = T) := Lib.hid (by rw [HE0.out]; exact hT)
          have dn : decide ((n : Int) < (halved : Int)) = false := decide_eq_false (by omega)
          clear hlt2 hT HR2 HB2
          go_wp2_with (first
            | (refine wpList_load_row rfl 22 (.tmp 5) rfl (g + 1) rfl 22 T (0, 0) _ l1 Try.underlying22 rfl iT ?_)
            | (refine wpList_store_row rfl 22 (.tmp 4) (.tmp 47) rfl g T rfl rfl 22 zero32 l2 iT zT oT ?_))
          (try simp only [Exit.inBlock, Exit.then])
          refine bodyPost_ret (results_cell_row rfl _ _ g _ T _ _ rfl (setRow_heap _ _ _ _ _ _ l2) Try.underlying22 rfl iT) rfl ?_
          exact ⟨by rw [HT.out], HB.out⟩
end Go.Proofs.Ytfejabfmhddepaa

namespace Go.Proofs.Ytfejabfmhddepaa
open Go.RowKit
set_option linter.unusedVariables false
set_option maxRecDepth 100000

/-- the exponents' bytes -/
def kA : Array Value := bytT KP
def kB : Array Value := bytT (KP + 1)
def kQ : Array Value := bytT (2 * KP + 1)
def kI : Array Value := bytT (PP - 2)
theorem kA_info : (Try.prog.info? 22).map (·.size) = some kA.size := bytT_info _
theorem kB_info : (Try.prog.info? 22).map (·.size) = some kB.size := bytT_info _
theorem kQ_info : (Try.prog.info? 22).map (·.size) = some kQ.size := bytT_info _
theorem kI_info : (Try.prog.info? 22).map (·.size) = some kI.size := bytT_info _
theorem kA_one : kA.all (·.oneCell') = true := bytT_one _
theorem kB_one : kB.all (·.oneCell') = true := bytT_one _
theorem kQ_one : kQ.all (·.oneCell') = true := bytT_one _
theorem kI_one : kI.all (·.oneCell') = true := bytT_one _
theorem kA_at : kA[0]? = some (.int .u8 253) := by unfold kA; rw [bytT_get _ _ (by omega), K_low]; rfl
theorem kA_set : kA.setIfInBounds 0 (.int .u8 254) = kB := by
  unfold kA kB bytT
  rw [show (254 : Int) = ((254 : UInt8).toNat : Int) from rfl, arrB_set, K_inc]
theorem rones_kA (W : World) : Calls Try.prog 81 #[.int .i64 1, .int .i64 3] W (RetV W (.agg kA)) := by have h := ronesN 1 3 (by omega) (by omega) W; rw [ones13] at h; exact h
theorem rones_kQ (W : World) : Calls Try.prog 81 #[.int .i64 1, .int .i64 2] W (RetV W (.agg kQ)) := by have h := ronesN 1 2 (by omega) (by omega) W; rw [ones12] at h; exact h
theorem rones_kI (W : World) : Calls Try.prog 81 #[.int .i64 2, .int .i64 0] W (RetV W (.agg kI)) := by have h := ronesN 2 0 (by omega) (by omega) W; rw [ones20] at h; exact h
theorem rpow_k {x : Nat} (hx : x < PP) (e : Nat) (he : e < 256 ^ 32) (W : World) : Calls Try.prog 80 #[.agg (refT x), .agg (bytT e)] W (RetV W (.agg (refT (pwN x e)))) := by
  have h := rpowN hx (leB 32 e) (leB_len _ _) W
  rw [leN_leB 32 e he] at h
  exact h
theorem rpow_kB {x : Nat} (hx : x < PP) (W : World) : Calls Try.prog 80 #[.agg (refT x), .agg kB] W (RetV W (.agg (refT (pwN x (KP + 1))))) := rpow_k hx _ (by decide) W
theorem rpow_kQ {x : Nat} (hx : x < PP) (W : World) : Calls Try.prog 80 #[.agg (refT x), .agg kQ] W (RetV W (.agg (refT (pwN x (2 * KP + 1))))) := rpow_k hx _ (by decide) W
theorem rpow_kI {x : Nat} (hx : x < PP) (W : World) : Calls Try.prog 80 #[.agg (refT x), .agg kI] W (RetV W (.agg (refT (pwN x (PP - 2))))) := rpow_k hx _ (by decide) W

set_option maxHeartbeats 800000 in
theorem rinvN {x : Nat} (hx : x < PP) (w : World) : Calls Try.prog 43 #[.agg (refT x)] w (RetV w (.agg (refT (invN x)))) := by
  have hzR := refT_zero
  have HP : Hid (∀ W : World, Calls Try.prog 80 #[.agg (refT x), .agg kI] W (RetV W (.agg (refT (invN x))))) := Lib.hid fun W => rpow_kI hx W
  have HR0 := Lib.hid (((RowsW.nil w).box (refT x) 31).box (refT 0) 31)
  have HB0 := Lib.hid (below_box (below_box (Below.refl w.heap.size w) (refT x) 31) (refT 0) 31)
  rw [World.size_alloc] at HR0
  have HX := Lib.hid hx
  clear hx
  go_enter Try.func43, Try.ntmps43
  go_upto_region 1 with fail
  obtain ⟨W0, hW0⟩ : ∃ W, (w.alloc (.cells (refT x) 31)).alloc (.cells (refT 0) 31) = W := ⟨_, rfl⟩
  obtain ⟨g0, hg0⟩ : ∃ g, w.heap.size = g := ⟨_, rfl⟩
  rw [hW0] at HR0 HB0
  rw [hg0] at HR0
  rw [hW0, hg0]
  have HG0 := Lib.hid hg0
  clear hW0 hg0
  refine wp_region_noPanic ?_
  refine wp_region_held_tail (S := fun W => Below W0.heap.size W0 W) 3 (by kernel_rfl) ⟨by kernel_rfl, by kernel_rfl, by kernel_rfl, by kernel_rfl⟩ (by exact (Below.refl _ _).drew) (fun hT inv hS => ?_)
  refine' take_atT 0 hT inv rfl (by omega) (by kernel_rfl) (by kernel_rfl) (fun _ _ _ h => h) (by rfl) hS ?_ ?_ ?_
  rotate_left 2
  · intro W hSW; exact run_loadR rfl rfl (HR0.out.below hSW).tail.head Try.underlying31 rfl (refT_info _)
  · simp only [List.set_cons_succ, List.set_cons_zero]; rfl
  intro inv
  refine call_atT 1 inv rfl (by omega) (by kernel_rfl) (by rfl) (fun K hK => ?_)
  go_simp
  with_reducible refine (rones_kI _).mono ?_
  rintro e vq1 ⟨rfl, hbq1⟩
  have kbq1 := below_next hS hbq1
  clear hS hbq1
  refine hK.out _ _ (by exact kbq1) (fun inv hS => ?_)
  clear hK K
  refine call_atT 2 inv rfl (by omega) (by kernel_rfl) (by rfl) (fun K hK => ?_)
  go_simp
  obtain ⟨n2, hn2⟩ : ∃ y : Nat, pwN x (PP - 2) = y := ⟨_, rfl⟩
  have Hn2 := Lib.hid hn2
  have HLn2 : Hid (n2 < PP) := Lib.hid (by rw [← hn2]; exact pwN_lt _ _)
  clear hn2
  have kq3 := fun W : World => (rpow_kI HX.out) W
  rw [Hn2.out] at kq3
  have Kq3 := Lib.hid kq3
  clear kq3
  with_reducible refine (Kq3.out _).mono ?_
  rintro e vq3 ⟨rfl, hbq3⟩
  have kbq3 := below_next kbq1 hbq3
  clear hS hbq3
  refine hK.out _ _ (by exact kbq3) (fun inv hS => ?_)
  clear hK K
  refine done_atT (by kernel_rfl) ?_
  simp only [List.drop_succ_cons, List.drop_zero]
  clear hS
  (try simp only [Act.put])
  have HRq4 := Lib.hid (HR0.out.below kbq3)
  have HBq4 := Lib.hid (below_next HB0.out kbq3)
  have lsq5 := HRq4.out.head
  have HRq5 : Hid (RowsW (vq3.setRow (g0 + 1) (refT n2)) [((g0 + 1), (refT n2), 31), (g0, (refT x), 31)]) := Lib.hid ⟨setRow_heap _ _ _ _ _ _ lsq5, (by rw [setRow_other _ _ _ _ (by omega)]; exact HRq4.out.tail.head), trivial⟩
  have HBq5 := Lib.hid (below_row (g := (g0 + 1)) (cs := (refT n2)) HBq4.out (by have := HG0.out; omega))
  go_wp2_with (refine wpList_store_row rfl 31 (.tmp 2) (.tmp 5) rfl (g0 + 1) (refT n2) rfl rfl 31 (refT 0) lsq5 (refT_info _) (refT_size _ _) (refT_one _) ?_)
  obtain ⟨Wq5, hWq5⟩ : ∃ W, vq3.setRow (g0 + 1) (refT n2) = W := ⟨_, rfl⟩
  rw [hWq5] at HRq5 HBq5
  (try rw [hWq5])
  clear hWq5 lsq5
  refine NoPanic.normal ?_
  go_wp2_with fail
  (try simp only [Exit.inBlock, Exit.then])
  refine bodyPost_ret (results_cell_row rfl _ _ (g0 + 1) _ (refT n2) _ _ rfl HRq5.out.head Try.underlying31 rfl (refT_info _)) rfl ?_
  exact ⟨by rw [show invN x = n2 from Hn2.out], HBq5.out⟩

set_option maxHeartbeats 6400000 in
theorem rsqrtN {x : Nat} (hx : x < PP) (w : World) : Calls Try.prog 88 #[.agg (refT x)] w (RetV w (.tuple #[.agg (refT (rootN x)), .bool (isN x)])) := by
  have hzR := refT_zero
  have hz32 := zero32_zero
  have HR0 := Lib.hid (((RowsW.nil w).box (refT x) 31).box (refT 0) 31)
  have HB0 := Lib.hid (below_box (below_box (Below.refl w.heap.size w) (refT x) 31) (refT 0) 31)
  rw [World.size_alloc] at HR0
  have HX := Lib.hid hx
  clear hx
  go_enter Try.func88, Try.ntmps88
  go_wp2_with fail
  obtain ⟨W0, hW0⟩ : ∃ W, (w.alloc (.cells (refT x) 31)).alloc (.cells (refT 0) 31) = W := ⟨_, rfl⟩
  obtain ⟨g0, hg0⟩ : ∃ g, w.heap.size = g := ⟨_, rfl⟩
  rw [hW0] at HR0 HB0
  rw [hg0] at HR0
  rw [hW0, hg0]
  have HG0 := Lib.hid hg0
  clear hW0 hg0
  with_reducible refine (rones_kA _).mono ?_
  rintro e vq1 ⟨rfl, hbq1⟩
  have HRq1 := Lib.hid (HR0.out.below hbq1)
  have HBq1 := Lib.hid (below_next HB0.out hbq1)
  clear hbq1
  have h0q2 : (vq1.alloc (.cells zero32 22)).heap[vq1.heap.size]? = some (.cells zero32 22 (0, 0)) := heap_alloc_new _ _
  have HRq2 := Lib.hid (HRq1.out.new zero32 kA 22)
  have HBq2 := Lib.hid (below_new HBq1.out zero32 kA 22)
  have HNq2 := Lib.hid HRq1.out.ne
  have HGq2 := Lib.hid HBq1.out.size
  go_upto_region 2 with (refine wpList_store_row rfl 22 (.tmp 4) (.tmp 6) rfl vq1.heap.size kA rfl rfl 22 zero32 h0q2 kA_info (zero32_byt _) kA_one ?_)
  obtain ⟨Wq2, hWq2⟩ : ∃ W, (vq1.alloc (.cells zero32 22)).setRow vq1.heap.size kA = W := ⟨_, rfl⟩
  obtain ⟨gq2, hgq2⟩ : ∃ g, vq1.heap.size = g := ⟨_, rfl⟩
  rw [hWq2, hgq2] at HRq2
  rw [hWq2] at HBq2
  rw [hgq2] at HNq2 HGq2
  rw [hWq2, hgq2]
  clear hWq2 hgq2 h0q2
  have NEq2_0 : Hid (g0 ≠ gq2) := Lib.hid (HNq2.out (g0, (refT x), 31) (by simp))
  have NEq2_1 : Hid ((g0 + 1) ≠ gq2) := Lib.hid (HNq2.out ((g0 + 1), (refT 0), 31) (by simp))
  have cx : Wq2.cell? ⟨gq2, 0, none⟩ = some (.int .u8 253) := by rw [cell_of_row _ _ _ _ _ _ HRq2.out.head, kA_at]
  have fx := frozen_row HRq2.out.head 0
  have hs := HRq2.out.set HNq2.out 0 (.int .u8 254)
  rw [kA_set] at hs
  have hb9 := HBq2.out.setCell (p := ⟨gq2, 0, none⟩) (by show w.heap.size ≤ gq2; exact HGq2.out) (.int .u8 254)
  obtain ⟨W9, hW9⟩ : ∃ W9, Wq2.setCell ⟨gq2, 0, none⟩ (.int .u8 254) = W9 := ⟨_, rfl⟩
  rw [hW9] at hs hb9
  have HR9 := Lib.hid hs
  have HB9 := Lib.hid hb9
  have HW9 := Lib.hid hW9
  clear hs hb9 hW9
  go_upto_region 3 with fail
  rw [HW9.out]
  clear HW9 cx fx
  have l3 := HR9.out.tail.tail.head
  have l4 := HR9.out.head
  go_wp2_with (first
      | (refine wpList_load_row rfl 31 (.tmp 1) rfl g0 rfl 31 (refT x) (0, 0) _ l3 Try.underlying31 rfl (refT_info _) ?_)
      | (refine wpList_load_row rfl 22 (.tmp 4) rfl gq2 rfl 22 kB (0, 0) _ l4 Try.underlying22 rfl kB_info ?_))
  obtain ⟨n5, hn5⟩ : ∃ y : Nat, pwN x (KP + 1) = y := ⟨_, rfl⟩
  have Hn5 := Lib.hid hn5
  have HLn5 : Hid (n5 < PP) := Lib.hid (by rw [← hn5]; exact pwN_lt _ _)
  clear hn5
  have kq6 := fun W : World => (rpow_kB HX.out) W
  rw [Hn5.out] at kq6
  have Kq6 := Lib.hid kq6
  clear kq6
  with_reducible refine (Kq6.out _).mono ?_
  rintro e vq6 ⟨rfl, hbq6⟩
  have HRq6 := Lib.hid (HR9.out.below hbq6)
  have HBq6 := Lib.hid (below_next HB9.out hbq6)
  clear hbq6
  have h0q7 : (vq6.alloc (.cells (refT 0) 31)).heap[vq6.heap.size]? = some (.cells (refT 0) 31 (0, 0)) := heap_alloc_new _ _
  have HRq7 := Lib.hid (HRq6.out.new (refT 0) (refT n5) 31)
  have HBq7 := Lib.hid (below_new HBq6.out (refT 0) (refT n5) 31)
  have HNq7 := Lib.hid HRq6.out.ne
  have HGq7 := Lib.hid HBq6.out.size
  go_upto_region 4 with (refine wpList_store_row rfl 31 (.tmp 5) (.tmp 13) rfl vq6.heap.size (refT n5) rfl rfl 31 (refT 0) h0q7 (refT_info _) (refT_size _ _) (refT_one _) ?_)
  obtain ⟨Wq7, hWq7⟩ : ∃ W, (vq6.alloc (.cells (refT 0) 31)).setRow vq6.heap.size (refT n5) = W := ⟨_, rfl⟩
  obtain ⟨gq7, hgq7⟩ : ∃ g, vq6.heap.size = g := ⟨_, rfl⟩
  rw [hWq7, hgq7] at HRq7
  rw [hWq7] at HBq7
  rw [hgq7] at HNq7 HGq7
  rw [hWq7, hgq7]
  clear hWq7 hgq7 h0q7
  have NEq7_0 : Hid (g0 ≠ gq7) := Lib.hid (HNq7.out (g0, (refT x), 31) (by simp))
  have NEq7_1 : Hid ((g0 + 1) ≠ gq7) := Lib.hid (HNq7.out ((g0 + 1), (refT 0), 31) (by simp))
  have NEq7_2 : Hid (gq2 ≠ gq7) := Lib.hid (HNq7.out (gq2, kB, 22) (by simp))
  obtain ⟨n8, hn8⟩ : ∃ x_ : Nat, (n5 * n5) % PP = x_ := ⟨_, rfl⟩
  have Hn8 := Lib.hid hn8
  have HLn8 : Hid (n8 < PP) := Lib.hid (by rw [← hn8]; exact Nat.mod_lt _ (by decide))
  clear hn8
  by_cases hA : n8 = x
  · have HA1 := Lib.hid hA
    clear hA
    refine wp_region_noPanic ?_
    refine wp_region_held_drew (S := fun W => Below Wq7.heap.size Wq7 W) (by kernel_rfl) (by exact (Below.refl _ _).drew) (fun hS => ?_)
    refine' take_at 0 rfl (by kernel_rfl) (by kernel_rfl) (by kernel_rfl) (fun _ _ _ h => h) (by rfl) hS ?_ ?_ ?_
    rotate_left 2
    · intro W hSW; exact run_loadR rfl rfl (HRq7.out.below hSW).head Try.underlying31 rfl (refT_info _)
    · simp only [List.set_cons_succ, List.set_cons_zero]; rfl
    refine' take_at 1 rfl (by kernel_rfl) (by kernel_rfl) (by kernel_rfl) (fun _ _ _ h => h) (by rfl) hS ?_ ?_ ?_
    rotate_left 2
    · intro W hSW; exact run_loadR rfl rfl (HRq7.out.below hSW).head Try.underlying31 rfl (refT_info _)
    · simp only [List.set_cons_succ, List.set_cons_zero]; rfl
    refine' take_at 3 rfl (by kernel_rfl) (by kernel_rfl) (by kernel_rfl) (fun _ _ _ h => h) (by rfl) hS ?_ ?_ ?_
    rotate_left 2
    · intro W hSW; exact run_loadR rfl rfl (HRq7.out.below hSW).tail.tail.tail.head Try.underlying31 rfl (refT_info _)
    · simp only [List.set_cons_succ, List.set_cons_zero]; rfl
    refine call_at 2 rfl (by kernel_rfl) (by rfl) (fun K hK => ?_)
    go_simp
    have kq9 := fun W : World => (rmulN HLn5.out HLn5.out) W
    rw [Hn8.out] at kq9
    have Kq9 := Lib.hid kq9
    clear kq9
    with_reducible refine (Kq9.out _).mono ?_
    rintro e vq9 ⟨rfl, hbq9⟩
    have kbq9 := below_next hS hbq9
    clear hS hbq9
    refine hK.out _ _ (by exact kbq9) (fun hS => ?_)
    clear hK K
    refine' take_at 4 rfl (by kernel_rfl) (by kernel_rfl) (by kernel_rfl) (fun _ _ _ h => h) (by rfl) hS ?_ ?_ ?_
    rotate_left 2
    · intro W hSW; exact run_eql2 rfl rfl rfl guardR (neRefT HLn8.out HX.out (HA1.out) W)
    · simp only [List.set_cons_succ, List.set_cons_zero]; rfl
    refine wpAnyH_done (by kernel_rfl) ?_ _
    refine NoPanic.normal ?_
    clear hS
    (try simp only [Act.put])
    have HRq10 := Lib.hid (HRq7.out.below kbq9)
    have HBq10 := Lib.hid (below_next HBq7.out kbq9)
    go_upto_region 6 with fail
    refine wp_region_noPanic ?_
    refine wp_region_held_drew (S := fun W => Below vq9.heap.size vq9 W) (by kernel_rfl) (by exact (Below.refl _ _).drew) (fun hS => ?_)
    refine' take_at 0 rfl (by kernel_rfl) (by kernel_rfl) (by kernel_rfl) (fun _ _ _ h => h) (by rfl) hS ?_ ?_ ?_
    rotate_left 2
    · intro W hSW; exact run_loadR rfl rfl (HRq10.out.below hSW).head Try.underlying31 rfl (refT_info _)
    · simp only [List.set_cons_succ, List.set_cons_zero]; rfl
    refine' take_at 1 rfl (by kernel_rfl) (by kernel_rfl) (by kernel_rfl) (fun _ _ _ h => h) (by rfl) hS ?_ ?_ ?_
    rotate_left 2
    · intro W hSW; exact run_loadR rfl rfl (HRq10.out.below hSW).head Try.underlying31 rfl (refT_info _)
    · simp only [List.set_cons_succ, List.set_cons_zero]; rfl
    refine' take_at 3 rfl (by kernel_rfl) (by kernel_rfl) (by kernel_rfl) (fun _ _ _ h => h) (by rfl) hS ?_ ?_ ?_
    rotate_left 2
    · intro W hSW; exact run_loadR rfl rfl (HRq10.out.below hSW).tail.tail.tail.head Try.underlying31 rfl (refT_info _)
    · simp only [List.set_cons_succ, List.set_cons_zero]; rfl
    refine call_at 2 rfl (by kernel_rfl) (by rfl) (fun K hK => ?_)
    go_simp
    have kq11 := fun W : World => (rmulN HLn5.out HLn5.out) W
    rw [Hn8.out] at kq11
    have Kq11 := Lib.hid kq11
    clear kq11
    with_reducible refine (Kq11.out _).mono ?_
    rintro e vq11 ⟨rfl, hbq11⟩
    have kbq11 := below_next hS hbq11
    clear hS hbq11
    refine hK.out _ _ (by exact kbq11) (fun hS => ?_)
    clear hK K
    refine' take_at 4 rfl (by kernel_rfl) (by kernel_rfl) (by kernel_rfl) (fun _ _ _ h => h) (by rfl) hS ?_ ?_ ?_
    rotate_left 2
    · intro W hSW; exact run_eql2 rfl rfl rfl guardR (neRefT HLn8.out HX.out (HA1.out) W)
    · simp only [List.set_cons_succ, List.set_cons_zero]; rfl
    refine wpAnyH_done (by kernel_rfl) ?_ _
    refine NoPanic.normal ?_
    clear hS
    (try simp only [Act.put])
    have HRq12 := Lib.hid (HRq10.out.below kbq11)
    have HBq12 := Lib.hid (below_next HBq10.out kbq11)
    go_upto_region 8 with fail
    by_cases hod : n5 % 2 = 1
    · have hod2 := hod
      have l13 := HRq12.out.head
      go_wp2_with (refine wpList_load_row rfl 31 (.tmp 5) rfl gq7 rfl 31 (refT n5) (0, 0) _ l13 Try.underlying31 rfl (refT_info _) ?_)
      have kq14 := fun W : World => (roddN n5) W
      rw [decide_eq_true hod] at kq14
      have Kq14 := Lib.hid kq14
      clear kq14
      with_reducible refine (Kq14.out _).mono ?_
      rintro e vq14 ⟨rfl, hbq14⟩
      have HRq14 := Lib.hid (HRq12.out.below hbq14)
      have HBq14 := Lib.hid (below_next HBq12.out hbq14)
      clear hbq14
      go_upto_region 9 with fail
      have l15 := HRq14.out.head
      go_wp2_with (refine wpList_load_row rfl 31 (.tmp 5) rfl gq7 rfl 31 (refT n5) (0, 0) _ l15 Try.underlying31 rfl (refT_info _) ?_)
      obtain ⟨n16, hn16⟩ : ∃ x_ : Nat, (PP - n5) % PP = x_ := ⟨_, rfl⟩
      have Hn16 := Lib.hid hn16
      have HLn16 : Hid (n16 < PP) := Lib.hid (by rw [← hn16]; exact Nat.mod_lt _ (by decide))
      clear hn16
      have kq17 := fun W : World => (rnegN HLn5.out) W
      rw [Hn16.out] at kq17
      have Kq17 := Lib.hid kq17
      clear kq17
      with_reducible refine (Kq17.out _).mono ?_
      rintro e vq17 ⟨rfl, hbq17⟩
      have HRq17 := Lib.hid (HRq14.out.below hbq17)
      have HBq17 := Lib.hid (below_next HBq14.out hbq17)
      clear hbq17
      have lsq18 := HRq17.out.head
      have HRq18 : Hid (RowsW (vq17.setRow gq7 (refT n16)) [(gq7, (refT n16), 31), (gq2, kB, 22), ((g0 + 1), (refT 0), 31), (g0, (refT x), 31)]) := Lib.hid ⟨setRow_heap _ _ _ _ _ _ lsq18, (by rw [setRow_other _ _ _ _ NEq7_2.out]; exact HRq17.out.tail.head), (by rw [setRow_other _ _ _ _ NEq7_1.out]; exact HRq17.out.tail.tail.head), (by rw [setRow_other _ _ _ _ NEq7_0.out]; exact HRq17.out.tail.tail.tail.head), trivial⟩
      have HBq18 := Lib.hid (below_row (g := gq7) (cs := (refT n16)) HBq17.out HGq7.out)
      go_upto_region 10 with (refine wpList_store_row rfl 31 (.tmp 5) (.tmp 33) rfl gq7 (refT n16) rfl rfl 31 (refT n5) lsq18 (refT_info _) (refT_size _ _) (refT_one _) ?_)
      obtain ⟨Wq18, hWq18⟩ : ∃ W, vq17.setRow gq7 (refT n16) = W := ⟨_, rfl⟩
      rw [hWq18] at HRq18 HBq18
      (try rw [hWq18])
      clear hWq18 lsq18
      have lz := HRq18.out.head
      have lr := HRq18.out.tail.tail.head
      have HBx := Lib.hid (below_row (g := g0 + 1) (cs := (refT n16)) HBq18.out (by have := HG0.out; omega))
      go_wp2_with (first | (refine wpList_load_row rfl 31 (.tmp 5) rfl gq7 rfl 31 (refT n16) (0, 0) _ lz Try.underlying31 rfl (refT_info _) ?_) | (refine wpList_store_row rfl 31 (.tmp 2) (.tmp 34) rfl (g0 + 1) (refT n16) rfl rfl 31 (refT 0) lr (refT_info _) (refT_size _ _) (refT_one _) ?_))
      (try simp only [Exit.inBlock, Exit.then])
      refine bodyPost_ret (results_ct rfl _ _ (g0 + 1) _ (refT n16) _ _ (.bool true) rfl rfl (setRow_heap _ _ _ _ _ _ lr) Try.underlying31 rfl (refT_info _)) rfl ?_
      obtain ⟨e1, e2⟩ := (show rootN x = n16 ∧ isN x = true from ⟨by rw [← Hn16.out, (rootA (by rw [Hn5.out, Hn8.out]; exact HA1.out)).1, Hn5.out, fix_odd hod], (rootA (by rw [Hn5.out, Hn8.out]; exact HA1.out)).2⟩)
      exact ⟨by rw [e1, e2], HBx.out⟩
    · have hod2 := hod
      have l19 := HRq12.out.head
      go_wp2_with (refine wpList_load_row rfl 31 (.tmp 5) rfl gq7 rfl 31 (refT n5) (0, 0) _ l19 Try.underlying31 rfl (refT_info _) ?_)
      have kq20 := fun W : World => (roddN n5) W
      rw [decide_eq_false hod] at kq20
      have Kq20 := Lib.hid kq20
      clear kq20
      with_reducible refine (Kq20.out _).mono ?_
      rintro e vq20 ⟨rfl, hbq20⟩
      have HRq20 := Lib.hid (HRq12.out.below hbq20)
      have HBq20 := Lib.hid (below_next HBq12.out hbq20)
      clear hbq20
      go_upto_region 10 with fail
      have lz := HRq20.out.head
      have lr := HRq20.out.tail.tail.head
      have HBx := Lib.hid (below_row (g := g0 + 1) (cs := (refT n5)) HBq20.out (by have := HG0.out; omega))
      go_wp2_with (first | (refine wpList_load_row rfl 31 (.tmp 5) rfl gq7 rfl 31 (refT n5) (0, 0) _ lz Try.underlying31 rfl (refT_info _) ?_) | (refine wpList_store_row rfl 31 (.tmp 2) (.tmp 34) rfl (g0 + 1) (refT n5) rfl rfl 31 (refT 0) lr (refT_info _) (refT_size _ _) (refT_one _) ?_))
      (try simp only [Exit.inBlock, Exit.then])
      refine bodyPost_ret (results_ct rfl _ _ (g0 + 1) _ (refT n5) _ _ (.bool true) rfl rfl (setRow_heap _ _ _ _ _ _ lr) Try.underlying31 rfl (refT_info _)) rfl ?_
      obtain ⟨e1, e2⟩ := (show rootN x = n5 ∧ isN x = true from ⟨by rw [(rootA (by rw [Hn5.out, Hn8.out]; exact HA1.out)).1, Hn5.out, fix_even hod], (rootA (by rw [Hn5.out, Hn8.out]; exact HA1.out)).2⟩)
      exact ⟨by rw [e1, e2], HBx.out⟩
  · have HA1 := Lib.hid hA
    clear hA
    refine wp_region_noPanic ?_
    refine wp_region_held_drew (S := fun W => Below Wq7.heap.size Wq7 W) (by kernel_rfl) (by exact (Below.refl _ _).drew) (fun hS => ?_)
    refine' take_at 0 rfl (by kernel_rfl) (by kernel_rfl) (by kernel_rfl) (fun _ _ _ h => h) (by rfl) hS ?_ ?_ ?_
    rotate_left 2
    · intro W hSW; exact run_loadR rfl rfl (HRq7.out.below hSW).head Try.underlying31 rfl (refT_info _)
    · simp only [List.set_cons_succ, List.set_cons_zero]; rfl
    refine' take_at 1 rfl (by kernel_rfl) (by kernel_rfl) (by kernel_rfl) (fun _ _ _ h => h) (by rfl) hS ?_ ?_ ?_
    rotate_left 2
    · intro W hSW; exact run_loadR rfl rfl (HRq7.out.below hSW).head Try.underlying31 rfl (refT_info _)
    · simp only [List.set_cons_succ, List.set_cons_zero]; rfl
    refine' take_at 3 rfl (by kernel_rfl) (by kernel_rfl) (by kernel_rfl) (fun _ _ _ h => h) (by rfl) hS ?_ ?_ ?_
    rotate_left 2
    · intro W hSW; exact run_loadR rfl rfl (HRq7.out.below hSW).tail.tail.tail.head Try.underlying31 rfl (refT_info _)
    · simp only [List.set_cons_succ, List.set_cons_zero]; rfl
    refine call_at 2 rfl (by kernel_rfl) (by rfl) (fun K hK => ?_)
    go_simp
    have kq21 := fun W : World => (rmulN HLn5.out HLn5.out) W
    rw [Hn8.out] at kq21
    have Kq21 := Lib.hid kq21
    clear kq21
    with_reducible refine (Kq21.out _).mono ?_
    rintro e vq21 ⟨rfl, hbq21⟩
    have kbq21 := below_next hS hbq21
    clear hS hbq21
    refine hK.out _ _ (by exact kbq21) (fun hS => ?_)
    clear hK K
    refine' take_at 4 rfl (by kernel_rfl) (by kernel_rfl) (by kernel_rfl) (fun _ _ _ h => h) (by rfl) hS ?_ ?_ ?_
    rotate_left 2
    · intro W hSW; exact run_eql2 rfl rfl rfl guardR (neRefF HLn8.out HX.out (HA1.out) W)
    · simp only [List.set_cons_succ, List.set_cons_zero]; rfl
    refine wpAnyH_done (by kernel_rfl) ?_ _
    refine NoPanic.normal ?_
    clear hS
    (try simp only [Act.put])
    have HRq22 := Lib.hid (HRq7.out.below kbq21)
    have HBq22 := Lib.hid (below_next HBq7.out kbq21)
    go_upto_region 5 with fail
    refine wp_region_noPanic ?_
    refine wp_region_held_tail (S := fun W => Below vq21.heap.size vq21 W) 5 (by kernel_rfl) ⟨by kernel_rfl, by kernel_rfl, by kernel_rfl, by kernel_rfl⟩ (by exact (Below.refl _ _).drew) (fun hT inv hS => ?_)
    refine' take_atT 0 hT inv rfl (by omega) (by kernel_rfl) (by kernel_rfl) (fun _ _ _ h => h) (by rfl) hS ?_ ?_ ?_
    rotate_left 2
    · intro W hSW; exact run_loadR rfl rfl (HRq22.out.below hSW).head Try.underlying31 rfl (refT_info _)
    · simp only [List.set_cons_succ, List.set_cons_zero]; rfl
    intro inv
    refine call_atT 1 inv rfl (by omega) (by kernel_rfl) (by rfl) (fun K hK => ?_)
    go_simp
    have sm20 : ∀ W : World, Calls Try.prog 51 #[.int .u64 2] W (RetV W (.agg (refT 2))) := fun W => rsmallN 2 (by decide) W
    with_reducible refine (sm20 _).mono ?_
    rintro e vq23 ⟨rfl, hbq23⟩
    have kbq23 := below_next hS hbq23
    clear hS hbq23
    refine hK.out _ _ (by exact kbq23) (fun inv hS => ?_)
    clear hK K
    refine call_atT 2 inv rfl (by omega) (by kernel_rfl) (by rfl) (fun K hK => ?_)
    go_simp
    with_reducible refine (rones_kQ _).mono ?_
    rintro e vq24 ⟨rfl, hbq24⟩
    have kbq24 := below_next kbq23 hbq24
    clear hS hbq24
    refine hK.out _ _ (by exact kbq24) (fun inv hS => ?_)
    clear hK K
    refine call_atT 3 inv rfl (by omega) (by kernel_rfl) (by rfl) (fun K hK => ?_)
    go_simp
    obtain ⟨n25, hn25⟩ : ∃ y : Nat, pwN 2 (2 * KP + 1) = y := ⟨_, rfl⟩
    have Hn25 := Lib.hid hn25
    have HLn25 : Hid (n25 < PP) := Lib.hid (by rw [← hn25]; exact pwN_lt _ _)
    clear hn25
    have kq26 := fun W : World => (rpow_kQ (show 2 < PP by decide)) W
    rw [Hn25.out] at kq26
    have Kq26 := Lib.hid kq26
    clear kq26
    with_reducible refine (Kq26.out _).mono ?_
    rintro e vq26 ⟨rfl, hbq26⟩
    have kbq26 := below_next kbq24 hbq26
    clear hS hbq26
    refine hK.out _ _ (by exact kbq26) (fun inv hS => ?_)
    clear hK K
    refine call_atT 4 inv rfl (by omega) (by kernel_rfl) (by rfl) (fun K hK => ?_)
    go_simp
    obtain ⟨n27, hn27⟩ : ∃ x_ : Nat, (n5 * n25) % PP = x_ := ⟨_, rfl⟩
    have Hn27 := Lib.hid hn27
    have HLn27 : Hid (n27 < PP) := Lib.hid (by rw [← hn27]; exact Nat.mod_lt _ (by decide))
    clear hn27
    have kq28 := fun W : World => (rmulN HLn5.out HLn25.out) W
    rw [Hn27.out] at kq28
    have Kq28 := Lib.hid kq28
    clear kq28
    with_reducible refine (Kq28.out _).mono ?_
    rintro e vq28 ⟨rfl, hbq28⟩
    have kbq28 := below_next kbq26 hbq28
    clear hS hbq28
    refine hK.out _ _ (by exact kbq28) (fun inv hS => ?_)
    clear hK K
    refine done_atT (by kernel_rfl) ?_
    simp only [List.drop_succ_cons, List.drop_zero]
    clear hS
    (try simp only [Act.put])
    have HRq29 := Lib.hid (HRq22.out.below kbq28)
    have HBq29 := Lib.hid (below_next HBq22.out kbq28)
    have lsq30 := HRq29.out.head
    have HRq30 : Hid (RowsW (vq28.setRow gq7 (refT n27)) [(gq7, (refT n27), 31), (gq2, kB, 22), ((g0 + 1), (refT 0), 31), (g0, (refT x), 31)]) := Lib.hid ⟨setRow_heap _ _ _ _ _ _ lsq30, (by rw [setRow_other _ _ _ _ NEq7_2.out]; exact HRq29.out.tail.head), (by rw [setRow_other _ _ _ _ NEq7_1.out]; exact HRq29.out.tail.tail.head), (by rw [setRow_other _ _ _ _ NEq7_0.out]; exact HRq29.out.tail.tail.tail.head), trivial⟩
    have HBq30 := Lib.hid (below_row (g := gq7) (cs := (refT n27)) HBq29.out HGq7.out)
    go_wp2_with (refine wpList_store_row rfl 31 (.tmp 5) (.tmp 23) rfl gq7 (refT n27) rfl rfl 31 (refT n5) lsq30 (refT_info _) (refT_size _ _) (refT_one _) ?_)
    obtain ⟨Wq30, hWq30⟩ : ∃ W, vq28.setRow gq7 (refT n27) = W := ⟨_, rfl⟩
    rw [hWq30] at HRq30 HBq30
    (try rw [hWq30])
    clear hWq30 lsq30
    refine NoPanic.normal ?_
    go_upto_region 6 with fail
    obtain ⟨n31, hn31⟩ : ∃ x_ : Nat, (n27 * n27) % PP = x_ := ⟨_, rfl⟩
    have Hn31 := Lib.hid hn31
    have HLn31 : Hid (n31 < PP) := Lib.hid (by rw [← hn31]; exact Nat.mod_lt _ (by decide))
    clear hn31
    by_cases hB : n31 = x
    · have HB1 := Lib.hid hB
      clear hB
      refine wp_region_noPanic ?_
      refine wp_region_held_drew (S := fun W => Below Wq30.heap.size Wq30 W) (by kernel_rfl) (by exact (Below.refl _ _).drew) (fun hS => ?_)
      refine' take_at 0 rfl (by kernel_rfl) (by kernel_rfl) (by kernel_rfl) (fun _ _ _ h => h) (by rfl) hS ?_ ?_ ?_
      rotate_left 2
      · intro W hSW; exact run_loadR rfl rfl (HRq30.out.below hSW).head Try.underlying31 rfl (refT_info _)
      · simp only [List.set_cons_succ, List.set_cons_zero]; rfl
      refine' take_at 1 rfl (by kernel_rfl) (by kernel_rfl) (by kernel_rfl) (fun _ _ _ h => h) (by rfl) hS ?_ ?_ ?_
      rotate_left 2
      · intro W hSW; exact run_loadR rfl rfl (HRq30.out.below hSW).head Try.underlying31 rfl (refT_info _)
      · simp only [List.set_cons_succ, List.set_cons_zero]; rfl
      refine' take_at 3 rfl (by kernel_rfl) (by kernel_rfl) (by kernel_rfl) (fun _ _ _ h => h) (by rfl) hS ?_ ?_ ?_
      rotate_left 2
      · intro W hSW; exact run_loadR rfl rfl (HRq30.out.below hSW).tail.tail.tail.head Try.underlying31 rfl (refT_info _)
      · simp only [List.set_cons_succ, List.set_cons_zero]; rfl
      refine call_at 2 rfl (by kernel_rfl) (by rfl) (fun K hK => ?_)
      go_simp
      have kq32 := fun W : World => (rmulN HLn27.out HLn27.out) W
      rw [Hn31.out] at kq32
      have Kq32 := Lib.hid kq32
      clear kq32
      with_reducible refine (Kq32.out _).mono ?_
      rintro e vq32 ⟨rfl, hbq32⟩
      have kbq32 := below_next hS hbq32
      clear hS hbq32
      refine hK.out _ _ (by exact kbq32) (fun hS => ?_)
      clear hK K
      refine' take_at 4 rfl (by kernel_rfl) (by kernel_rfl) (by kernel_rfl) (fun _ _ _ h => h) (by rfl) hS ?_ ?_ ?_
      rotate_left 2
      · intro W hSW; exact run_eql2 rfl rfl rfl guardR (neRefT HLn31.out HX.out (HB1.out) W)
      · simp only [List.set_cons_succ, List.set_cons_zero]; rfl
      refine wpAnyH_done (by kernel_rfl) ?_ _
      refine NoPanic.normal ?_
      clear hS
      (try simp only [Act.put])
      have HRq33 := Lib.hid (HRq30.out.below kbq32)
      have HBq33 := Lib.hid (below_next HBq30.out kbq32)
      go_upto_region 8 with fail
      by_cases hod : n27 % 2 = 1
      · have hod2 := hod
        have l34 := HRq33.out.head
        go_wp2_with (refine wpList_load_row rfl 31 (.tmp 5) rfl gq7 rfl 31 (refT n27) (0, 0) _ l34 Try.underlying31 rfl (refT_info _) ?_)
        have kq35 := fun W : World => (roddN n27) W
        rw [decide_eq_true hod] at kq35
        have Kq35 := Lib.hid kq35
        clear kq35
        with_reducible refine (Kq35.out _).mono ?_
        rintro e vq35 ⟨rfl, hbq35⟩
        have HRq35 := Lib.hid (HRq33.out.below hbq35)
        have HBq35 := Lib.hid (below_next HBq33.out hbq35)
        clear hbq35
        go_upto_region 9 with fail
        have l36 := HRq35.out.head
        go_wp2_with (refine wpList_load_row rfl 31 (.tmp 5) rfl gq7 rfl 31 (refT n27) (0, 0) _ l36 Try.underlying31 rfl (refT_info _) ?_)
        obtain ⟨n37, hn37⟩ : ∃ x_ : Nat, (PP - n27) % PP = x_ := ⟨_, rfl⟩
        have Hn37 := Lib.hid hn37
        have HLn37 : Hid (n37 < PP) := Lib.hid (by rw [← hn37]; exact Nat.mod_lt _ (by decide))
        clear hn37
        have kq38 := fun W : World => (rnegN HLn27.out) W
        rw [Hn37.out] at kq38
        have Kq38 := Lib.hid kq38
        clear kq38
        with_reducible refine (Kq38.out _).mono ?_
        rintro e vq38 ⟨rfl, hbq38⟩
        have HRq38 := Lib.hid (HRq35.out.below hbq38)
        have HBq38 := Lib.hid (below_next HBq35.out hbq38)
        clear hbq38
        have lsq39 := HRq38.out.head
        have HRq39 : Hid (RowsW (vq38.setRow gq7 (refT n37)) [(gq7, (refT n37), 31), (gq2, kB, 22), ((g0 + 1), (refT 0), 31), (g0, (refT x), 31)]) := Lib.hid ⟨setRow_heap _ _ _ _ _ _ lsq39, (by rw [setRow_other _ _ _ _ NEq7_2.out]; exact HRq38.out.tail.head), (by rw [setRow_other _ _ _ _ NEq7_1.out]; exact HRq38.out.tail.tail.head), (by rw [setRow_other _ _ _ _ NEq7_0.out]; exact HRq38.out.tail.tail.tail.head), trivial⟩
        have HBq39 := Lib.hid (below_row (g := gq7) (cs := (refT n37)) HBq38.out HGq7.out)
        go_upto_region 10 with (refine wpList_store_row rfl 31 (.tmp 5) (.tmp 33) rfl gq7 (refT n37) rfl rfl 31 (refT n27) lsq39 (refT_info _) (refT_size _ _) (refT_one _) ?_)
        obtain ⟨Wq39, hWq39⟩ : ∃ W, vq38.setRow gq7 (refT n37) = W := ⟨_, rfl⟩
        rw [hWq39] at HRq39 HBq39
        (try rw [hWq39])
        clear hWq39 lsq39
        have lz := HRq39.out.head
        have lr := HRq39.out.tail.tail.head
        have HBx := Lib.hid (below_row (g := g0 + 1) (cs := (refT n37)) HBq39.out (by have := HG0.out; omega))
        go_wp2_with (first | (refine wpList_load_row rfl 31 (.tmp 5) rfl gq7 rfl 31 (refT n37) (0, 0) _ lz Try.underlying31 rfl (refT_info _) ?_) | (refine wpList_store_row rfl 31 (.tmp 2) (.tmp 34) rfl (g0 + 1) (refT n37) rfl rfl 31 (refT 0) lr (refT_info _) (refT_size _ _) (refT_one _) ?_))
        (try simp only [Exit.inBlock, Exit.then])
        refine bodyPost_ret (results_ct rfl _ _ (g0 + 1) _ (refT n37) _ _ (.bool true) rfl rfl (setRow_heap _ _ _ _ _ _ lr) Try.underlying31 rfl (refT_info _)) rfl ?_
        obtain ⟨e1, e2⟩ := (show rootN x = n37 ∧ isN x = true from ⟨by rw [← Hn37.out, (rootB (by rw [Hn5.out, Hn8.out]; exact HA1.out) (by rw [Hn5.out, Hn25.out, Hn27.out, Hn31.out]; exact HB1.out)).1, show (pwN x (KP + 1) * pwN 2 (2 * KP + 1)) % PP = n27 from (by rw [Hn5.out, Hn25.out, Hn27.out]), fix_odd hod], (rootB (by rw [Hn5.out, Hn8.out]; exact HA1.out) (by rw [Hn5.out, Hn25.out, Hn27.out, Hn31.out]; exact HB1.out)).2⟩)
        exact ⟨by rw [e1, e2], HBx.out⟩
      · have hod2 := hod
        have l40 := HRq33.out.head
        go_wp2_with (refine wpList_load_row rfl 31 (.tmp 5) rfl gq7 rfl 31 (refT n27) (0, 0) _ l40 Try.underlying31 rfl (refT_info _) ?_)
        have kq41 := fun W : World => (roddN n27) W
        rw [decide_eq_false hod] at kq41
        have Kq41 := Lib.hid kq41
        clear kq41
        with_reducible refine (Kq41.out _).mono ?_
        rintro e vq41 ⟨rfl, hbq41⟩
        have HRq41 := Lib.hid (HRq33.out.below hbq41)
        have HBq41 := Lib.hid (below_next HBq33.out hbq41)
        clear hbq41
        go_upto_region 10 with fail
        have lz := HRq41.out.head
        have lr := HRq41.out.tail.tail.head
        have HBx := Lib.hid (below_row (g := g0 + 1) (cs := (refT n27)) HBq41.out (by have := HG0.out; omega))
        go_wp2_with (first | (refine wpList_load_row rfl 31 (.tmp 5) rfl gq7 rfl 31 (refT n27) (0, 0) _ lz Try.underlying31 rfl (refT_info _) ?_) | (refine wpList_store_row rfl 31 (.tmp 2) (.tmp 34) rfl (g0 + 1) (refT n27) rfl rfl 31 (refT 0) lr (refT_info _) (refT_size _ _) (refT_one _) ?_))
        (try simp only [Exit.inBlock, Exit.then])
        refine bodyPost_ret (results_ct rfl _ _ (g0 + 1) _ (refT n27) _ _ (.bool true) rfl rfl (setRow_heap _ _ _ _ _ _ lr) Try.underlying31 rfl (refT_info _)) rfl ?_
        obtain ⟨e1, e2⟩ := (show rootN x = n27 ∧ isN x = true from ⟨by rw [(rootB (by rw [Hn5.out, Hn8.out]; exact HA1.out) (by rw [Hn5.out, Hn25.out, Hn27.out, Hn31.out]; exact HB1.out)).1, show (pwN x (KP + 1) * pwN 2 (2 * KP + 1)) % PP = n27 from (by rw [Hn5.out, Hn25.out, Hn27.out]), fix_even hod], (rootB (by rw [Hn5.out, Hn8.out]; exact HA1.out) (by rw [Hn5.out, Hn25.out, Hn27.out, Hn31.out]; exact HB1.out)).2⟩)
        exact ⟨by rw [e1, e2], HBx.out⟩
    · have HB1 := Lib.hid hB
      clear hB
      refine wp_region_noPanic ?_
      refine wp_region_held_drew (S := fun W => Below Wq30.heap.size Wq30 W) (by kernel_rfl) (by exact (Below.refl _ _).drew) (fun hS => ?_)
      refine' take_at 0 rfl (by kernel_rfl) (by kernel_rfl) (by kernel_rfl) (fun _ _ _ h => h) (by rfl) hS ?_ ?_ ?_
      rotate_left 2
      · intro W hSW; exact run_loadR rfl rfl (HRq30.out.below hSW).head Try.underlying31 rfl (refT_info _)
      · simp only [List.set_cons_succ, List.set_cons_zero]; rfl
      refine' take_at 1 rfl (by kernel_rfl) (by kernel_rfl) (by kernel_rfl) (fun _ _ _ h => h) (by rfl) hS ?_ ?_ ?_
      rotate_left 2
      · intro W hSW; exact run_loadR rfl rfl (HRq30.out.below hSW).head Try.underlying31 rfl (refT_info _)
      · simp only [List.set_cons_succ, List.set_cons_zero]; rfl
      refine' take_at 3 rfl (by kernel_rfl) (by kernel_rfl) (by kernel_rfl) (fun _ _ _ h => h) (by rfl) hS ?_ ?_ ?_
      rotate_left 2
      · intro W hSW; exact run_loadR rfl rfl (HRq30.out.below hSW).tail.tail.tail.head Try.underlying31 rfl (refT_info _)
      · simp only [List.set_cons_succ, List.set_cons_zero]; rfl
      refine call_at 2 rfl (by kernel_rfl) (by rfl) (fun K hK => ?_)
      go_simp
      have kq42 := fun W : World => (rmulN HLn27.out HLn27.out) W
      rw [Hn31.out] at kq42
      have Kq42 := Lib.hid kq42
      clear kq42
      with_reducible refine (Kq42.out _).mono ?_
      rintro e vq42 ⟨rfl, hbq42⟩
      have kbq42 := below_next hS hbq42
      clear hS hbq42
      refine hK.out _ _ (by exact kbq42) (fun hS => ?_)
      clear hK K
      refine' take_at 4 rfl (by kernel_rfl) (by kernel_rfl) (by kernel_rfl) (fun _ _ _ h => h) (by rfl) hS ?_ ?_ ?_
      rotate_left 2
      · intro W hSW; exact run_eql2 rfl rfl rfl guardR (neRefF HLn31.out HX.out (HB1.out) W)
      · simp only [List.set_cons_succ, List.set_cons_zero]; rfl
      refine wpAnyH_done (by kernel_rfl) ?_ _
      refine NoPanic.normal ?_
      clear hS
      (try simp only [Act.put])
      have HRq43 := Lib.hid (HRq30.out.below kbq42)
      have HBq43 := Lib.hid (below_next HBq30.out kbq42)
      go_upto_region 7 with fail
      have lr := HRq43.out.tail.tail.head
      have HBx := Lib.hid (below_row (g := g0 + 1) (cs := refT 0) HBq43.out (by have := HG0.out; omega))
      go_wp2_with (refine wpList_store_row rfl 31 (.tmp 2) (.tmp 29) rfl (g0 + 1) (refT 0) rfl rfl 31 (refT 0) lr (refT_info _) rfl (refT_one _) ?_)
      (try simp only [Exit.inBlock, Exit.then])
      refine bodyPost_ret (results_ct rfl _ _ (g0 + 1) _ (refT 0) _ _ (.bool false) rfl rfl (setRow_heap _ _ _ _ _ _ lr) Try.underlying31 rfl (refT_info _)) rfl ?_
      obtain ⟨e1, e2⟩ := rootC (by rw [Hn5.out, Hn8.out]; exact HA1.out) (by rw [Hn5.out, Hn25.out, Hn27.out, Hn31.out]; exact HB1.out)
      exact ⟨by rw [e1, e2], HBx.out⟩
end Go.Proofs.Ytfejabfmhddepaa

namespace Go.Proofs.Ytfejabfmhddepaa
open Go.RowKit
set_option linter.unusedVariables false
set_option maxRecDepth 100000

set_option maxHeartbeats 6400000 in
theorem rratioN {u v : Nat} (hu : u < PP) (hv : v < PP) (w : World) : Calls Try.prog 71 #[.agg (refT u), .agg (refT v)] w (RetV w (.tuple #[.agg (refT (ratN u v)), .bool (fineN u v)])) := by
  have hzR := refT_zero
  have HR0 := Lib.hid ((((RowsW.nil w).box (refT u) 31).box (refT v) 31).box (refT 0) 31)
  have HB0 := Lib.hid (below_box (below_box (below_box (Below.refl w.heap.size w) (refT u) 31) (refT v) 31) (refT 0) 31)
  rw [World.size_alloc, World.size_alloc] at HR0
  have HU := Lib.hid hu
  have HV := Lib.hid hv
  clear hu hv
  go_enter Try.func71, Try.ntmps71
  go_upto_region 1 with fail
  obtain ⟨W0, hW0⟩ : ∃ W, ((w.alloc (.cells (refT u) 31)).alloc (.cells (refT v) 31)).alloc (.cells (refT 0) 31) = W := ⟨_, rfl⟩
  obtain ⟨g0, hg0⟩ : ∃ g, w.heap.size = g := ⟨_, rfl⟩
  rw [hW0] at HR0 HB0
  rw [hg0] at HR0
  rw [hW0, hg0]
  have HG0 := Lib.hid hg0
  clear hW0 hg0
  have l1 := HR0.out.tail.head
  have hm := guardR
  by_cases h0 : v = 0
  · have HV0 := Lib.hid h0
    clear h0
    go_upto_region 2 with (first | (refine wpList_load_row rfl 31 (.tmp 3) rfl (g0 + 1) rfl 31 (refT v) (0, 0) _ l1 Try.underlying31 rfl (refT_info _) ?_) | (refine wpList_runs (o := ⟨some 8, _, _, _, _, _⟩) rfl (.bool true) (run_eql2 rfl rfl rfl guardR (eqRefT HV.out (show 0 < PP by decide) HV0.out _)) ?_))
    obtain ⟨b1, hb1⟩ : ∃ y : Bool, decide (u = 0) = y := ⟨_, rfl⟩
    have E0 : ∀ W : World, (binOp .eql 31 (.agg (refT u)) (.agg (refT 0))).run Try.prog W = .ok (.bool b1) W := fun W => by have h := eqRef HU.out (show 0 < PP by decide) W; rw [hb1] at h; exact h
    have HBB := Lib.hid hb1
    clear hb1
    have lu := HR0.out.tail.tail.head
    have lr := HR0.out.head
    refine wp_region_noPanic ?_
    refine wp_region_held_drew (S := fun W => W.heap[g0]? = some (.cells (refT u) 31 (0, 0))) (by kernel_rfl) (by exact lu) (fun hS => ?_)
    refine' take_at 0 rfl (by kernel_rfl) (by kernel_rfl) (by kernel_rfl) (fun _ _ _ h => h) (by rfl) hS ?_ ?_ ?_
    rotate_left 2
    · intro W hSW; go_simp; try with_reducible rfl
    · simp only [List.set_cons_succ, List.set_cons_zero]; rfl
    refine' take_at 1 rfl (by kernel_rfl) (by kernel_rfl) (by kernel_rfl) (fun _ _ _ h => h) (by rfl) hS ?_ ?_ ?_
    rotate_left 2
    · intro W hSW; exact run_loadR rfl rfl hSW Try.underlying31 rfl (refT_info _)
    · simp only [List.set_cons_succ, List.set_cons_zero]; rfl
    refine' take_at 2 rfl (by kernel_rfl) (by kernel_rfl) (by kernel_rfl) (fun _ _ _ h => h) (by rfl) hS ?_ ?_ ?_
    rotate_left 2
    · intro W hSW; go_simp; try with_reducible rfl
    · simp only [List.set_cons_succ, List.set_cons_zero]; rfl
    refine' take_at 3 rfl (by kernel_rfl) (by kernel_rfl) (by kernel_rfl) (fun _ _ _ h => h) (by rfl) hS ?_ ?_ ?_
    rotate_left 2
    · intro W hSW; exact run_eql2 rfl rfl rfl guardR (E0 W)
    · simp only [List.set_cons_succ, List.set_cons_zero]; rfl
    refine call_at 4 rfl (by kernel_rfl) (by rfl) (fun K hK => ?_)
    refine wp_store_row 31 (.tmp 4) (.tmp 9) rfl (g0 + 1 + 1) (refT 0) rfl rfl 31 (refT 0) lr (refT_info _) rfl (refT_one _) ?_
    refine hK.out _ _ (by rw [setRow_other _ _ _ _ (by omega)]; exact lu) (fun hS => ?_)
    clear hK K
    refine' take_at 5 rfl (by kernel_rfl) (by kernel_rfl) (by kernel_rfl) (fun _ _ _ h => h) (by rfl) hS ?_ ?_ ?_
    rotate_left 2
    · intro W hSW; go_simp; try with_reducible rfl
    · simp only [List.set_cons_succ, List.set_cons_zero]; rfl
    refine wpAnyH_done (by kernel_rfl) ?_ _
    refine NoPanic.normal ?_
    clear hS
    have HBx := Lib.hid (below_row (g := g0 + 1 + 1) (cs := refT 0) (HB0.out.drew) (by have := HG0.out; omega))
    have lr2 : (W0.drew.setRow (g0 + 1 + 1) (refT 0)).heap[g0 + 1 + 1]? = some (.cells (refT 0) 31 (0, 0)) := setRow_heap _ _ _ _ _ _ lr
    go_wp2_with fail
    (try simp only [Exit.inBlock, Exit.then])
    refine bodyPost_ret (results_ct rfl _ _ (g0 + 1 + 1) _ (refT 0) _ _ (.bool b1) rfl rfl lr2 Try.underlying31 rfl (refT_info _)) rfl ?_
    exact ⟨by rw [show ratN u v = 0 from if_pos HV0.out, show fineN u v = b1 by rw [← HBB.out]; exact if_pos HV0.out], HBx.out⟩
  · have HV0 := Lib.hid h0
    clear h0
    go_upto_region 3 with (first | (refine wpList_load_row rfl 31 (.tmp 3) rfl (g0 + 1) rfl 31 (refT v) (0, 0) _ l1 Try.underlying31 rfl (refT_info _) ?_) | (refine wpList_runs (o := ⟨some 8, _, _, _, _, _⟩) rfl (.bool false) (run_eql2 rfl rfl rfl guardR (eqRefF HV.out (show 0 < PP by decide) HV0.out _)) ?_))
    refine wp_region_noPanic ?_
    refine wp_region_held_tail (S := fun W => Below W0.heap.size W0 W) 7 (by kernel_rfl) ⟨by kernel_rfl, by kernel_rfl, by kernel_rfl, by kernel_rfl⟩ (by exact (Below.refl _ _).drew) (fun hT inv hS => ?_)
    refine' take_atT 0 hT inv rfl (by omega) (by kernel_rfl) (by kernel_rfl) (fun _ _ _ h => h) (by rfl) hS ?_ ?_ ?_
    rotate_left 2
    · intro W hSW; exact run_loadR rfl rfl (HR0.out.below hSW).tail.tail.head Try.underlying31 rfl (refT_info _)
    · simp only [List.set_cons_succ, List.set_cons_zero]; rfl
    intro inv
    refine' take_atT 1 hT inv rfl (by omega) (by kernel_rfl) (by kernel_rfl) (fun _ _ _ h => h) (by rfl) hS ?_ ?_ ?_
    rotate_left 2
    · intro W hSW; exact run_loadR rfl rfl (HR0.out.below hSW).tail.head Try.underlying31 rfl (refT_info _)
    · simp only [List.set_cons_succ, List.set_cons_zero]; rfl
    intro inv
    refine call_atT 2 inv rfl (by omega) (by kernel_rfl) (by rfl) (fun K hK => ?_)
    go_simp
    obtain ⟨n2, hn2⟩ : ∃ y : Nat, invN v = y := ⟨_, rfl⟩
    have Hn2 := Lib.hid hn2
    have HLn2 : Hid (n2 < PP) := Lib.hid (by rw [← hn2]; exact invN_lt _)
    clear hn2
    have kq3 := fun W : World => (rinvN HV.out) W
    rw [Hn2.out] at kq3
    have Kq3 := Lib.hid kq3
    clear kq3
    with_reducible refine (Kq3.out _).mono ?_
    rintro e vq3 ⟨rfl, hbq3⟩
    have kbq3 := below_next hS hbq3
    clear hS hbq3
    refine hK.out _ _ (by exact kbq3) (fun inv hS => ?_)
    clear hK K
    refine call_atT 3 inv rfl (by omega) (by kernel_rfl) (by rfl) (fun K hK => ?_)
    go_simp
    obtain ⟨n4, hn4⟩ : ∃ x_ : Nat, (u * n2) % PP = x_ := ⟨_, rfl⟩
    have Hn4 := Lib.hid hn4
    have HLn4 : Hid (n4 < PP) := Lib.hid (by rw [← hn4]; exact Nat.mod_lt _ (by decide))
    clear hn4
    have kq5 := fun W : World => (rmulN HU.out HLn2.out) W
    rw [Hn4.out] at kq5
    have Kq5 := Lib.hid kq5
    clear kq5
    with_reducible refine (Kq5.out _).mono ?_
    rintro e vq5 ⟨rfl, hbq5⟩
    have kbq5 := below_next kbq3 hbq5
    clear hS hbq5
    refine hK.out _ _ (by exact kbq5) (fun inv hS => ?_)
    clear hK K
    refine call_atT 4 inv rfl (by omega) (by kernel_rfl) (by rfl) (fun K hK => ?_)
    go_simp
    obtain ⟨n6, hn6⟩ : ∃ y : Nat, rootN n4 = y := ⟨_, rfl⟩
    have Hn6 := Lib.hid hn6
    have HLn6 : Hid (n6 < PP) := Lib.hid (by rw [← hn6]; exact rootN_lt _)
    clear hn6
    obtain ⟨b7, hb7⟩ : ∃ y : Bool, isN n4 = y := ⟨_, rfl⟩
    have Hb7 := Lib.hid hb7
    clear hb7
    have kq8 := fun W : World => (rsqrtN HLn4.out) W
    rw [Hn6.out, Hb7.out] at kq8
    have Kq8 := Lib.hid kq8
    clear kq8
    with_reducible refine (Kq8.out _).mono ?_
    rintro e vq8 ⟨rfl, hbq8⟩
    have kbq8 := below_next kbq5 hbq8
    clear hS hbq8
    refine hK.out _ _ (by exact kbq8) (fun inv hS => ?_)
    clear hK K
    refine' take_atT 5 hT inv rfl (by omega) (by kernel_rfl) (by kernel_rfl) (fun _ _ _ h => h) (by rfl) hS ?_ ?_ ?_
    rotate_left 2
    · intro W hSW; go_simp; try with_reducible rfl
    · simp only [List.set_cons_succ, List.set_cons_zero]; rfl
    intro inv
    refine' take_atT 6 hT inv rfl (by omega) (by kernel_rfl) (by kernel_rfl) (fun _ _ _ h => h) (by rfl) hS ?_ ?_ ?_
    rotate_left 2
    · intro W hSW; go_simp; try with_reducible rfl
    · simp only [List.set_cons_succ, List.set_cons_zero]; rfl
    intro inv
    refine done_atT (by kernel_rfl) ?_
    simp only [List.drop_succ_cons, List.drop_zero]
    clear hS
    (try simp only [Act.put])
    have HRq9 := Lib.hid (HR0.out.below kbq8)
    have HBq9 := Lib.hid (below_next HB0.out kbq8)
    have lsq10 := HRq9.out.head
    have HRq10 : Hid (RowsW (vq8.setRow (g0 + 1 + 1) (refT n6)) [((g0 + 1 + 1), (refT n6), 31), ((g0 + 1), (refT v), 31), (g0, (refT u), 31)]) := Lib.hid ⟨setRow_heap _ _ _ _ _ _ lsq10, (by rw [setRow_other _ _ _ _ (by omega)]; exact HRq9.out.tail.head), (by rw [setRow_other _ _ _ _ (by omega)]; exact HRq9.out.tail.tail.head), trivial⟩
    have HBq10 := Lib.hid (below_row (g := (g0 + 1 + 1)) (cs := (refT n6)) HBq9.out (by have := HG0.out; omega))
    go_wp2_with (refine wpList_store_row rfl 31 (.tmp 4) (.tmp 18) rfl (g0 + 1 + 1) (refT n6) rfl rfl 31 (refT 0) lsq10 (refT_info _) (refT_size _ _) (refT_one _) ?_)
    obtain ⟨Wq10, hWq10⟩ : ∃ W, vq8.setRow (g0 + 1 + 1) (refT n6) = W := ⟨_, rfl⟩
    rw [hWq10] at HRq10 HBq10
    (try rw [hWq10])
    clear hWq10 lsq10
    refine NoPanic.normal ?_
    go_wp2_with fail
    (try simp only [Exit.inBlock, Exit.then])
    refine bodyPost_ret (results_ct rfl _ _ (g0 + 1 + 1) _ (refT n6) _ _ (.bool b7) rfl rfl HRq10.out.head Try.underlying31 rfl (refT_info _)) rfl ?_
    exact ⟨by rw [show ratN u v = n6 by rw [← Hn6.out, ← Hn4.out, ← Hn2.out]; exact if_neg HV0.out, show fineN u v = b7 by rw [← Hb7.out, ← Hn4.out, ← Hn2.out]; exact if_neg HV0.out], HBq10.out⟩
end Go.Proofs.Ytfejabfmhddepaa

