/- The contracts of the developers' mulAddWord and mulAdd of package scalar. -/
import Derived.Test.YtmmfbbbljhifjaaScB
import Derived.Test.YtmmfbbbljhifjaaCopyRow
namespace Go.Proofs.Ytmmfbbbljhifjaa
open Go.RowKit
set_option linter.unusedVariables false
set_option maxRecDepth 100000

theorem word_sum {h l p z1 z2 d1 d2 u v c : Nat} (m0 : h * c + l = p) (e1 : z1 + d1 * c = l + u + 0) (e2 : z2 + d2 * c = z1 + v + 0) : z2 + (h + d1 + d2) * c = p + u + v := by
  rw [Nat.add_mul, Nat.add_mul]; omega
theorem word_lim {z d p u v : Nat} (hr : z + d * 18446744073709551616 = p + u + v) (hm : p ≤ 340282366920938463426481119284349108225) (hu : u < 18446744073709551616) (hv : v < 18446744073709551616) : d < 18446744073709551616 := by omega
set_option maxHeartbeats 3200000 in
theorem scword_ex (x y u v : Nat) (hx : x < 18446744073709551616) (hy : y < 18446744073709551616) (hu : u < 18446744073709551616) (hv : v < 18446744073709551616) : ∃ z d : Nat,
    Hid (∀ w : World, Calls Try.prog 35 #[.int .u64 (x : Int), .int .u64 (y : Int), .int .u64 (u : Int), .int .u64 (v : Int)] w fun e w' => e = .returned (.tuple #[.int .u64 (z : Int), .int .u64 (d : Int)]) ∧ w' = w) ∧
    z + d * 18446744073709551616 = x * y + u + v ∧ z < 18446744073709551616 ∧ d < 18446744073709551616 := by
  have hm : x * y ≤ 340282366920938463426481119284349108225 := Nat.le_trans (Nat.mul_le_mul (show x ≤ 18446744073709551615 by omega) (show y ≤ 18446744073709551615 by omega)) (by decide)
  obtain ⟨h, l, M0, m0, p0, q0⟩ := mul_ex x y hx hy
  obtain ⟨z1, d1, s1, e1, l1⟩ := add_ex l u 0 (by omega)
  obtain ⟨z2, d2, s2, e2, l2⟩ := add_ex z1 v 0 (by omega)
  generalize x * y = p at *
  have hr := word_sum m0 e1 e2
  have hd := word_lim hr hm hu hv
  refine ⟨z2, h + d1 + d2, Lib.hid fun w => ?_, hr, l2, hd⟩
  have f1 : IntKind.u64.wrap ((h : Int) + (d1 : Int)) = ((h + d1 : Nat) : Int) := by rw [IntKind.wrap_u64]; omega
  have f2 : IntKind.u64.wrap (((h + d1 : Nat) : Int) + (d2 : Int)) = ((h + d1 + d2 : Nat) : Int) := by rw [IntKind.wrap_u64]; omega
  simp only [Int.ofNat_zero] at s1 s2
  generalize h + d1 + d2 = hd2 at *
  generalize h + d1 = hd1 at *
  clear hr hd hm m0 e1 e2 l1 l2 hx hy hu hv p0 q0
  go_enter Try.func35, Try.ntmps35
  go_wp2_with fail
  with_reducible refine (M0.out _).mono ?_
  rintro e w' ⟨rfl, rfl⟩
  go_wp2
  go_ret2
  exact ⟨rfl, rfl⟩

theorem wd4_at (n i : Nat) (hi : i < 4) (u : World) : (Instr.index 38 (.agg (wdW 4 n)) (.int .i64 (i : Int))).run Try.prog u = .ok (.int .u64 (wq n i : Int)) u := by
  have hu : Try.prog.underlying 38 = some (.array 4 36) := by kernel_rfl
  have h1 : (0 : Int) ≤ (i : Int) ∧ (i : Int) < ((4 : Nat) : Int) := ⟨by omega, by omega⟩
  have hs : (sizeOf 36).run Try.prog u = .ok 1 u := by kernel_rfl
  have hv := wdW_get 4 n i hi
  simp [Instr.index, run_underlying hu, asIntOf, h1, hi, go_sem, hs, hv]
theorem zero_words (l : List Nat) (hl : Ws 8 l) (i : Nat) (h : vQ l < Q64 ^ i) (j : Nat) (hj : i ≤ j) (hj8 : j < 8) : l.getD j 0 = 0 := by
  rw [← wsL_vQ hl, wsL_get _ _ _ hj8]
  unfold wq
  rw [Nat.div_eq_of_lt (Nat.lt_of_lt_of_le h (Nat.pow_le_pow_right (by decide) hj)), Nat.zero_mod]
theorem row_eight (c : Nat) (hc : c < Q4) : ((wdW 4 c).toList ++ (wdW 8 0).toList.drop (wdW 4 c).size).toArray = wsA (wsL 4 c ++ [0, 0, 0, 0]) := by
  rw [wdW_size]
  unfold wdW wsA
  simp [wsL]
theorem eight_ws (c : Nat) (hc : c < Q4) : Ws 8 (wsL 4 c ++ [0, 0, 0, 0]) ∧ vQ (wsL 4 c ++ [0, 0, 0, 0]) = c := by
  have e : wsL 4 c ++ [0, 0, 0, 0] = wsL 8 c := by
    refine ws_ext (k := 8) (by simp [wsL_len]) (wsL_len _ _) fun i hi => ?_
    rw [wsL_get _ _ _ hi]
    by_cases h : i < 4
    · rw [List.getD_eq_getElem?_getD, List.getElem?_append_left (by rw [wsL_len]; exact h), ← List.getD_eq_getElem?_getD, wsL_get _ _ _ h]
    · rw [List.getD_eq_getElem?_getD, List.getElem?_append_right (by rw [wsL_len]; omega), wsL_len, ← List.getD_eq_getElem?_getD]
      have h4 : i = 4 ∨ i = 5 ∨ i = 6 ∨ i = 7 := by omega
      have : wq c i = 0 := by
        unfold wq
        rw [Nat.div_eq_of_lt (Nat.lt_of_lt_of_le (by rw [← q4_is] at hc; exact hc) (Nat.pow_le_pow_right (by decide) (show 4 ≤ i by omega))), Nat.zero_mod]
      rw [this]
      rcases h4 with rfl | rfl | rfl | rfl <;> rfl
  rw [e]
  exact ⟨wsL_ws 8 c, vQ_eq (Nat.lt_trans (by rw [← q4_is] at hc; exact hc) (by decide))⟩

set_option maxHeartbeats 6400000 in
theorem scmuladd_any (a b c : Nat) (ha : a < Q4) (hb : b < Q4) (hc : c < Q4) (w : World) :
    Calls Try.prog 32 #[.agg (wdW 4 a), .agg (wdW 4 b), .agg (wdW 4 c)] w (RetV w (.agg (wdW 8 (a * b + c)))) := by
  have hz8 := wd8_zero
  obtain ⟨hws0, hv0⟩ := eight_ws c hc
  have HRE := Lib.hid (row_eight c hc)
  have HWS0 := Lib.hid hws0
  have HV0 : Hid (vQ (wsL 4 c ++ [0, 0, 0, 0]) = a % Q64 ^ 0 * b + c) := Lib.hid (by rw [hv0, Nat.pow_zero, Nat.mod_one, Nat.zero_mul, Nat.zero_add])
  have HLIM : Hid (∀ i, i ≤ 4 → a % Q64 ^ i * b + c < Q64 ^ (i + 4)) := Lib.hid fun i hi => by
    rw [Nat.pow_add, q4_is]
    exact mul_lim (Nat.mod_lt _ (Nat.pow_pos (by decide))) hb hc
  have HEND : Hid (a % Q64 ^ 4 * b + c = a * b + c) := Lib.hid (by rw [q4_is, Nat.mod_eq_of_lt ha])
  have HB4 : Hid (b % Q64 ^ 4 = b) := Lib.hid (by rw [q4_is, Nat.mod_eq_of_lt hb])
  have HIA : Hid (∀ k : Nat, k < 4 → ∀ u, (Instr.index 38 (.agg (wdW 4 a)) (.int .i64 (k : Int))).run Try.prog u = .ok (.int .u64 (wq a k : Int)) u) := Lib.hid fun k hk u => wd4_at a k hk u
  have HIB : Hid (∀ k : Nat, k < 4 → ∀ u, (Instr.index 38 (.agg (wdW 4 b)) (.int .i64 (k : Int))).run Try.prog u = .ok (.int .u64 (wq b k : Int)) u) := Lib.hid fun k hk u => wd4_at b k hk u
  have iA := wd4_info a
  have iB := wd4_info b
  have iO := wd8_info (a * b + c)
  have oO := wdW_one 8 (a * b + c)
  have sO : (wdW 8 0).size = (wdW 8 (a * b + c)).size := by rw [wdW_size, wdW_size]
  have oC := wdW_one 4 c
  have sC : (wdW 4 c).size = 4 := wdW_size 4 c
  have s8 : (wdW 8 0).size = 8 := wdW_size 8 0
  have HOUT : Hid (∀ l, Ws 8 l → vQ l = a * b + c → wsA l = wdW 8 (a * b + c)) := Lib.hid fun l h1 h2 => ws_row h1 h2
  generalize wdW 8 (a * b + c) = OUT at *
  generalize wdW 8 0 = z8 at *
  generalize wdW 4 a = WA at *
  generalize wdW 4 b = WB at *
  generalize wdW 4 c = WC at *
  clear hws0 hv0 ha hb hc
  have hr0 : RowsW (((((w.alloc (.cells WA 38)).alloc (.cells WB 38)).alloc (.cells WC 38)).alloc (.cells z8 48)).alloc (.cells z8 48)) [(w.heap.size + 1 + 1 + 1 + 1, z8, 48), (w.heap.size + 1 + 1 + 1, z8, 48), (w.heap.size + 1 + 1, WC, 38), (w.heap.size + 1, WB, 38), (w.heap.size, WA, 38)] := by
    have h := (((((RowsW.nil w).box WA 38).box WB 38).box WC 38).box z8 48).box z8 48
    simp only [World.size_alloc] at h
    exact h
  have hb0 : Below w.heap.size w (((((w.alloc (.cells WA 38)).alloc (.cells WB 38)).alloc (.cells WC 38)).alloc (.cells z8 48)).alloc (.cells z8 48)) := below_alloc (below_alloc (below_alloc (below_alloc (below_alloc (Below.refl _ _) _) _) _) _) _
  have HR0 := Lib.hid hr0
  have HB0 := Lib.hid hb0
  clear hr0 hb0
  go_enter Try.func32, Try.ntmps32
  go_wp2_with fail
  obtain ⟨W0, hW0⟩ : ∃ W, ((((w.alloc (.cells WA 38)).alloc (.cells WB 38)).alloc (.cells WC 38)).alloc (.cells z8 48)).alloc (.cells z8 48) = W := ⟨_, rfl⟩
  obtain ⟨g, hg⟩ : ∃ g, w.heap.size = g := ⟨_, rfl⟩
  rw [hW0] at HB0
  rw [hW0, hg] at HR0
  have HG := Lib.hid hg
  rw [hW0, hg]
  clear hW0 hg
  refine wp_region_still_tail 2 (by kernel_rfl) (by kernel_rfl) ?_
  simp only [List.take_succ_cons, List.take_zero, List.drop_succ_cons, List.drop_zero]
  iterate 2 still_step
  refine wpStill_nil ?_
  refine wpList_copy_row rfl (.tmp 13) (.tmp 14) 57 57 rfl 36 Try.underlying57 (by kernel_rfl) (g + 1 + 1 + 1 + 1) 8 8 (g + 1 + 1) 4 4 rfl rfl z8 WC 48 38 HR0.out.head HR0.out.tail.tail.head sC.symm (by rw [sC]; omega) (by rw [sC, s8]; omega) oC ?_
  rw [HRE.out]
  obtain ⟨W1, hW1⟩ : ∃ W, ({ W0 with drawn := W0.drawn + 1 } : World).setRow (g + 1 + 1 + 1 + 1) (wsA (wsL 4 c ++ [0, 0, 0, 0])) = W := ⟨_, rfl⟩
  have HI : Hid (Lp w W1 (g + 1 + 1 + 1 + 1) (wsA (wsL 4 c ++ [0, 0, 0, 0])) 48 [(g + 1 + 1 + 1, z8, 48), (g + 1, WB, 38), (g, WA, 38)]) := Lib.hid (by
    rw [← hW1]
    refine ⟨⟨setRow_heap _ _ _ _ _ _ HR0.out.head, ?_, ?_, ?_, trivial⟩, by rw [HG.out]; omega, by simp; omega, below_row (below_drewN' HB0.out 1) (by rw [HG.out]; omega)⟩
    · rw [setRow_other _ _ _ _ (by omega)]; exact HR0.out.tail.head
    · rw [setRow_other _ _ _ _ (by omega)]; exact HR0.out.tail.tail.tail.head
    · rw [setRow_other _ _ _ _ (by omega)]; exact HR0.out.tail.tail.tail.tail.head)
  rw [hW1]
  have hla := HI.out.rows.tail.tail.tail.head
  clear hW1 HR0 HB0 HRE sC s8 oC
  generalize wsL 4 c ++ [0, 0, 0, 0] = L0 at *
  go_wp2_with (refine wpList_load_row rfl 38 (.tmp 3) rfl g rfl 38 WA (0, 0) _ hla Try.underlying38 rfl iA ?_)
  clear hla
  go_loopw [17] (fun i_ wr => ∃ (i : Nat) (l : List Nat), i ≤ 4 ∧ i_ = .int .i64 (i : Int) ∧ Hid (Ws 8 l) ∧ Hid (vQ l = a % Q64 ^ i * b + c) ∧ Hid (Lp w wr (g + 1 + 1 + 1 + 1) (wsA l) 48 [(g + 1 + 1 + 1, z8, 48), (g + 1, WB, 38), (g, WA, 38)])) (fun i_ _ => 4 - (intOf i_).toNat)
  case atStart => exact ⟨0, L0, by omega, rfl, HWS0, HV0, HI⟩
  case round =>
    clear HI HWS0 HV0
    obtain ⟨i, l, hi, rfl, HWS, HV, HI⟩ := hrel
    by_cases hlt : i < 4
    · have hxi := HIA.out i hlt
      have hx := wq_lt a i
      have HXD := Lib.hid (mod_q a i)
      have HZW := Lib.hid (zero_words l HWS.out (i + 4) (by rw [HV.out]; exact HLIM.out i hi))
      obtain ⟨x, hxe⟩ : ∃ x, wq a i = x := ⟨_, rfl⟩
      rw [hxe] at hxi hx HXD
      have HX := Lib.hid hx
      have hlb := HI.out.rows.tail.tail.head
      have e7 : decide ((i : Int) < 4) = true := decide_eq_true (by omega)
      have b5 : 0 ≤ (i : Int) := by omega
      have b6 : (i : Int) < 4 := by omega
      have HLT := Lib.hid hlt
      have HZ4 : Hid (l.getD (i + 4) 0 = 0) := Lib.hid (HZW.out (i + 4) (Nat.le_refl _) (by omega))
      have HN0 : Hid (vQ l + 0 * (Q64 ^ i * Q64 ^ 0) = vQ l + x * (b % Q64 ^ 0) * Q64 ^ i) := Lib.hid (by rw [Nat.pow_zero, Nat.mod_one]; simp)
      obtain ⟨N0, hN0⟩ : ∃ n, vQ l = n := ⟨_, rfl⟩
      have HNV : Hid (N0 = a % Q64 ^ i * b + c) := Lib.hid (by rw [← hN0]; exact HV.out)
      have HN1 : Hid (vQ l + 0 * (Q64 ^ i * Q64 ^ 0) = N0 + x * (b % Q64 ^ 0) * Q64 ^ i) := Lib.hid (by rw [← hN0]; exact HN0.out)
      clear hx hxe hN0 HN0 HV hlt HZW
      go_wp2_with (refine wpList_load_row rfl 38 (.tmp 4) rfl (g + 1) rfl 38 WB (0, 0) _ hlb Try.underlying38 rfl iB ?_)
      clear hlb
      go_loopw [10, 22] (fun c_ j_ wr => ∃ (j : Nat) (l : List Nat) (cc : Nat), j ≤ 4 ∧ j_ = .int .i64 (j : Int) ∧ c_ = .int .u64 (cc : Int) ∧ Hid (Ws 8 l) ∧ Hid (l.getD (i + 4) 0 = 0) ∧ Hid (cc < 18446744073709551616) ∧ Hid (vQ l + cc * (Q64 ^ i * Q64 ^ j) = N0 + x * (b % Q64 ^ j) * Q64 ^ i) ∧ Hid (Lp w wr (g + 1 + 1 + 1 + 1) (wsA l) 48 [(g + 1 + 1 + 1, z8, 48), (g + 1, WB, 38), (g, WA, 38)])) (fun _ j_ _ => 4 - (intOf j_).toNat)
      case atStart => exact ⟨0, l, 0, by omega, rfl, rfl, HWS, HZ4, Lib.hid (by omega), HN1, HI⟩
      case round =>
        clear HI HWS HN1 HZ4
        obtain ⟨j, l2, cc, hj, rfl, rfl, HWS, HZ4, HC, HV, HI⟩ := hrel
        by_cases hlt2 : j < 4
        · have hyj := HIB.out j hlt2
          have hy := wq_lt b j
          have hij := HLT.out
          have HYD := Lib.hid (mod_q b j)
          obtain ⟨y, hye⟩ : ∃ y, wq b j = y := ⟨_, rfl⟩
          rw [hye] at hyj hy HYD
          have hu := HWS.out.lt (i + j) (by omega)
          have cn : wr.cell? ⟨g + 1 + 1 + 1 + 1, i + j, none⟩ = some (.int .u64 ((l2.getD (i + j) 0 : Nat) : Int)) := by rw [cell_of_row _ _ _ _ _ _ HI.out.rows.head, wsA_get _ _ (by rw [HWS.out.len]; omega)]
          have fz := HI.out.fz (i + j)
          obtain ⟨z, d, HM, em, lz, ld⟩ := scword_ex x y (l2.getD (i + j) 0) cc HX.out (by unfold Q64 at hy; exact hy) (by unfold Q64 at hu; exact hu) HC.out
          have HV2 : Hid (vQ (l2.set (i + j) z) + d * (Q64 ^ i * Q64 ^ (j + 1)) = N0 + x * (b % Q64 ^ (j + 1)) * Q64 ^ i) := Lib.hid (by
            have hs := vQ_set l2 (i + j) z (by rw [HWS.out.len]; omega)
            rw [Nat.pow_add] at hs
            rw [HYD.out, Nat.pow_succ, ← Nat.mul_assoc (Q64 ^ i)]
            exact mul_wd em hs HV.out)
          have HWS2 := Lib.hid (HWS.out.set (i + j) z (by unfold Q64; exact lz))
          have HZ2 : Hid ((l2.set (i + j) z).getD (i + 4) 0 = 0) := Lib.hid (by
            rw [List.getD_eq_getElem?_getD, List.getElem?_set, if_neg (by omega), ← List.getD_eq_getElem?_getD]; exact HZ4.out)
          have HC2 := Lib.hid ld
          have HI2 : Hid (Lp w (wr.setCell ⟨g + 1 + 1 + 1 + 1, i + j, none⟩ (.int .u64 (z : Int))) (g + 1 + 1 + 1 + 1) (wsA (l2.set (i + j) z)) 48 [(g + 1 + 1 + 1, z8, 48), (g + 1, WB, 38), (g, WA, 38)]) := Lib.hid (by
            rw [← wsA_set]
            exact HI.out.set (i + j) _)
          generalize l2.getD (i + j) 0 = u at *
          have e1 : (i : Int) + (j : Int) = ((i + j : Nat) : Int) := by omega
          have e2 : IntKind.i64.wrap ((i + j : Nat) : Int) = ((i + j : Nat) : Int) := by rw [IntKind.wrap_i64]; omega
          have e8 : decide ((j : Int) < 4) = true := decide_eq_true (by omega)
          have b7 : 0 ≤ (j : Int) := by omega
          have b8 : (j : Int) < 4 := by omega
          have b9 : 0 ≤ ((i + j : Nat) : Int) := by omega
          have b10 : ((i + j : Nat) : Int) < 8 := by omega
          generalize hij2 : i + j = ij at *
          have HJ := Lib.hid hj
          have HLT2 := Lib.hid hlt2
          clear HI HWS HZ4 HC HV hy hye hu em lz ld hij hij2 hj hlt2
          go_wp2_with fail
          with_reducible refine (HM.out _).mono ?_
          rintro e w' ⟨rfl, rfl⟩
          go_wp2_with fail
          go_roundw
          case rel => exact ⟨j + 1, _, d, by have := HLT2.out; omega, by go_num, rfl, HWS2, HZ2, HC2, HV2, HI2⟩
          case measure => have := HLT2.out; simp [intOf]; omega
        · have e8 : decide ((j : Int) < 4) = false := decide_eq_false (by omega)
          obtain rfl : j = 4 := by omega
          have hij := HLT.out
          have e1 : (i : Int) + 4 = ((i + 4 : Nat) : Int) := by omega
          have e2 : IntKind.i64.wrap ((i + 4 : Nat) : Int) = ((i + 4 : Nat) : Int) := by rw [IntKind.wrap_i64]; omega
          have b9 : 0 ≤ ((i + 4 : Nat) : Int) := by omega
          have b10 : ((i + 4 : Nat) : Int) < 8 := by omega
          have fz := HI.out.fz (i + 4)
          have cn : wr.cell? ⟨g + 1 + 1 + 1 + 1, i + 4, none⟩ = some (.int .u64 ((l2.getD (i + 4) 0 : Nat) : Int)) := by rw [cell_of_row _ _ _ _ _ _ HI.out.rows.head, wsA_get _ _ (by rw [HWS.out.len]; omega)]
          have HV2 : Hid (vQ (l2.set (i + 4) cc) = a % Q64 ^ (i + 1) * b + c) := Lib.hid (by
            have hs := vQ_set l2 (i + 4) cc (by rw [HWS.out.len]; omega)
            rw [HZ4.out, Nat.zero_mul, Nat.add_zero, Nat.pow_add] at hs
            rw [hs, HV.out, HB4.out, HNV.out, HXD.out, Nat.add_mul]
            have : x * b * Q64 ^ i = x * Q64 ^ i * b := by rw [Nat.mul_assoc, Nat.mul_comm b, ← Nat.mul_assoc]
            omega)
          have HWS2 := Lib.hid (HWS.out.set (i + 4) cc (by unfold Q64; exact HC.out))
          have HI2 : Hid (Lp w (wr.setCell ⟨g + 1 + 1 + 1 + 1, i + 4, none⟩ (.int .u64 (cc : Int))) (g + 1 + 1 + 1 + 1) (wsA (l2.set (i + 4) cc)) 48 [(g + 1 + 1 + 1, z8, 48), (g + 1, WB, 38), (g, WA, 38)]) := Lib.hid (by
            rw [← wsA_set]
            exact HI.out.set (i + 4) _)
          generalize l2.getD (i + 4) 0 = u at *
          generalize hi4 : i + 4 = i4 at *
          clear HI HWS HZ4 HC HV hij hi4 hlt2 hj
          go_wp2_with fail
          go_roundw
          case rel => exact ⟨i + 1, _, by have := HLT.out; omega, by go_num, HWS2, HV2, HI2⟩
          case measure => have := HLT.out; simp [intOf]; omega
    · have e7 : decide ((i : Int) < 4) = false := decide_eq_false (by omega)
      obtain rfl : i = 4 := by omega
      rw [HOUT.out l HWS.out (by rw [HV.out, HEND.out])] at HI
      have h1 := HI.out.rows.head
      have h0 := HI.out.rows.tail.head
      have HB : Hid (Below w.heap.size w (wr.setRow (g + 1 + 1 + 1) OUT)) := Lib.hid (below_row HI.out.below (by rw [HG.out]; omega))
      clear HI HV HWS hlt
      go_wp2_with (first
        | (refine wpList_load_row rfl 48 (.tmp 7) rfl (g + 1 + 1 + 1 + 1) rfl 48 OUT (0, 0) _ h1 Try.underlying48 rfl iO ?_)
        | (refine wpList_store_row rfl 48 (.tmp 6) (.tmp 48) rfl (g + 1 + 1 + 1) OUT rfl rfl 48 z8 h0 iO sO oO ?_))
      (try simp only [Exit.inBlock, Exit.then])
      refine bodyPost_ret (results_cell_row rfl _ _ (g + 1 + 1 + 1) _ OUT _ _ rfl (setRow_heap _ _ _ _ _ _ h0) Try.underlying48 rfl iO) rfl ?_
      exact ⟨rfl, HB.out⟩
end Go.Proofs.Ytmmfbbbljhifjaa

