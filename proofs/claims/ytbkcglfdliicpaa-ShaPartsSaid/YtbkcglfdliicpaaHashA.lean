/- The contracts of the developers' appendNumber, stateBytes and padding. -/
import Derived.Test.YtbkcglfdliicpaaGsha2
import Derived.Test.YtbkcglfdliicpaaZeros
import Derived.Test.YtbkcglfdliicpaaPressC
namespace Go.Proofs.Ytbkcglfdliicpaa
open Go.RowKit
set_option linter.unusedVariables false
set_option maxRecDepth 100000

theorem run_index_arrW {P : Program} {t e : TypeId} {n i : Nat} {v : Value} {w : World} {cs : Array Value} (k : IntKind) (h : P.underlying t = some (.array n e)) (hi : i < n)
    (ha : (isAgg e).run P w = .ok false w) (hs : (sizeOf e).run P w = .ok 1 w) (hv : cs[i]? = some v) : (Instr.index t (.agg cs) (.int k (i : Int))).run P w = .ok v w := by
  have h1 : (0 : Int) ≤ (i : Int) ∧ (i : Int) < (n : Int) := ⟨by omega, by omega⟩
  simp [Instr.index, run_underlying h, asIntOf, h1, hi, go_sem, ha, hs, hv]

theorem hiB_take (x k : Nat) (hk : k < 8) : (hiB x).take (k + 1) = (hiB x).take k ++ [UInt8.ofNat (x / 2 ^ (56 - 8 * k))] := by
  rw [List.take_add_one]
  congr 1
  simp [hiB, hk]

set_option maxHeartbeats 1600000 in
theorem happ_any (v : Value) (l : List UInt8) (base x : Nat) (w : World) (ho : Ob 5 w base v l) (hl : l.length ≤ 100000) (hb : base ≤ w.heap.size) (hx : x < 18446744073709551616) :
    Calls Try.prog 33 #[v, .int .u64 (x : Int)] w fun e w' => ∃ v', e = .returned v' ∧ Ob 5 w' base v' (l ++ hiB x) ∧ Below base w w' := by
  have Hpost : Hid (∀ v' w', Ob 5 w' base v' (l ++ hiB x) → Below base w w' → ∃ v'', Ending.returned v' = .returned v'' ∧ Ob 5 w' base v'' (l ++ hiB x) ∧ Below base w w') := Lib.hid (fun v' w' ho hb => ⟨v', rfl, ho, hb⟩)
  have HO0 : Hid (Ob 5 w base v (l ++ (hiB x).take 0)) := Lib.hid (by simpa using ho)
  have HL := Lib.hid hl
  have HX := Lib.hid hx
  have HB := Lib.hid hb
  clear ho hl hx hb
  go_enter Try.func33, Try.ntmps33
  go_wp2
  go_loopw [0, 5] (fun v i wr => ∃ k : Nat, k ≤ 8 ∧ i = .int .i64 (56 - 8 * (k : Int)) ∧ Hid (Ob 5 wr base v (l ++ (hiB x).take k)) ∧ Hid (Below base w wr)) (fun _ i _ => (intOf i + 8).toNat)
  case atStart => exact ⟨0, by omega, rfl, HO0, Lib.hid (Below.refl _ _)⟩
  case round =>
    clear HO0
    obtain ⟨k, hk, rfl, HO, HBE⟩ := hrel
    by_cases hlt : k < 8
    · obtain ⟨s, hs⟩ : ∃ s, 56 - 8 * k = s := ⟨_, rfl⟩
      obtain ⟨q, hq⟩ : ∃ q, x / 2 ^ s = q := ⟨_, rfl⟩
      have hnx := hiB_take x k hlt
      rw [hs, hq] at hnx
      have e1 : 56 - 8 * (k : Int) = (s : Int) := by omega
      have e2 : (s : Int) - 8 = 56 - 8 * ((k + 1 : Nat) : Int) := by omega
      have t3 : (x : Int) / 2 ^ s = (q : Int) := by rw [← hq]; simp
      have hql : q < 18446744073709551616 := by rw [← hq]; exact Nat.lt_of_le_of_lt (Nat.div_le_self _ _) HX.out
      have hs56 : s ≤ 56 := by omega
      obtain ⟨m, hm⟩ : ∃ m, l ++ (hiB x).take k = m := ⟨_, rfl⟩
      have hml : m.length ≤ 100008 := by rw [← hm, List.length_append, List.length_take, hiB_len]; have := HL.out; omega
      have HN : Hid (l ++ (hiB x).take (k + 1) = m ++ [UInt8.ofNat q]) := Lib.hid (by rw [hnx, ← List.append_assoc, hm])
      rw [hm] at HO
      rw [e1]
      have HE2 := Lib.hid e2
      have HML := Lib.hid hml
      have hbb : Bs (wr.alloc (.cells #[.int .u8 ((q : Int) % 256)] 5)) (some ⟨wr.heap.size, 0, none⟩) [UInt8.ofNat q] := fun _ => ⟨_, _, rfl, fun j hj => by
        have : j = 0 := by simpa using hj
        subst this
        rw [cell_of_row _ _ _ _ _ _ (heap_alloc_new _ _)]
        simp⟩
      have HBB := Lib.hid hbb
      have O1 := Lib.hid (Ob.below HO.out ((Below.refl _ wr).alloc (Nat.le_refl _) (.cells #[.int .u8 ((q : Int) % 256)] 5)))
      have HB1 : Hid (Below base w (wr.alloc (.cells #[.int .u8 ((q : Int) % 256)] 5))) := Lib.hid (HBE.out.alloc (Nat.le_trans HB.out HBE.out.size) _)
      have HB1' : Hid (base ≤ (wr.alloc (.cells #[.int .u8 ((q : Int) % 256)] 5)).heap.size) := Lib.hid (Nat.le_trans HB.out HB1.out.size)
      obtain ⟨A3, c3, rfl, -, -⟩ := HO.out.form
      clear hs hq hnx hm hml e1 e2 hbb HO HBE
      go_wp2_with (at_builtin; refine wpList_append_bs rfl (.tmp 10) (.tmp 15) 22 rfl base 5 Try.underlying22 info5 _ m rfl O1.out _ [UInt8.ofNat q] _ _ rfl rfl HBB.out (by have := HML.out; simp; omega) HB1'.out ?_; intro v5 w5 ho5 hgr5; have HB5 := Lib.hid (HB1.out.grown hgr5 HB1'.out (fun k hk => O1.out.fresh k (own_at hk))); have HO5 := Lib.hid ho5; clear ho5 hgr5)
      go_roundw
      case rel => exact ⟨k + 1, by omega, by rw [← HE2.out], by rw [HN.out]; exact HO5, HB5⟩
      case measure => simp [intOf]; omega
    · obtain rfl : k = 8 := by omega
      have HO2 : Hid (Ob 5 wr base u0 (l ++ hiB x)) := Lib.hid (by
        have := HO.out
        rwa [show (hiB x).take 8 = hiB x from List.take_of_length_le (by rw [hiB_len]; omega)] at this)
      clear HO
      obtain ⟨A3, c3, rfl, -, -⟩ := HO2.out.form
      go_wp2
      go_ret
      exact Hpost.out _ _ HO2.out HBE.out

set_option maxHeartbeats 1600000 in
theorem hbytes_any (s : St) (w : World) : Calls Try.prog 34 #[.agg (tabW s.l)] w (RetOb 5 w (bytesS s)) := by
  have Hpost : Hid (∀ v w', Ob 5 w' w.heap.size v (bytesS s) → Below w.heap.size w w' → RetOb 5 w (bytesS s) (.returned v) w') := Lib.hid (fun v w' ho hb => ⟨v, rfl, ho, hb⟩)
  have hlist : ∀ k, k ≤ 8 → ((s.l.take k).flatMap fun x => hiB x.toNat).length = 8 * k := fun k hk => by
    have : ∀ l : List W64, (l.flatMap fun x => hiB x.toNat).length = 8 * l.length := fun l => by
      induction l with
      | nil => rfl
      | cons a l ih => rw [List.flatMap_cons, List.length_append, ih, hiB_len, List.length_cons]; omega
    rw [this, List.length_take, St.len]; omega
  have HLI := Lib.hid hlist
  have hget : ∀ k, k < 8 → (tabW s.l)[k]? = some (.int .u64 ((wG s.l k).toNat : Int)) := fun k hk => tabW_get _ _ (by rw [St.len]; exact hk)
  have hS8 : (tabW s.l).size = 8 := by rw [tabW_size, St.len]
  obtain ⟨S, hS⟩ : ∃ t, tabW s.l = t := ⟨_, rfl⟩
  have h0 : (w.alloc (.cells S 49)).heap[w.heap.size]? = some (.cells S 49 (0, 0)) := heap_alloc_new _ _
  rw [hS] at hget hS8 ⊢
  have iS : (Try.prog.info? 49).map (·.size) = some S.size := by rw [hS8]; kernel_rfl
  have HGET := Lib.hid hget
  obtain ⟨W1, hW1⟩ : ∃ W, w.alloc (.cells S 49) = W := ⟨_, rfl⟩
  have HB : Hid (Below w.heap.size w W1) := Lib.hid (by rw [← hW1]; exact below_alloc (Below.refl _ w) _)
  rw [hW1] at h0
  have HW1 := Lib.hid hW1
  clear hS hW1 hlist hget hS8
  go_enter Try.func34, Try.ntmps34
  go_wp2_with (refine wpList_load_row rfl 49 (.tmp 1) rfl w.heap.size rfl 49 S (0, 0) _ (by rw [HW1.out]; exact h0) Try.underlying49 rfl iS ?_)
  rw [HW1.out]
  clear HW1 h0 iS
  go_loopw [3, 7] (fun v i wr => ∃ k : Nat, k ≤ 8 ∧ i = .int .i64 (k : Int) ∧ Hid (Ob 5 wr W1.heap.size v ((s.l.take k).flatMap fun x => hiB x.toNat)) ∧ Hid (Below W1.heap.size W1 wr)) (fun _ i _ => 8 - (intOf i).toNat)
  case atStart => exact ⟨0, by omega, rfl, Lib.hid (Ob.nil_ _ _ _), Lib.hid (Below.refl _ _)⟩
  case round =>
    obtain ⟨k, hk, rfl, HO, HBE⟩ := hrel
    by_cases hlt : k < 8
    · obtain ⟨x, hx⟩ : ∃ x, wG s.l k = x := ⟨_, rfl⟩
      have hix : ∀ u : World, (Instr.index 49 (.agg S) (.int .i64 (k : Int))).run Try.prog u = .ok (.int .u64 (x.toNat : Int)) u := fun u => by
        refine run_index_arrW (e := 48) (n := 8) .i64 (by kernel_rfl) hlt (by kernel_rfl) (by kernel_rfl) ?_
        rw [HGET.out k hlt, hx]
      have hnx : ((s.l.take (k + 1)).flatMap fun x => hiB x.toNat) = ((s.l.take k).flatMap fun x => hiB x.toNat) ++ hiB x.toNat := by
        have e : s.l.take (k + 1) = s.l.take k ++ [x] := by
          have hl := St.len s
          rw [List.take_add_one]
          congr 1
          rw [← hx]
          simp [wG, List.getD, List.getElem?_eq_getElem (show k < s.l.length by omega)]
        rw [e, List.flatMap_append]
        simp
      have HNX := Lib.hid hnx
      have hlen := HLI.out k hk
      obtain ⟨m, hm⟩ : ∃ m, ((s.l.take k).flatMap fun x => hiB x.toNat) = m := ⟨_, rfl⟩
      rw [hm] at HO HNX hlen
      have HAP := Lib.hid (happ_any u3 m W1.heap.size x.toNat wr HO.out (by omega) HBE.out.size x.isLt)
      have p1 : 0 ≤ (k : Int) := by omega
      have p2 : (k : Int) < 8 := by omega
      obtain ⟨A3, c3, rfl, -, -⟩ := HO.out.form
      clear hx hnx hm hlen HO
      go_wp2_with fail
      with_reducible refine HAP.out.mono ?_
      rintro e w4 ⟨v4, rfl, ho4, hb4⟩
      have HO5 := Lib.hid ho4
      have HB5 := Lib.hid (HBE.out.trans hb4)
      clear ho4 hb4 HBE HAP
      go_wp2_with fail
      go_roundw
      case rel => exact ⟨k + 1, by omega, by go_num, by rw [HNX.out]; exact HO5, HB5⟩
      case measure => simp [intOf]; omega
    · obtain rfl : k = 8 := by omega
      have HO2 : Hid (Ob 5 wr W1.heap.size u3 (bytesS s)) := Lib.hid (by
        have := HO.out
        rwa [show s.l.take 8 = s.l from List.take_of_length_le (by rw [St.len]; omega)] at this)
      clear HO
      obtain ⟨A3, c3, rfl, -, -⟩ := HO2.out.form
      go_wp2_with fail
      go_ret
      exact Hpost.out _ _ (HO2.out.low HB.out.size) (below_next HB.out HBE.out)

set_option maxHeartbeats 1600000 in
theorem hpad_any (n : Nat) (w : World) (hn : n ≤ 1152921504606866976) : Calls Try.prog 44 #[.int .u64 (n : Int)] w (RetOb 5 w (padB n)) := by
  have Hpost : Hid (∀ v w', Ob 5 w' w.heap.size v (padB n) → Below w.heap.size w w' → RetOb 5 w (padB n) (.returned v) w') := Lib.hid (fun v w' ho hb => ⟨v, rfl, ho, hb⟩)
  obtain ⟨Z, hZ⟩ : ∃ Z, (239 - n % 128) % 128 = Z := ⟨_, rfl⟩
  obtain ⟨x1, hx1⟩ : ∃ x, n / 2 ^ 61 = x := ⟨_, rfl⟩
  obtain ⟨x2, hx2⟩ : ∃ x, n * 8 % 2 ^ 64 = x := ⟨_, rfl⟩
  have hP : padB n = ((128 :: List.replicate Z 0) ++ hiB x1) ++ hiB x2 := by unfold padB; rw [hZ, hx1, hx2]; simp
  have HP := Lib.hid hP
  have HZ := Lib.hid hZ
  have hx1l : x1 < 18446744073709551616 := by omega
  have hx2l : x2 < 18446744073709551616 := by omega
  have HX1 := Lib.hid hx1l
  have HX2 := Lib.hid hx2l
  have t1 : (n : Int) / 2305843009213693952 = (x1 : Int) := by omega
  have t2 : IntKind.u64.wrap ((n : Int) * 8) = (x2 : Int) := by rw [IntKind.wrap_u64]; omega
  have hb0 : Ob 5 (w.alloc (.cells #[.int .u8 128] 5)) w.heap.size (.slice (some ⟨w.heap.size, 0, none⟩) 1 1) (128 :: List.replicate 0 0) := by
    refine ⟨by simp, .inr ⟨w.heap.size, 1, _, by simp, Nat.le_refl _, heap_alloc_new _ _, by simp, by unfold maxLen; omega, by simp, by simp [bval]⟩⟩
  have HB0 : Hid (Below w.heap.size w (w.alloc (.cells #[.int .u8 128] 5))) := Lib.hid (below_alloc (Below.refl _ w) _)
  have HO0 := Lib.hid hb0
  have HN := Lib.hid hn
  clear hP hZ hx1 hx2 hx1l hx2l hb0 hn
  go_enter Try.func44, Try.ntmps44
  go_wp2_with fail
  obtain ⟨W1, hW1⟩ : ∃ W, w.alloc (.cells #[.int .u8 128] 5) = W := ⟨_, rfl⟩
  rw [hW1] at HO0 HB0
  rw [hW1]
  clear hW1
  go_loopw [3] (fun v wr => ∃ k M : Nat, k ≤ Z ∧ M = k + 1 ∧ ∃ A c, v = .slice A M c ∧ Hid (Ob 5 wr w.heap.size (.slice A M c) (128 :: List.replicate k 0)) ∧ Hid (Below w.heap.size w wr)) (fun v _ => Z + 1 - sLen v)
  case atStart => exact ⟨0, 1, by omega, rfl, _, _, rfl, HO0, HB0⟩
  case round =>
    clear HO0 HB0
    obtain ⟨k, M, hk, hM, A, c, rfl, HO, HBE⟩ := hrel
    obtain ⟨S, hS⟩ : ∃ S, n + M = S := ⟨_, rfl⟩
    obtain ⟨r, hr⟩ : ∃ r, S % 128 = r := ⟨_, rfl⟩
    have hz := HZ.out
    have hn := HN.out
    have hMl : M ≤ 200 := by omega
    have t3 : IntKind.u64.wrap ((n : Int) + (M : Int)) = (S : Int) := by rw [IntKind.wrap_u64]; omega
    have t4 : (S : Int).tmod 128 = (r : Int) := by rw [Int.tmod_eq_emod_of_nonneg (by omega)]; omega
    have t5 : (S : Int) % 128 = (r : Int) := by omega
    have t6 : IntKind.u64.wrap (M : Int) = (M : Int) := by rw [IntKind.wrap_u64]; omega
    have t7 : IntKind.u64.wrap (r : Int) = (r : Int) := by rw [IntKind.wrap_u64]; omega
    have HM := Lib.hid hM
    have HK := Lib.hid hk
    by_cases hlt : k < Z
    · have hne : ¬ (r : Int) = 112 := by omega
      have HM2 : Hid (M + 1 = k + 1 + 1) := Lib.hid (by omega)
      have HKZ := Lib.hid hlt
      have hbb : Bs (wr.alloc (.cells #[.int .u8 0] 5)) (some ⟨wr.heap.size, 0, none⟩) [0] := fun _ => ⟨_, _, rfl, fun j hj => by
        have : j = 0 := by simpa using hj
        subst this
        rw [cell_of_row _ _ _ _ _ _ (heap_alloc_new _ _)]
        simp⟩
      have HBB := Lib.hid hbb
      have O1 := Lib.hid (Ob.below HO.out ((Below.refl _ wr).alloc (Nat.le_refl _) (.cells #[.int .u8 0] 5)))
      have HB1 : Hid (Below w.heap.size w (wr.alloc (.cells #[.int .u8 0] 5))) := Lib.hid (below_alloc HBE.out _)
      have HML : Hid (k ≤ 1000) := Lib.hid (by omega)
      clear hS hr hz hn hM hk hlt hbb HO HBE
      go_wp2_with (at_builtin; refine wpList_append_bs rfl (.tmp 12) (.tmp 13) 22 rfl w.heap.size 5 Try.underlying22 info5 _ (128 :: List.replicate k 0) rfl O1.out _ [0] _ _ rfl rfl HBB.out (by have := HML.out; simp; omega) HB1.out.size ?_; intro v5 w5 ho5 hgr5; rw [show (128 :: List.replicate k 0) ++ [0] = 128 :: List.replicate (k + 1) (0 : UInt8) by rw [List.cons_append, ← List.replicate_succ']] at ho5; have HB5 := Lib.hid (HB1.out.grown hgr5 HB1.out.size (fun k hk => O1.out.fresh k (own_at hk))); obtain ⟨A5, c5, rfl, -, -⟩ := ho5.formL (n := M + 1) (by simp; have := HM2.out; omega); have HO5 := Lib.hid ho5; clear ho5 hgr5)
      go_roundw
      case rel => exact ⟨k + 1, M + 1, by have := HKZ.out; omega, HM2.out, A5, c5, rfl, HO5, HB5⟩
      case measure => simp [sLen]; have := HKZ.out; have := HM.out; omega
    · have he : (r : Int) = 112 := by omega
      have hkZ : k = Z := by omega
      have HO2 : Hid (Ob 5 wr w.heap.size (.slice A M c) (128 :: List.replicate Z 0)) := Lib.hid (by have := HO.out; rwa [hkZ] at this)
      have HAP := Lib.hid (happ_any (.slice A M c) (128 :: List.replicate Z 0) w.heap.size x1 wr HO2.out (by simp; omega) HBE.out.size HX1.out)
      have HZl : Hid (Z ≤ 127) := Lib.hid (by omega)
      clear hS hr hz hn hM hk hlt hkZ HO HO2
      go_wp2_with fail
      with_reducible refine HAP.out.mono ?_
      rintro e w4 ⟨v4, rfl, ho4, hb4⟩
      have HB4 := Lib.hid (HBE.out.trans hb4)
      have HAQ := Lib.hid (happ_any v4 _ w.heap.size x2 w4 ho4 (by simp [hiB_len]; have := HZl.out; omega) HB4.out.size HX2.out)
      obtain ⟨M4, hM4⟩ : ∃ n, (128 :: List.replicate Z 0 ++ hiB x1).length = n := ⟨_, rfl⟩
      obtain ⟨A4, c4, rfl, -, -⟩ := ho4.formL hM4
      clear ho4 hb4 HAP
      go_wp2_with fail
      with_reducible refine HAQ.out.mono ?_
      rintro e w5 ⟨v5, rfl, ho5, hb5⟩
      rw [← HP.out] at ho5
      have HO5 := Lib.hid ho5
      have HB5 := Lib.hid (HB4.out.trans hb5)
      clear ho5 hb5 HAQ
      go_wp2_with fail
      go_ret
      exact Hpost.out _ _ HO5.out HB5.out
end Go.Proofs.Ytbkcglfdliicpaa

