/- The contracts of the developers' Bytes and Canonical; the package whole. -/
import Derived.Test.YtlhnjdnkjgnooaaFeF
import Derived.Test.YtlhnjdnkjgnooaaFeG
namespace Go.Proofs.Ytlhnjdnkjgnooaa
open Go.RowKit
set_option linter.unusedVariables false
set_option maxRecDepth 100000

/-- five rows, one behind the other; the last one is written -/
structure Fiv (t0 t1 t2 t3 t4 : TypeId) (w wr : World) (g g2 : Nat) (A B C D E : Array Value) : Prop where
  b : wr.heap[g + 1]? = some (.cells B t1 (0, 0))
  d : wr.heap[g2]? = some (.cells D t3 (0, 0))
  e : wr.heap[g2 + 1]? = some (.cells E t4 (0, 0))
  gap : g + 1 < g2
  below : Below g w wr
theorem Fiv.set {t0 t1 t2 t3 t4 : TypeId} {w wr : World} {g g2 : Nat} {A B C D E : Array Value} (h : Fiv t0 t1 t2 t3 t4 w wr g g2 A B C D E) (k : Nat) (v : Value) : Fiv t0 t1 t2 t3 t4 w (wr.setCell ⟨g2 + 1, k, none⟩ v) g g2 A B C D (E.setIfInBounds k v) := by
  have e := setCell_eq_setRow wr (g2 + 1) k _ _ _ v h.e
  have hg := h.gap
  exact ⟨by rw [e, setRow_other _ _ _ _ (by omega)]; exact h.b, by rw [e, setRow_other _ _ _ _ (by omega)]; exact h.d, by rw [e, setRow_heap _ _ _ _ _ _ h.e], h.gap, h.below.setCell (p := ⟨g2 + 1, k, none⟩) (by show g ≤ g2 + 1; omega) _⟩
/-- the bytes so far -/
def byteF (V i : Nat) : UInt8 := UInt8.ofNat (V / 256 ^ i)
theorem bytes_end (V : Nat) : updTo (List.replicate 32 0) (byteF V) 32 = leB 32 V := by
  refine list_ext_getD (by rw [updTo_len, leB_len]; simp) fun i hi => ?_
  rw [updTo_len] at hi
  have hi' : i < 32 := by simpa using hi
  rw [updTo_get hi, if_pos hi', leB_get _ _ _ hi']
  rfl

set_option maxHeartbeats 3200000 in
theorem febytes_any {c : Array Value} {x : Nat} (hx : feR c x) (w : World) : Calls Try.prog 12 #[.agg c] w (RetV w (.agg (bytT x))) := by
  have ic := feR_info hx
  have hxl : x < PP := by obtain ⟨_, _, _, _, _, -, -, -, -, -, -, rfl⟩ := hx; exact Nat.mod_lt _ (by decide)
  have HD : Hid (∀ W' : World, Calls Try.prog 32 #[.agg c] W' (RetV W' (.agg (redA x)))) := Lib.hid fun W' => reduced_any hx W'
  have iS : (Try.prog.info? 26).map (·.size) = some (redA x).size := limb5_info _ _ _ _ _
  have sS : (#[.int .u64 0, .int .u64 0, .int .u64 0, .int .u64 0, .int .u64 0] : Array Value).size = (redA x).size := rfl
  have oS : (redA x).all (·.oneCell') = true := limb5_one _ _ _ _ _
  have hV := val5_bits x
  rw [Nat.mod_eq_of_lt (show x < TT by unfold PP at hxl; unfold TT; omega)] at hV
  have hm := fun y : Nat => Nat.mod_lt y (show M51 > 0 by decide)
  obtain ⟨y0, y1, y2, y3⟩ := bytes_words _ _ _ _ _ x (hm _) (hm _) (hm _) (hm _) (hm _) hV
  have j0 := hm x
  have j1 := hm (x / M51)
  have j2 := hm (x / M102)
  have j3 := hm (x / M153)
  have j4 := hm (x / M204)
  have HA : Hid (redA x = #[.int .u64 ((x % M51 : Nat) : Int), .int .u64 ((x / M51 % M51 : Nat) : Int), .int .u64 ((x / M102 % M51 : Nat) : Int), .int .u64 ((x / M153 % M51 : Nat) : Int), .int .u64 ((x / M204 % M51 : Nat) : Int)]) := Lib.hid rfl
  generalize redA x = RA at *
  generalize x % M51 = r0 at *
  generalize x / M51 % M51 = r1 at *
  generalize x / M102 % M51 = r2 at *
  generalize x / M153 % M51 = r3 at *
  generalize x / M204 % M51 = r4 at *
  unfold M51 at j0 j1 j2 j3 j4
  have e0 := or_low r0 (r1 % 8192) 51 (by omega) (by omega) (by omega)
  have e1 := or_low (r1 / 8192) (r2 % 67108864) 38 (by omega) (by omega) (by omega)
  have e2 := or_low (r2 / 67108864) (r3 % 549755813888) 25 (by omega) (by omega) (by omega)
  have e3 := or_low (r3 / 549755813888) r4 12 (by omega) (by omega) (by omega)
  rw [y0] at e0
  rw [y1] at e1
  rw [y2] at e2
  rw [y3] at e3
  have d1 : (r1 : Int) / 8192 = ((r1 / 8192 : Nat) : Int) := by omega
  have d2 : (r2 : Int) / 67108864 = ((r2 / 67108864 : Nat) : Int) := by omega
  have d3 : (r3 : Int) / 549755813888 = ((r3 / 549755813888 : Nat) : Int) := by omega
  have m0 : IntKind.u64.wrap ((r1 : Int) * 2251799813685248) = ((2 ^ 51 * (r1 % 8192) : Nat) : Int) := by rw [IntKind.wrap_u64]; omega
  have m1 : IntKind.u64.wrap ((r2 : Int) * 274877906944) = ((2 ^ 38 * (r2 % 67108864) : Nat) : Int) := by rw [IntKind.wrap_u64]; omega
  have m2 : IntKind.u64.wrap ((r3 : Int) * 33554432) = ((2 ^ 25 * (r3 % 549755813888) : Nat) : Int) := by rw [IntKind.wrap_u64]; omega
  have m3 : (r4 : Int) * 4096 = ((2 ^ 12 * r4 : Nat) : Int) := by omega
  have m3l : 2 ^ 12 * r4 < 18446744073709551616 := by omega
  generalize 2 ^ 51 * (r1 % 8192) = k0 at *
  generalize 2 ^ 38 * (r2 % 67108864) = k1 at *
  generalize 2 ^ 25 * (r3 % 549755813888) = k2 at *
  generalize 2 ^ 12 * r4 = k3 at *
  generalize r1 / 8192 = h1 at *
  generalize r2 / 67108864 = h2 at *
  generalize r3 / 549755813888 = h3 at *
  have HWD : Hid (wdA x = #[.int .u64 (wq x 0 : Int), .int .u64 (wq x 1 : Int), .int .u64 (wq x 2 : Int), .int .u64 (wq x 3 : Int)]) := Lib.hid rfl
  have HQ : Hid (∀ i, i < 32 → wq x (i / 8) / 2 ^ (i % 8 * 8) % 256 = x / 256 ^ i % 256) := Lib.hid (byte_of x)
  have hzb := fun u => arr32_zero u
  have nB := zero32_size (l := leB 32 x) (leB_len _ _)
  have oB := arrB_one (leB 32 x)
  have iB := arr32_info (leB_len 32 x)
  have ZB : zero32 = arrB (updTo (List.replicate 32 0) (byteF x) 0) := by rw [updTo_zero]; rfl
  rw [show arrB (List.replicate 32 0) = zero32 from rfl] at hzb
  have HZB := Lib.hid ZB
  have Hend : Hid (arrB (updTo (List.replicate 32 0) (byteF x) 32) = arrB (leB 32 x)) := Lib.hid (by rw [bytes_end])
  unfold bytT
  obtain ⟨OUT, hOUT⟩ : ∃ o, arrB (leB 32 x) = o := ⟨_, rfl⟩
  rw [hOUT] at nB oB iB Hend ⊢
  generalize zero32 = z32 at *
  have hW : RowsW ((w.alloc (.cells c 26)).alloc (.cells z32 22)) [(w.heap.size + 1, z32, 22), (w.heap.size, c, 26)] := by
    have h := ((RowsW.nil w).box c 26).box z32 22
    simp only [World.size_alloc] at h
    exact h
  have hld := hW.tail.head
  obtain ⟨W1, hW1⟩ : ∃ W1, (w.alloc (.cells c 26)).alloc (.cells z32 22) = W1 := ⟨_, rfl⟩
  have HB1 : Hid (Below w.heap.size w W1) := Lib.hid (by rw [← hW1]; exact below_alloc (below_alloc (Below.refl _ _) _) _)
  have HR := Lib.hid hW
  rw [hW1] at HR
  have HW1 := Lib.hid hW1
  clear hW hW1 hx hxl hV hm y0 y1 y2 y3 ZB hOUT j0 j1 j2 j3 j4
  go_enter Try.func12, Try.ntmps12
  go_wp2_with (refine wpList_load_row rfl 26 (.tmp 1) rfl w.heap.size rfl 26 c (0, 0) _ hld Try.underlying26 rfl ic ?_)
  rw [HW1.out]
  with_reducible refine (HD.out _).mono ?_
  rintro e w2 ⟨rfl, hb2⟩
  have HR2 := Lib.hid (HR.out.below hb2)
  have HB2 := Lib.hid (below_next HB1.out hb2)
  clear hb2 hld HW1 HR HD
  have h3 : (w2.alloc (.cells #[.int .u64 0, .int .u64 0, .int .u64 0, .int .u64 0, .int .u64 0] 26)).heap[w2.heap.size]? = some (.cells #[.int .u64 0, .int .u64 0, .int .u64 0, .int .u64 0, .int .u64 0] 26 (0, 0)) := heap_alloc_new _ _
  have HR3 := Lib.hid (HR2.out.new #[.int .u64 0, .int .u64 0, .int .u64 0, .int .u64 0, .int .u64 0] RA 26)
  have HB3 := Lib.hid (below_new HB2.out #[.int .u64 0, .int .u64 0, .int .u64 0, .int .u64 0, .int .u64 0] RA 26)
  go_upto_region 2 with (refine wpList_store_row rfl 26 (.tmp 3) (.tmp 8) rfl w2.heap.size RA rfl rfl 26 #[.int .u64 0, .int .u64 0, .int .u64 0, .int .u64 0, .int .u64 0] h3 iS sS oS ?_)
  obtain ⟨W3, hW3⟩ : ∃ X, (w2.alloc (.cells #[.int .u64 0, .int .u64 0, .int .u64 0, .int .u64 0, .int .u64 0] 26)).setRow w2.heap.size RA = X := ⟨_, rfl⟩
  obtain ⟨gr, hgr⟩ : ∃ X, w2.heap.size = X := ⟨_, rfl⟩
  rw [hW3, hgr] at HR3
  rw [hW3] at HB3
  rw [hW3, hgr]
  clear hW3 hgr h3 HR2 HB2
  have c0 : W3.cell? ⟨gr, 0, none⟩ = some (.int .u64 (r0 : Int)) := by rw [cell_of_row _ _ _ _ _ _ HR3.out.head, HA.out]; rfl
  have c1 : W3.cell? ⟨gr, 1, none⟩ = some (.int .u64 (r1 : Int)) := by rw [cell_of_row _ _ _ _ _ _ HR3.out.head, HA.out]; rfl
  have c2 : W3.cell? ⟨gr, 2, none⟩ = some (.int .u64 (r2 : Int)) := by rw [cell_of_row _ _ _ _ _ _ HR3.out.head, HA.out]; rfl
  have c3 : W3.cell? ⟨gr, 3, none⟩ = some (.int .u64 (r3 : Int)) := by rw [cell_of_row _ _ _ _ _ _ HR3.out.head, HA.out]; rfl
  have c4 : W3.cell? ⟨gr, 4, none⟩ = some (.int .u64 (r4 : Int)) := by rw [cell_of_row _ _ _ _ _ _ HR3.out.head, HA.out]; rfl
  have hrow1 : w.heap.size + 1 < W3.heap.size := (Array.getElem?_eq_some_iff.1 HR3.out.tail.head).1
  have HI : Hid (Fiv 26 22 26 48 22 w ((W3.alloc (.cells (wdA x) 48)).alloc (.cells z32 22)) w.heap.size W3.heap.size #[] z32 #[] (wdA x) (arrB (updTo (List.replicate 32 0) (byteF x) 0))) := Lib.hid (by
    have hr := ((HR3.out.box (wdA x) 48).box z32 22)
    simp only [World.size_alloc] at hr
    refine ⟨hr.tail.tail.tail.head, hr.tail.head, ?_, hrow1, below_alloc (below_alloc HB3.out _) _⟩
    rw [← HZB.out]
    exact hr.head)
  rw [HWD.out] at HI
  have HG : Hid (w.heap.size + 1 < W3.heap.size) := Lib.hid hrow1
  clear HR3 HB3 hrow1
  go_wp2_with fail
  rw [← HWD.out] at HI
  rw [← HWD.out]
  obtain ⟨W5, hW5⟩ : ∃ X, (W3.alloc (.cells (wdA x) 48)).alloc (.cells z32 22) = X := ⟨_, rfl⟩
  obtain ⟨g2, hg2⟩ : ∃ X, W3.heap.size = X := ⟨_, rfl⟩
  obtain ⟨g, hg⟩ : ∃ X, w.heap.size = X := ⟨_, rfl⟩
  rw [hW5, hg2, hg] at HI
  rw [hW5, hg2, hg]
  have HGG := Lib.hid hg
  clear hW5 hg2 hg c0 c1 c2 c3 c4 e0 e1 e2 e3 m0 m1 m2 m3 m3l d1 d2 d3 HWD HA HG
  go_loopw [37] (fun i wr => ∃ k : Nat, k ≤ 32 ∧ i = .int .i64 (k : Int) ∧ Hid (Fiv 26 22 26 48 22 w wr g g2 #[] z32 #[] (wdA x) (arrB (updTo (List.replicate 32 0) (byteF x) k)))) (fun i _ => 32 - (intOf i).toNat)
  case atStart => exact ⟨0, by omega, rfl, HI⟩
  case round =>
    clear HI
    obtain ⟨k, hk, rfl, HI⟩ := hrel
    by_cases hlt : k < 32
    · have hq := HQ.out k hlt
      have hd4 : k / 8 < 4 := by omega
      obtain ⟨d, hd⟩ : ∃ d, k / 8 = d := ⟨_, rfl⟩
      obtain ⟨r, hr⟩ : ∃ r, k % 8 = r := ⟨_, rfl⟩
      obtain ⟨e, he⟩ : ∃ e, r * 8 = e := ⟨_, rfl⟩
      rw [hd, hr, he] at hq
      rw [hd] at hd4
      have hel : e < 57 := by omega
      have cz : wr.cell? ⟨g2, d, none⟩ = some (.int .u64 (wq x d : Int)) := by rw [cell_of_row _ _ _ _ _ _ HI.out.d, wdA_get _ _ hd4]
      have hlen : (updTo (List.replicate 32 0) (byteF x) k).length = 32 := by rw [updTo_len]; simp
      have ce : wr.cell? ⟨g2 + 1, k, none⟩ = some (.int .u8 (((updTo (List.replicate 32 0) (byteF x) k).getD k 0).toNat : Int)) := by rw [cell_of_row _ _ _ _ _ _ HI.out.e, arrB_get _ _ (by omega)]
      have fe : wr.frozen? ⟨g2 + 1, k, none⟩ = false := by have := HI.out.e; simp [World.frozen?, this]
      obtain ⟨t, ht⟩ : ∃ t, wq x d / 2 ^ e = t := ⟨_, rfl⟩
      rw [ht] at hq
      obtain ⟨v, hv⟩ : ∃ v, t % 256 = v := ⟨_, rfl⟩
      have hb : (byteF x k).toNat = v := by unfold byteF; rw [← hv, hq]; simp
      have HI2 : Hid (Fiv 26 22 26 48 22 w (wr.setCell ⟨g2 + 1, k, none⟩ (.int .u8 (v : Int))) g g2 #[] z32 #[] (wdA x) (arrB (updTo (List.replicate 32 0) (byteF x) (k + 1)))) := Lib.hid (by
        rw [← updTo_step (by simpa using hlt), ← arrB_set, hb]
        exact HI.out.set k _)
      have f6 : ((wq x d : Nat) : Int) / 2 ^ e = (t : Int) := by rw [← ht, Int.natCast_ediv]; simp
      have f7 : IntKind.u8.wrap (t : Int) = (v : Int) := by rw [IntKind.wrap_u8]; omega
      have f1 : (k : Int).tdiv 8 = (d : Int) := by rw [Int.tdiv_eq_ediv_of_nonneg (by omega)]; omega
      have f1' : (k : Int) / 8 = (d : Int) := by omega
      have f3 : (k : Int).tmod 8 = (r : Int) := by rw [Int.tmod_eq_emod_of_nonneg (by omega)]; omega
      have f3' : (k : Int) % 8 = (r : Int) := by omega
      have f4 : (r : Int) * 8 = (e : Int) := by omega
      have b1 : 0 ≤ (d : Int) := by omega
      have b2 : (d : Int) < 4 := by omega
      have b3 : 0 ≤ (e : Int) := by omega
      have b5 : 0 ≤ (k : Int) := by omega
      have b6 : (k : Int) < 32 := by omega
      generalize ((updTo (List.replicate 32 0) (byteF x) k).getD k 0) = old at *
      generalize wq x d = q at *
      clear HI hq hd hr he hb hlen ht hv
      go_wp2_with fail
      go_roundw
      case rel => exact ⟨k + 1, by omega, by go_num, HI2⟩
      case measure => simp [intOf]; omega
    · obtain rfl : k = 32 := by omega
      rw [Hend.out] at HI
      have h1 := HI.out.e
      have h0 := HI.out.b
      have HB : Hid (Below w.heap.size w (wr.setRow (g + 1) OUT)) := Lib.hid (by rw [HGG.out]; exact below_row HI.out.below (by omega))
      clear HI
      go_wp2_with (first
        | (refine wpList_load_row rfl 22 (.tmp 5) rfl (g2 + 1) rfl 22 OUT (0, 0) _ h1 Try.underlying22 rfl iB ?_)
        | (refine wpList_store_row rfl 22 (.tmp 2) (.tmp 52) rfl (g + 1) OUT rfl rfl 22 z32 h0 iB nB oB ?_))
      (try simp only [Exit.inBlock, Exit.then])
      refine bodyPost_ret (results_cell_row rfl _ _ (g + 1) _ OUT _ _ rfl (setRow_heap _ _ _ _ _ _ h0) Try.underlying22 rfl iB) rfl ?_
      exact ⟨rfl, HB.out⟩
end Go.Proofs.Ytlhnjdnkjgnooaa

