/- The contracts of the reference's Order and digits. -/
import Derived.Test.YtmmfbbbljhifjaaMod11
import Derived.Test.YtmmfbbbljhifjaaGbyt
import Derived.Test.YtmmfbbbljhifjaaGff1
import Derived.StillTailTactics
import Derived.Laws.BitsAllLaws
namespace Go.Proofs.Ytmmfbbbljhifjaa
open Go.RowKit
set_option linter.unusedVariables false
set_option maxRecDepth 100000

theorem info32 {l : List UInt8} (h : l.length = 32) : (Try.prog.info? 22).map (·.size) = some (arrB l).size := by rw [arrB_size, h]; kernel_rfl
/-- the order's bytes -/
def ordA : Array Value := arrB (leB 32 LL)
theorem ordA_info : (Try.prog.info? 22).map (·.size) = some ordA.size := info32 (leB_len _ _)
theorem ordA_one : ordA.all (·.oneCell') = true := arrB_one _
def zer32 : Array Value := arrB (List.replicate 32 0)
theorem zer32_size : zer32.size = 32 := by unfold zer32; rw [arrB_size]; simp
theorem ordA_size : ordA.size = 32 := by unfold ordA; rw [arrB_size, leB_len]
theorem zer32_zero (u : World) : (zeroValue 22).run Try.prog u = .ok (.agg zer32) u := by
  have h : (Try.prog.info? 22).map (fun i => (i.zero, i.size)) = some (some (.agg zer32), 32) := by kernel_rfl
  cases hi : Try.prog.info? 22 with
  | none => rw [hi] at h; cases h
  | some i =>
    rw [hi] at h
    simp at h
    simp [zeroValue, typeInfo, hi, h.1]

set_option maxHeartbeats 1600000 in
theorem rorder_any (W : World) : Calls Try.prog 10 #[] W fun e w' => e = .returned (.agg ordA) ∧ Below W.heap.size W w' := by
  have hz := fun u => zer32_zero u
  obtain ⟨z0, hz0⟩ : ∃ z, zer32 = z := ⟨_, rfl⟩
  have sz : z0.size = ordA.size := by rw [← hz0, zer32_size, ordA_size]
  rw [hz0] at hz
  have h0 : (W.alloc (.cells z0 22)).heap[W.heap.size]? = some (.cells z0 22 (0, 0)) := heap_alloc_new _ _
  have io := ordA_info
  have oo := ordA_one
  have HB : Hid (Below W.heap.size W ((W.alloc (.cells z0 22)).setRow W.heap.size ordA)) := Lib.hid (below_row ((Below.refl _ _).alloc (Nat.le_refl _) _) (Nat.le_refl _))
  clear hz0
  go_enter Try.func10, Try.ntmps10
  go_wp2_with (first
    | (refine wpList_runsV (o := ⟨some 1, _, _, _, _, _⟩) rfl (.agg ordA) (by kernel_rfl) ?_)
    | (refine wpList_store_row rfl 22 (.tmp 0) (.tmp 1) rfl W.heap.size ordA rfl rfl 22 z0 h0 io sz oo ?_))
  (try simp only [Exit.inBlock, Exit.then])
  refine bodyPost_ret (results_cell_row rfl _ _ W.heap.size _ ordA _ _ rfl (setRow_heap _ _ _ _ _ _ h0) Try.underlying22 rfl io) rfl ?_
  exact ⟨rfl, HB.out⟩

theorem make_i64s (k : Nat) (hk : k ≤ 2147483648) (u : World) : (Instr.makeSlice 44 (.int .i64 (k : Int)) (.int .i64 (k : Int))).run Try.prog u =
      .ok (.slice (some ⟨u.heap.size, 0, none⟩) k k) (u.alloc (.cells (madeCells #[.int .i64 0] k) 2)) := by
  have info : (Try.prog.info? 2).map (fun i => (i.zero, i.size, i.bytes)) = some (some (.int .i64 0), 1, 8) := by kernel_rfl
  obtain ⟨i0, hi, hz0, hz1, hz2⟩ := info_parts info
  have h := run_make (P := Try.prog) u 44 2 i0 (.int .i64 0) Try.underlying44 hi hz0 .i64 .i64 (k : Int) (k : Int) (by omega) (Int.le_refl _) (by rw [hz2]; omega) (by omega)
  simpa [hz1, Value.cells] using h
theorem made34 : madeCells #[.int .i64 0] 34 = tabI (dgN 34 ((0 : Nat) : Int)) := by
  apply Array.toList_inj.1
  rw [toList_madeCells_one]
  rfl

theorem leN_takeS (l : List UInt8) (k : Nat) (h : k < l.length) : leN (l.take (k + 1)) = leN (l.take k) + (l.getD k 0).toNat * 256 ^ k := by
  have e : l.take (k + 1) = l.take k ++ [l.getD k 0] := by
    rw [List.take_succ_eq_append_getElem h]
    simp [List.getD, List.getElem?_eq_getElem h]
  rw [e, leN_snoc, List.length_take, Nat.min_eq_left (by omega)]
theorem leN_takeL (l : List UInt8) (k : Nat) (h : k ≤ l.length) : leN (l.take k) < 256 ^ k := by
  have := leN_lt (l.take k)
  rwa [List.length_take, Nat.min_eq_left h] at this
/-- the digits come back -/
def RetD (w : World) (l : List UInt8) (e : Ending) (w' : World) : Prop := ∃ g, e = .returned (.slice (some ⟨g, 0, none⟩) 34 34) ∧ w'.heap[g]? = some (.cells (tabI (dgN 34 (leN l : Int))) 2 (0, 0)) ∧ w.heap.size ≤ g ∧ Below w.heap.size w w'
structure DgI (w wr : World) (g : Nat) (l : List UInt8) (k : Nat) : Prop where
  row : wr.heap[g]? = some (.cells (tabI (dgN 34 (leN (l.take k) : Int))) 2 (0, 0))
  below : Below g w wr

set_option maxHeartbeats 3200000 in
theorem rdigits_any (A : Option Addr) (l : List UInt8) (c : Nat) (w : World) (hbs : Bs w A l) (hl : l.length ≤ 68) :
    Calls Try.prog 29 #[.slice A l.length c] w (RetD w l) := by
  have HS := Lib.hid hbs
  have HL := Lib.hid hl
  obtain ⟨n, hn⟩ : ∃ n, l.length = n := ⟨_, rfl⟩
  have HN := Lib.hid hn
  rw [hn]
  have mk : ∀ u : World, (Instr.makeSlice 44 (.int .i64 34) (.int .i64 34)).run Try.prog u = .ok (.slice (some ⟨u.heap.size, 0, none⟩) 34 34) (u.alloc (.cells (tabI (dgN 34 ((0 : Nat) : Int))) 2)) := fun u => by
    have h := make_i64s 34 (by omega) u
    rwa [made34] at h
  have HPOST : Hid (∀ g w', w'.heap[g]? = some (.cells (tabI (dgN 34 (leN l : Int))) 2 (0, 0)) → w.heap.size ≤ g → Below w.heap.size w w' → RetD w l (.returned (.slice (some ⟨g, 0, none⟩) 34 34)) w') := Lib.hid fun g w' a b c => ⟨g, rfl, a, b, c⟩
  have HI : Hid (DgI w (w.alloc (.cells (tabI (dgN 34 ((0 : Nat) : Int))) 2)) w.heap.size l 0) := Lib.hid ⟨heap_alloc_new _ _, (Below.refl _ _).alloc (Nat.le_refl _) _⟩
  obtain ⟨zr, hzr⟩ : ∃ z, tabI (dgN 34 ((0 : Nat) : Int)) = z := ⟨_, rfl⟩
  rw [hzr] at HI
  simp only [hzr] at mk
  clear hbs hl hn hzr
  go_enter Try.func29, Try.ntmps29
  go_wp2_with fail
  obtain ⟨W1, hW1⟩ : ∃ W, w.alloc (.cells zr 2) = W := ⟨_, rfl⟩
  obtain ⟨g, hg⟩ : ∃ g, w.heap.size = g := ⟨_, rfl⟩
  rw [hW1, hg] at HI
  rw [hW1, hg]
  have HG := Lib.hid hg
  clear hW1 hg mk
  go_loopw [4] (fun i wr => ∃ k : Nat, k ≤ n ∧ i = .int .i64 (k : Int) ∧ Hid (DgI w wr g l k)) (fun i _ => n - (intOf i).toNat)
  case atStart => exact ⟨0, by omega, rfl, HI⟩
  case round =>
    clear HI
    obtain ⟨k, hk, rfl, HI⟩ := hrel
    have hn68 : n ≤ 68 := by rw [← HN.out]; exact HL.out
    by_cases hlt : k < n
    · obtain ⟨bb, oo, rfl, hc0⟩ := HS.out.at_ (k := k) (by rw [HN.out]; exact hlt)
      have hc : wr.cell? ⟨bb, oo + k, none⟩ = some (.int .u8 ((l.getD k 0).toNat : Int)) := by
        have hlt := World.block_lt_of_cell? w _ hc0
        rw [HI.out.below.cell (by rw [HG.out] at hlt; exact hlt)]; exact hc0
      obtain ⟨b, hb⟩ : ∃ b, (l.getD k 0).toNat = b := ⟨_, rfl⟩
      have hbl : b < 256 := by rw [← hb]; exact (l.getD k 0).toNat_lt
      rw [hb] at hc
      obtain ⟨m, hm⟩ : ∃ m, leN (l.take k) = m := ⟨_, rfl⟩
      have hml : m < 256 ^ k := by rw [← hm]; exact leN_takeL l k (by rw [HN.out]; omega)
      have hstep := dg_add m b k (by omega) hml hbl
      have hnx : leN (l.take (k + 1)) = m + b * 256 ^ k := by rw [leN_takeS l k (by rw [HN.out]; omega), hm, hb]
      obtain ⟨d, hd⟩ : ∃ d, k / 2 = d := ⟨_, rfl⟩
      obtain ⟨r, hr⟩ : ∃ r, k % 2 = r := ⟨_, rfl⟩
      obtain ⟨e, he⟩ : ∃ e, 8 * r = e := ⟨_, rfl⟩
      rw [hd, hr, he] at hstep
      have hd34 : d < 34 := by omega
      have hrow := HI.out.row
      rw [hm] at hrow
      have cd : wr.cell? ⟨g, d, none⟩ = some (.int .i64 (gI (dgN 34 (m : Int)) d)) := by rw [cell_of_row _ _ _ _ _ _ hrow, tabI_get _ _ (by rw [dgN_len]; exact hd34)]
      have fx : wr.frozen? ⟨g, d, none⟩ = false := by simp [World.frozen?, hrow]
      have hdb := dgN_get 34 (m : Int) d hd34
      obtain ⟨v, hv⟩ : ∃ v, gI (dgN 34 (m : Int)) d = v := ⟨_, rfl⟩
      rw [hv] at hstep cd hdb
      have hp : 2 ^ e = 1 ∨ 2 ^ e = 256 := by
        have : r = 0 ∨ r = 1 := by omega
        rcases this with h | h <;> subst h <;> subst he <;> simp
      obtain ⟨s, hs⟩ : ∃ s : Nat, b * 2 ^ e = s := ⟨_, rfl⟩
      have hsl : s < 65536 := by rw [← hs]; rcases hp with h | h <;> rw [h] <;> omega
      rw [hs] at hstep
      have HI2 : Hid (DgI w (wr.drew.setCell ⟨g, d, none⟩ (.int .i64 (v + (s : Int)))) g l (k + 1)) := Lib.hid (by
        have e1 := setCell_eq_setRow wr.drew g d _ _ _ (.int .i64 (v + (s : Int))) (show wr.drew.heap[g]? = _ from hrow)
        refine ⟨?_, HI.out.below.drew.setCell (p := ⟨g, d, none⟩) (Nat.le_refl _) _⟩
        rw [hnx, hstep, ← tabI_set, e1]
        exact setRow_heap _ _ _ _ _ _ (show wr.drew.heap[g]? = _ from hrow))
      have f6 : IntKind.i64.wrap ((b : Int) * 2 ^ e) = (s : Int) := by
        rw [IntKind.wrap_i64, show (b : Int) * 2 ^ e = (s : Int) by rw [← hs, Int.natCast_mul]; simp]
        omega
      have f6' : (b : Int) * 2 ^ e = (s : Int) := by rw [← hs, Int.natCast_mul]; simp
      have f7 : IntKind.i64.wrap (v + (s : Int)) = v + (s : Int) := by rw [IntKind.wrap_i64]; omega
      have f1 : (k : Int).tdiv 2 = (d : Int) := by rw [Int.tdiv_eq_ediv_of_nonneg (by omega)]; omega
      have f1' : (k : Int) / 2 = (d : Int) := by omega
      have f2 : IntKind.i64.wrap (d : Int) = (d : Int) := by rw [IntKind.wrap_i64]; omega
      have f3 : (k : Int).tmod 2 = (r : Int) := by rw [Int.tmod_eq_emod_of_nonneg (by omega)]; omega
      have f3' : (k : Int) % 2 = (r : Int) := by omega
      have f4 : (8 : Int) * (r : Int) = (e : Int) := by omega
      have f5 : IntKind.i64.wrap (e : Int) = (e : Int) := by rw [IntKind.wrap_i64]; omega
      have f5' : IntKind.u64.wrap (e : Int) = (e : Int) := by rw [IntKind.wrap_u64]; omega
      have f8 : IntKind.i64.wrap (b : Int) = (b : Int) := by rw [IntKind.wrap_i64]; omega
      have b1 : 0 ≤ (d : Int) := by omega
      have b2 : (d : Int) < 34 := by omega
      have b3 : 0 ≤ (e : Int) := by omega
      have b5 : 0 ≤ (k : Int) := by omega
      have b6 : (k : Int) < (n : Int) := by omega
      have f9 : IntKind.i64.wrap (s : Int) = (s : Int) := by rw [IntKind.wrap_i64]; omega
      clear HI hb hbl hm hml hstep hnx hd hr he hrow hv hp hs hc0 f6
      go_wp2_with fail
      refine wp_region_still_tail 19 (by kernel_rfl) (by kernel_rfl) ?_
      simp only [List.take_succ_cons, List.take_zero, List.drop_succ_cons, List.drop_zero]
      iterate 19 still_step
      refine wpStill_nil ?_
      go_wp2_with fail
      go_roundw
      case rel => exact ⟨k + 1, by omega, by go_num, HI2⟩
      case measure => simp [intOf]; omega
    · have hkn : k = n := by omega
      have hT : l.take k = l := List.take_of_length_le (by rw [HN.out]; omega)
      have hrow := HI.out.row
      rw [hT] at hrow
      have HE := HPOST.out g wr hrow (by rw [HG.out]; exact Nat.le_refl _) (by rw [HG.out]; exact HI.out.below)
      have hdk : decide (k < n) = false := decide_eq_false hlt
      have HE2 := Lib.hid HE
      clear hkn hT hrow HE HI
      go_wp2_with fail
      go_ret
      exact HE2.out
end Go.Proofs.Ytmmfbbbljhifjaa

