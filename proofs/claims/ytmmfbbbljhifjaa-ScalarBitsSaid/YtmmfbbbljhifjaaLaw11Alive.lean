/- The laws' own alive, over what package scalar answers. -/
import Derived.Test.YtmmfbbbljhifjaaLaw11Wide
namespace Go.Proofs.Ytmmfbbbljhifjaa
open Go.RowKit
set_option linter.unusedVariables false
set_option maxRecDepth 100000

def padK (l : List UInt8) (k : Nat) : List UInt8 := (List.range 64).map fun i => if i < k then l.getD i 0 else 0
theorem padK_len (l k) : (padK l k).length = 64 := by simp [padK]
theorem padK_get (l : List UInt8) (k i : Nat) (h : i < 64) : (padK l k).getD i 0 = if i < k then l.getD i 0 else 0 := by simp [padK, List.getD, h]
theorem padK_zero (l) : padK l 0 = List.replicate 64 0 := by
  refine list_ext_getD (by rw [padK_len]; simp) fun i hi => ?_
  rw [padK_len] at hi
  rw [padK_get _ _ _ hi]
  have e : (List.replicate 64 (0 : UInt8)).getD i 0 = 0 := by rw [List.getD_eq_getElem?_getD, List.getElem?_replicate, if_pos hi]; rfl
  rw [e]; simp
theorem padK_set (l : List UInt8) (k : Nat) (h : k < 32) : (padK l k).set k (l.getD k 0) = padK l (k + 1) := by
  refine list_ext_getD (by rw [List.length_set, padK_len, padK_len]) fun i hi => ?_
  rw [List.length_set, padK_len] at hi
  rw [getD_setB _ _ _ _ (by rw [padK_len]; omega), padK_get _ _ _ hi, padK_get _ _ _ hi]
  by_cases h2 : k = i
  · rw [if_pos h2, if_pos (by omega), h2]
  · rw [if_neg h2]
    by_cases h4 : i < k
    · rw [if_pos h4, if_pos (by omega)]
    · rw [if_neg h4, if_neg (by omega)]
theorem padK_end {l : List UInt8} (hl : l.length = 32) : padK l 32 = l ++ List.replicate 32 0 := by
  refine list_ext_getD (by rw [padK_len, List.length_append, hl]; simp) fun i hi => ?_
  rw [padK_len] at hi
  rw [padK_get _ _ _ hi]
  by_cases h : i < 32
  · rw [if_pos h]; simp [List.getD, List.getElem?_append_left (show i < l.length by omega)]
  · rw [if_neg h, List.getD_eq_getElem?_getD, List.getElem?_append_right (by omega), List.getElem?_replicate, if_pos (by omega)]; rfl
theorem leN_pad {l : List UInt8} (hl : l.length = 32) : leN (padK l 32) = leN l := by
  rw [padK_end hl, leN_app, show leN (List.replicate 32 0) = 0 by decide]; simp

set_option maxHeartbeats 3200000 in
theorem alive11_any (C : ScC) (w : World) : Calls Try.prog 8 #[] w (RetV w (.bool true)) := by
  have hz := fun u => zero64_zero u
  have hz32 := fun u => zero32_zero u
  have HOR := Lib.hid C.order
  have i64 : (Try.prog.info? 27).map (·.size) = some zero64.size := by unfold zero64; exact arr64_info (by simp)
  have o64 : zero64.all (·.oneCell') = true := arrB_one _
  have HRE : Hid (∀ W : World, Calls Try.prog 13 #[.agg (arrB (padK (leB 32 LL) 32))] W (RetV W (.agg (bytT 0)))) := Lib.hid fun W => by
    have h := C.reduce (padK (leB 32 LL) 32) (padK_len _ _) W
    rw [leN_pad (leB_len _ _), leN_LL, Nat.mod_self] at h
    exact h
  have HAD : Hid (∀ W : World, Calls Try.prog 16 #[.agg (bytT 1), .agg (bytT 2)] W (RetV W (.agg (bytT 3)))) := Lib.hid fun W => by
    have h := C.add (leB 32 1) (leB 32 2) (leB_len _ _) (leB_len _ _) W
    rw [leN_byt (show 1 < LL by decide), leN_byt (show 2 < LL by decide)] at h
    exact h
  have HE0 : Hid (∀ u, (binOp .eql 22 (.agg (bytT 0)) (.agg (bytT 0))).run Try.prog u = .ok (.bool true) u) := Lib.hid (eqBytT 0)
  have HE3 : Hid (∀ u, (binOp .eql 22 (.agg (bytT 3)) (.agg (bytT 3))).run Try.prog u = .ok (.bool true) u) := Lib.hid (eqBytT 3)
  have iL := bytT_info LL
  have oL := bytT_one LL
  have sL := zero32_byt LL
  have iP : (Try.prog.info? 27).map (·.size) = some (arrB (padK (leB 32 LL) 32)).size := arr64_info (padK_len _ _)
  have hg := guardB
  have HO : Hid (bytT LL = arrB (leB 32 LL)) := Lib.hid rfl
  have H237 : Hid (((leB 32 LL).getD 0 0).toNat = 237) := Lib.hid (by decide)
  have h1 : (w.alloc (.cells zero64 27)).heap[w.heap.size]? = some (.cells zero64 27 (0, 0)) := heap_alloc_new _ _
  have HR1 := Lib.hid ((RowsW.nil w).new zero64 zero64 27)
  have HB1 := Lib.hid (below_new (Below.refl w.heap.size w) zero64 zero64 27)
  have HZ : Hid (zero64 = arrB (padK (leB 32 LL) 0)) := Lib.hid (by rw [padK_zero]; rfl)
  obtain ⟨z64, hz64⟩ : ∃ z, zero64 = z := ⟨_, rfl⟩
  have HZE := Lib.hid hz64
  rw [hz64] at i64 o64 h1 HR1 HB1 HZ
  simp only [hz64] at hz
  clear hz64
  go_enter Try.func8, Try.ntmps8
  go_wp2_with (first
    | (refine wpList_runsV (o := ⟨some 4, _, _, _, _, _⟩) rfl (.agg z64) (by rw [← HZE.out]; kernel_rfl) ?_)
    | (refine wpList_store_row rfl 27 (.tmp 1) (.tmp 4) rfl w.heap.size z64 rfl rfl 27 z64 h1 i64 rfl o64 ?_))
  obtain ⟨W1, hW1⟩ : ∃ Q, (w.alloc (.cells z64 27)).setRow w.heap.size z64 = Q := ⟨_, rfl⟩
  rw [hW1] at HR1 HB1
  rw [hW1]
  clear hW1 h1
  with_reducible refine (HOR.out _).mono ?_
  rintro e v1 ⟨rfl, hb1⟩
  have HR2 := Lib.hid ((HR1.out.below hb1).new zero32 (bytT LL) 22)
  have HB2 := Lib.hid (below_new (below_nx HB1.out hb1) zero32 (bytT LL) 22)
  have HNE : Hid (w.heap.size < v1.heap.size) := Lib.hid (by
    have a := (Array.getElem?_eq_some_iff.1 HR1.out.head).1
    have b := hb1.size
    omega)
  have h2 : (v1.alloc (.cells zero32 22)).heap[v1.heap.size]? = some (.cells zero32 22 (0, 0)) := heap_alloc_new _ _
  clear hb1 HR1 HB1
  go_wp2_with (refine wpList_store_row rfl 22 (.tmp 2) (.tmp 5) rfl v1.heap.size (bytT LL) rfl rfl 22 zero32 h2 iL sL oL ?_)
  obtain ⟨W2, hW2⟩ : ∃ Q, (v1.alloc (.cells zero32 22)).setRow v1.heap.size (bytT LL) = Q := ⟨_, rfl⟩
  obtain ⟨go, hgo⟩ : ∃ Q, v1.heap.size = Q := ⟨_, rfl⟩
  obtain ⟨g, hgg⟩ : ∃ Q, w.heap.size = Q := ⟨_, rfl⟩
  rw [hgo] at hW2
  rw [hgo, hW2, hgg] at HR2
  rw [hgo, hW2] at HB2
  rw [hgo, hgg] at HNE
  rw [hgo, hW2, hgg]
  have HG := Lib.hid hgg
  clear hW2 hgo hgg h2
  have HD : Hid ([go, g].Nodup) := Lib.hid (by have := HNE.out; simp only [List.nodup_cons, List.mem_cons, List.not_mem_nil, or_false, not_false_eq_true, List.nodup_nil, and_true]; omega)
  have HR3 : Hid (RowsW W2 [(go, bytT LL, 22), (g, arrB (padK (leB 32 LL) 0), 27)]) := Lib.hid (by rw [← HZ.out]; exact HR2.out)
  clear HR2
  go_loopw [3] (fun i wr => ∃ k : Nat, k ≤ 32 ∧ i = .int .i64 (k : Int) ∧ Hid (RowsW wr [(go, bytT LL, 22), (g, arrB (padK (leB 32 LL) k), 27)]) ∧ Hid (Below w.heap.size w wr)) (fun i _ => 32 - (intOf i).toNat)
  case atStart => exact ⟨0, by omega, rfl, HR3, HB2⟩
  case round =>
    clear HR3 HB2
    obtain ⟨k, hk, rfl, HR, HB⟩ := hrel
    by_cases hlt : k < 32
    · have hset := padK_set (leB 32 LL) k hlt
      obtain ⟨x, hx⟩ : ∃ x, (leB 32 LL).getD k 0 = x := ⟨_, rfl⟩
      rw [hx] at hset
      have cl : wr.cell? ⟨go, k, none⟩ = some (.int .u8 (x.toNat : Int)) := by rw [cell_of_row _ _ _ _ _ _ HR.out.head, HO.out, arrB_get _ _ (by rw [leB_len]; exact hlt), hx]
      have cd : wr.cell? ⟨g, k, none⟩ = some (.int .u8 (((padK (leB 32 LL) k).getD k 0).toNat : Int)) := by rw [cell_of_row _ _ _ _ _ _ HR.out.tail.head, arrB_get _ _ (by rw [padK_len]; omega)]
      have fx := frozen_row HR.out.tail.head k
      have HR2 : Hid (RowsW (wr.setCell ⟨g, k, none⟩ (.int .u8 (x.toNat : Int))) [(go, bytT LL, 22), (g, arrB (padK (leB 32 LL) (k + 1)), 27)]) := Lib.hid (by
        have h := RowsW.setN (k := k) (v := .int .u8 (x.toNat : Int)) 1 HR.out rfl HD.out
        rw [arrB_set, hset] at h; exact h)
      have HB2 := Lib.hid (HB.out.setCell (p := ⟨g, k, none⟩) (by show w.heap.size ≤ g; have := HG.out; omega) (.int .u8 (x.toNat : Int)))
      have p1 : 0 ≤ (k : Int) := by omega
      have p2 : (k : Int) < 32 := by omega
      have p3 : (k : Int) < 64 := by omega
      have e7 : decide ((k : Int) < 32) = true := decide_eq_true p2
      generalize ((padK (leB 32 LL) k).getD k 0) = o1 at *
      clear HR HB hx hset
      go_wp2_with fail
      go_roundw
      case rel => exact ⟨k + 1, by omega, by go_num, HR2, HB2⟩
      case measure => simp [intOf]; omega
    · have e7 : decide ((k : Int) < 32) = false := decide_eq_false (by omega)
      have hk32 : k = 32 := by omega
      rw [hk32] at HR
      obtain ⟨PA, hPA⟩ : ∃ o, arrB (padK (leB 32 LL) 32) = o := ⟨_, rfl⟩
      rw [hPA] at HR HRE iP
      have h1 := HR.out.tail.head
      clear hk32 hlt hk hPA
      go_wp2_with (refine wpList_load_row rfl 27 (.tmp 1) rfl g rfl 27 PA (0, 0) _ h1 Try.underlying27 rfl iP ?_)
      with_reducible refine (HRE.out _).mono ?_
      rintro e v2 ⟨rfl, hb2⟩
      have HR2 := Lib.hid (HR.out.below hb2)
      have HB2 := Lib.hid (below_nx HB.out hb2)
      have c0 : v2.cell? ⟨go, 0, none⟩ = some (.int .u8 237) := by rw [cell_of_row _ _ _ _ _ _ HR2.out.head, HO.out, arrB_get _ _ (by rw [leB_len]; omega), H237.out]; rfl
      clear hb2 HR HB h1
      go_wp2_with (first
        | (refine wpList_runsV (o := ⟨some 17, _, _, _, _, _⟩) rfl (.agg (bytT 0)) (by kernel_rfl) ?_)
        | (refine wpList_runsV (o := ⟨some 18, _, _, _, _, _⟩) rfl (.bool true) (run_eql2 rfl rfl rfl hg (HE0.out _)) ?_)
        | (refine wpList_runsV (o := ⟨some 25, _, _, _, _, _⟩) rfl (.agg (bytT 1)) (by kernel_rfl) ?_)
        | (refine wpList_runsV (o := ⟨some 26, _, _, _, _, _⟩) rfl (.agg (bytT 2)) (by kernel_rfl) ?_))
      with_reducible refine (HAD.out _).mono ?_
      rintro e v3 ⟨rfl, hb3⟩
      have HB3 := Lib.hid (below_nx HB2.out hb3)
      clear hb3
      go_wp2_with (first
        | (refine wpList_runsV (o := ⟨some 28, _, _, _, _, _⟩) rfl (.agg (bytT 3)) (by kernel_rfl) ?_)
        | (refine wpList_runsV (o := ⟨some 29, _, _, _, _, _⟩) rfl (.bool true) (run_eql2 rfl rfl rfl hg (HE3.out _)) ?_))
      go_ret
      exact ⟨rfl, HB3.out⟩
end Go.Proofs.Ytmmfbbbljhifjaa

