/- Tables: roots.Begin, roots.Rounds, and the reference's. Written by wip/tools/mk_tables6.py. -/
import Derived.Test.YtbbdiphicckpiaaLaw6Near
import Derived.Test.YtbbdiphicckpiaaRegion3
namespace Go.Proofs.Ytbbdiphicckpiaa
open Go.RowKit
set_option linter.unusedVariables false
set_option maxRecDepth 100000

/-- a table of n numbers behind k rounds -/
def tabU (f : Nat → Nat) (n k : Nat) : Array Value := ((List.range n).map fun i => Value.int .u64 (((if i < k then f i else 0 : Nat)) : Int)).toArray
theorem tabU_size (f : Nat → Nat) (n k : Nat) : (tabU f n k).size = n := by simp [tabU]
theorem tabU_get (f : Nat → Nat) (n k i : Nat) (h : i < n) : (tabU f n k)[i]? = some (.int .u64 (((if i < k then f i else 0 : Nat)) : Int)) := by
  simp [tabU, h]
theorem tabU_step (f : Nat → Nat) (n k : Nat) (h : k < n) : (tabU f n k).setIfInBounds k (.int .u64 ((f k : Nat) : Int)) = tabU f n (k + 1) := by
  apply Array.ext
  · simp [tabU_size]
  · intro i h1 h2
    have hi : i < n := by simpa [tabU_size] using h1
    have e1 := tabU_get f n (k + 1) i hi
    rw [Array.getElem?_eq_getElem h2] at e1
    injection e1 with e1
    rw [e1, Array.getElem_setIfInBounds (by simpa [tabU_size] using hi)]
    by_cases e : k = i
    · subst e; simp
    · rw [if_neg e]
      have e2 := tabU_get f n k i hi
      rw [Array.getElem?_eq_getElem (by simpa [tabU_size] using hi)] at e2
      injection e2 with e2
      rw [e2]
      by_cases g : i < k
      · rw [if_pos g, if_pos (by omega)]
      · rw [if_neg g, if_neg (by omega)]
theorem tabU_one (f : Nat → Nat) (n k : Nat) : (tabU f n k).all (·.oneCell') = true := by
  simp [tabU, Value.oneCell']
theorem tabU_zero (f : Nat → Nat) (n : Nat) : tabU f n 0 = (List.replicate n (Value.int .u64 0)).toArray := by
  unfold tabU
  congr 1
  apply List.ext_getElem (by simp)
  intro i h1 h2
  simp
theorem zero_tab (T : TypeId) (f : Nat → Nat) (n : Nat) (h : (Try.prog.info? T).map (fun i => (i.zero, i.size)) = some (some (.agg (tabU f n 0)), n)) (u : World) : (zeroValue T).run Try.prog u = .ok (.agg (tabU f n 0)) u := by
  cases hi : Try.prog.info? T with
  | none => rw [hi] at h; cases h
  | some i =>
    rw [hi] at h
    simp at h
    simp [zeroValue, typeInfo, hi, h.1]

theorem P100_take {n : Nat} (h : n ≤ 100) : (P100.take n).length = n := by rw [List.length_take, P100_len]; omega
theorem P100_getD_lt {k n : Nat} (h : k < n) (hn : n ≤ 100) : (P100.take n).getD k 0 < 542 := by
  have hk : k < (P100.take n).length := by rw [P100_take hn]; exact h
  have e : (P100.take n).getD k 0 = (P100.take n)[k] := by simp [List.getD, List.getElem?_eq_getElem hk]
  rw [e]
  exact P100_lt _ (List.mem_of_mem_take (List.getElem_mem hk))

def PrimesOwn (w : World) (K : Nat) (e : Ending) (w' : World) : Prop :=
  ∃ A c, e = .returned (.slice A K c) ∧ Uo 22 w' w.heap.size (.slice A K c) (P100.take K) ∧ Below w.heap.size w w'
theorem primes_own {w w' : World} {e : Ending} {n : Int} {K : Nat} (hK : clampN n = K) (h : ∃ v, e = .returned v ∧ Uo 22 w' w.heap.size v (P100.take (clampN n)) ∧ Below w.heap.size w w') : PrimesOwn w K e w' := by
  obtain ⟨v, rfl, ho, hb⟩ := h
  have hl : (P100.take K).length = K := P100_take (by rw [← hK]; unfold clampN; omega)
  rw [hK] at ho
  obtain ⟨A, c, rfl, hu, -⟩ := ho.form
  rw [hl] at ho
  exact ⟨A, c, by rw [hl], ho, hb⟩

/-- the roots of the first primes -/
def fB (i : Nat) : Nat := sqv false (P100.getD i 0)
def fR (i : Nat) : Nat := sqv true (P100.getD i 0)

set_option maxHeartbeats 1600000 in
theorem rounds_any (w : World) :
    Calls Try.prog 22 #[] w fun e w' => e = .returned (.agg (tabU fR 80 80)) ∧ Below w.heap.size w w' := by
  have hz := fun u => zero_tab 27 fR 80 (by rw [tabU_zero]; kernel_rfl) u
  obtain ⟨t0, ht0⟩ : ∃ t0, tabU fR 80 0 = t0 := ⟨_, rfl⟩
  rw [ht0] at hz
  have HT0 := Lib.hid ht0
  have HP : Hid (∀ W : World, Calls Try.prog 29 #[.int .i64 80] W (PrimesOwn W 80)) := Lib.hid (fun W => (primes_any 80 (by omega) (by omega) W).mono fun e w' h => primes_own (by decide) h)
  have HQ : Hid (∀ (W : World) (p : Nat), p < 542 → Calls Try.prog 30 #[.int .u64 (p : Int)] W fun e w' => e = .returned (.int .u64 ((sqv true p : Nat) : Int)) ∧ Below W.heap.size W w') := Lib.hid (fun W p hp => cube_any p (by omega) W)
  clear ht0
  go_enter Try.func22, Try.ntmps22
  go_wp2_with fail
  with_reducible refine (HP.out _).mono ?_
  rintro e w1 ⟨A, c, rfl, ho1, hb1⟩
  obtain ⟨g, hg⟩ : ∃ g, w.heap.size = g := ⟨_, rfl⟩
  have hr1 : w1.heap[g + 1]? = some (.cells t0 27 (0, 0)) := by rw [hb1.block (g + 1) (by simp; omega), ← hg]; exact heap_alloc2_new _ _ _
  have hr0 : w1.heap[g]? = some (.cells t0 27 (0, 0)) := by rw [hb1.block g (by simp; omega), ← hg]; exact heap_alloc2_old _ _ _
  have hbw : Below w.heap.size w w1 := below_next (below_alloc (below_alloc (Below.refl _ w) _) _) hb1
  rw [← HT0.out] at hr1 hr0
  have HR1 := Lib.hid hr1
  have HR0 := Lib.hid hr0
  have HO := Lib.hid (ho1.low (base' := g + 2) (by simp; omega))
  have HB := Lib.hid hbw
  clear hr1 hr0 hbw ho1 hb1 HT0 hz HP
  rw [hg] at HB
  go_wp2_with fail
  go_loopw [6] (fun iv wr => ∃ k : Nat, k ≤ 80 ∧ iv = .int .i64 (k : Int) ∧ Hid (wr.heap[g + 1]? = some (.cells (tabU fR 80 k) 27 (0, 0))) ∧ Hid (wr.heap[g]? = some (.cells (tabU fR 80 0) 27 (0, 0))) ∧
      Hid (Uo 22 wr (g + 2) (.slice A 80 c) (P100.take 80)) ∧ Hid (Below g w wr)) (fun iv _ => 80 - (intOf iv).toNat)
  case atStart => exact ⟨0, by omega, rfl, HR1, HR0, HO, HB⟩
  case round =>
    clear HR1 HR0 HO HB
    obtain ⟨k, hk, rfl, HR1, HR0, HO, HB⟩ := hrel
    by_cases hlt : k < 80
    · obtain ⟨bb, oo, rfl, hc⟩ := HO.out.bs.at_ (k := k) (by rw [P100_take (by omega)]; exact hlt)
      obtain ⟨p, hp⟩ : ∃ p, (P100.take 80).getD k 0 = p := ⟨_, rfl⟩
      rw [hp] at hc
      have hpk : P100.getD k 0 = p := by rw [← hp]; simp [List.getD, hlt]
      have hpl : p < 542 := by rw [← hp]; exact P100_getD_lt hlt (by omega)
      have HQk := Lib.hid (fun W : World => HQ.out W p hpl)
      have HF : Hid (sqv true p = fR k) := Lib.hid (by show _ = sqv true (P100.getD k 0); rw [hpk])
      obtain ⟨v, hv⟩ : ∃ v, sqv true p = v := ⟨_, rfl⟩
      rw [hv] at HF
      have HQv : Hid (∀ W : World, Calls Try.prog 30 #[.int .u64 (p : Int)] W fun e w' => e = .returned (.int .u64 (v : Int)) ∧ Below W.heap.size W w') := by rw [← hv]; exact HQk
      clear hp hpk hpl hv HQk hg
      go_wp2_with fail
      with_reducible refine (HQv.out _).mono ?_
      rintro e w2 ⟨rfl, hb2⟩
      have hlt1 : g + 1 < wr.heap.size := (Array.getElem?_eq_some_iff.1 HR1.out).1
      have hr1 := hb2.block (g + 1) hlt1
      rw [HR1.out] at hr1
      have hr0 := hb2.block g (by omega)
      rw [HR0.out] at hr0
      have hc1 : w2.cell? ⟨g + 1, k, none⟩ = some (.int .u64 ((0 : Nat) : Int)) := by
        rw [cell_of_row _ _ _ _ _ _ hr1, tabU_get _ _ _ _ hlt, if_neg (by omega)]
      have hfz : w2.frozen? ⟨g + 1, k, none⟩ = false := by simp [World.frozen?, hr1]
      have HR1' : Hid ((w2.setCell ⟨g + 1, k, none⟩ (.int .u64 (v : Int))).heap[g + 1]? = some (.cells (tabU fR 80 (k + 1)) 27 (0, 0))) := Lib.hid (by
        rw [setCell_eq_setRow _ _ _ _ _ _ _ hr1, HF.out, tabU_step _ _ _ hlt]
        exact setRow_heap _ _ _ _ _ _ hr1)
      have HR0' : Hid ((w2.setCell ⟨g + 1, k, none⟩ (.int .u64 (v : Int))).heap[g]? = some (.cells (tabU fR 80 0) 27 (0, 0))) := Lib.hid (by
        rw [setCell_eq_setRow _ _ _ _ _ _ _ hr1, setRow_other _ _ _ _ (by omega)]
        exact hr0)
      have HO' : Hid (Uo 22 (w2.setCell ⟨g + 1, k, none⟩ (.int .u64 (v : Int))) (g + 2) (.slice (some ⟨bb, oo, none⟩) 80 c) (P100.take 80)) := Lib.hid (ownsRow_setCell_below (HO.out.below hb2) (show g + 1 < g + 2 by omega) _)
      have HB' : Hid (Below g w (w2.setCell ⟨g + 1, k, none⟩ (.int .u64 (v : Int)))) := Lib.hid ((HB.out.trans (hb2.mono (by omega))).setCell (p := ⟨g + 1, k, none⟩) (by show g ≤ g + 1; omega) _)
      clear hr1 hr0 hb2 HR1 HR0 HO HB HF
      simp only [Int.ofNat_zero] at hc1
      go_wp2_with fail
      go_roundw
      case rel => exact ⟨k + 1, by omega, by go_num, HR1', HR0', HO', HB'⟩
      case measure => simp [intOf]; omega
    · obtain rfl : k = 80 := by omega
      have h1 := HR1.out
      have h0 := HR0.out
      have s1 : (Try.prog.info? 27).map (·.size) = some (tabU fR 80 80).size := by rw [tabU_size]; kernel_rfl
      have s0 : (tabU fR 80 0).size = (tabU fR 80 80).size := by rw [tabU_size, tabU_size]
      have o1 := tabU_one fR 80 80
      obtain ⟨t1, ht1⟩ : ∃ t1, tabU fR 80 80 = t1 := ⟨_, rfl⟩
      obtain ⟨tz, htz⟩ : ∃ tz, tabU fR 80 0 = tz := ⟨_, rfl⟩
      rw [ht1] at h1 s1 s0 o1
      rw [htz] at h0 s0
      have hb : Below w.heap.size w (wr.setRow g t1) := by
        rw [hg]
        exact ⟨HB.out.os, HB.out.tape, HB.out.output, by have := HB.out.size; simpa using this, fun j hj => by rw [setRow_other _ _ _ _ (by omega)]; exact HB.out.block j hj⟩
      have HH := Lib.hid hb
      have HT1 := Lib.hid ht1
      clear hb ht1 htz HR1 HR0 HO HB HQ
      go_wp2_with (first
        | (refine wpList_load_row rfl 27 (.tmp 1) rfl (g + 1) rfl 27 t1 (0, 0) _ h1 Try.underlying27 rfl s1 ?_)
        | (refine wpList_store_row rfl 27 (.tmp 0) (.tmp 16) rfl g t1 rfl rfl 27 tz h0 s1 s0 o1 ?_))
      (try simp only [Exit.inBlock, Exit.then])
      refine bodyPost_ret (results_cell_row rfl _ _ g _ t1 _ _ rfl (setRow_heap wr _ _ _ _ _ h0) Try.underlying27 rfl s1) rfl ?_
      exact ⟨by rw [HT1.out], HH⟩
end Go.Proofs.Ytbbdiphicckpiaa

