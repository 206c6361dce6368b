/- The contracts of seal.eightSteps, Table and Sum. -/
import Derived.Test.YtddalnmoahpljaaRefSum
namespace Go.Proofs.Ytddalnmoahpljaa
open Go.RowKit
set_option linter.unusedVariables false
set_option maxRecDepth 100000

theorem and_one (X : Nat) (h : X < 4294967296) : bits .and .u32 (X : Int) 1 = ((X % 2 : Nat) : Int) := by
  have := u32_and_nat X 1 h (by omega)
  rw [show X &&& 1 = X % 2 from Nat.and_one_is_mod X] at this
  simpa using this

set_option maxHeartbeats 800000 in
theorem eight_any (n : Nat) (w : World) (hn : n < 256) :
    Calls Try.prog 31 #[.int .u32 (n : Int)] w fun e w' => e = .returned (.int .u32 (fallN n : Nat)) ∧ w' = w := by
  go_enter Try.func31, Try.ntmps31
  go_wp2
  go_loop [0, 4] (fun x i => ∃ k X : Nat, k ≤ 8 ∧ i = .int .i64 k ∧ X = halves k n ∧ x = .int .u32 (X : Int)) (fun _ i => 8 - (intOf i).toNat)
  case atStart => exact ⟨0, n, by omega, rfl, rfl, by go_num⟩
  case round =>
    obtain ⟨k, X, hk, rfl, hX, rfl⟩ := hrel
    have hXl : X < 4294967296 := by rw [hX]; exact halves_lt k (by omega)
    by_cases hlt : k < 8
    · have hs : Hid (halve X = halves (k + 1) n) := Lib.hid (by rw [hX]; rfl)
      have ha := and_one X hXl
      clear hX
      by_cases ho : X % 2 = 1
      · rw [ho] at ha
        have hx : bits .xor .u32 ((X : Int) / 2) 3988292384 = ((X / 2 ^^^ 3988292384 : Nat) : Int) := by
          have := u32_xor_nat (X / 2) 3988292384 (by omega) (by omega)
          simpa using this
        go_wp2
        go_round
        case rel => exact ⟨k + 1, X / 2 ^^^ 3988292384, by omega, by go_num, by rw [← hs.out, halve_odd ho], by go_num⟩
        case measure => simp [intOf]; omega
      · have ho0 : X % 2 = 0 := by omega
        rw [ho0] at ha
        go_wp2
        go_round
        case rel => exact ⟨k + 1, X / 2, by omega, by go_num, by rw [← hs.out, halve_even ho], by go_num⟩
        case measure => simp [intOf]; omega
    · obtain rfl : k = 8 := by omega
      go_wp2
      go_ret
      subst hX
      exact ⟨rfl, rfl⟩

/-- the table behind k rounds, cell by cell -/
def tabV (k : Nat) : Array Value := ((List.range 256).map fun i => Value.int .u32 (((if i < k then fallN i else 0 : Nat)) : Int)).toArray

theorem tabV_size (k : Nat) : (tabV k).size = 256 := by simp [tabV]
theorem tabV_get (k i : Nat) (h : i < 256) : (tabV k)[i]? = some (.int .u32 (((if i < k then fallN i else 0 : Nat)) : Int)) := by
  simp [tabV, h]
theorem tabV_step (k : Nat) (h : k < 256) : (tabV k).setIfInBounds k (.int .u32 ((fallN k : Nat) : Int)) = tabV (k + 1) := by
  apply Array.ext
  · simp [tabV_size]
  · intro i h1 h2
    have hi : i < 256 := by simpa [tabV_size] using h1
    have e1 := tabV_get (k + 1) i hi
    rw [Array.getElem?_eq_getElem h2] at e1
    injection e1 with e1
    rw [e1, Array.getElem_setIfInBounds (by simpa [tabV_size] using hi)]
    by_cases e : k = i
    · subst e; simp
    · rw [if_neg e]
      have e2 := tabV_get k i hi
      rw [Array.getElem?_eq_getElem (by simpa [tabV_size] using hi)] at e2
      injection e2 with e2
      rw [e2]
      by_cases g : i < k
      · rw [if_pos g, if_pos (by omega)]
      · rw [if_neg g, if_neg (by omega)]
theorem tabV_one (k : Nat) : (tabV k).all (·.oneCell') = true := by
  simp [tabV, Value.oneCell']

theorem infoT : (Try.prog.info? 34).map (fun i => (i.zero, i.size)) = some (some (.agg (tabV 0)), 256) := by kernel_rfl
theorem infoTs : (Try.prog.info? 34).map (·.size) = some 256 := by kernel_rfl
theorem zeroT (u : World) : (zeroValue 34).run Try.prog u = .ok (.agg (tabV 0)) u := by
  have h := infoT
  cases hi : Try.prog.info? 34 with
  | none => rw [hi] at h; cases h
  | some i =>
    rw [hi] at h
    simp at h
    simp [zeroValue, typeInfo, hi, h.1]

/-- the table has come: a block of its own -/
def TabAt (w : World) (g : Nat) (k : Nat) : Prop := w.heap[g]? = some (.cells (tabV k) 34 (0, 0))

theorem TabAt.cell {w : World} {g k : Nat} (h : TabAt w g k) (i : Nat) (hi : i < 256) : w.cell? ⟨g, i, none⟩ = some (.int .u32 (((if i < k then fallN i else 0 : Nat)) : Int)) := by
  rw [cell_of_row w g i _ _ _ h, tabV_get k i hi]
theorem TabAt.frozen {w : World} {g k : Nat} (h : TabAt w g k) (i : Nat) : w.frozen? ⟨g, i, none⟩ = false := by
  unfold TabAt at h
  simp [World.frozen?, h]
theorem TabAt.set_ {w : World} {g k : Nat} (h : TabAt w g k) (hk : k < 256) : TabAt (w.setCell ⟨g, k, none⟩ (.int .u32 ((fallN k : Nat) : Int))) g (k + 1) := by
  unfold TabAt
  rw [setCell_eq_setRow w g k _ _ _ _ h, tabV_step k hk]
  exact setRow_heap w g _ _ _ _ h
theorem TabAt.below {w w' : World} {g k : Nat} (h : TabAt w g k) (hb : Below w.heap.size w w') : TabAt w' g k := by
  unfold TabAt
  rw [hb.block g (Array.getElem?_eq_some_iff.1 h).1]
  exact h
theorem TabAt.drewN {w : World} {g k : Nat} (h : TabAt w g k) (n : Nat) : TabAt (w.drewN n) g k := h

theorem table_any (w : World) :
    Calls Try.prog 19 #[] w fun e w' => e = .returned (.agg (tabV 256)) ∧ Below w.heap.size w w' := by
  have hz := zeroT
  obtain ⟨t0, ht0⟩ : ∃ t0, tabV 0 = t0 := ⟨_, rfl⟩
  rw [ht0] at hz
  have HT0 := Lib.hid ht0
  go_enter Try.func19, Try.ntmps19
  go_wp2
  go_loopw [3] (fun i wr => ∃ k : Nat, k ≤ 256 ∧ i = .int .i64 k ∧ Hid (TabAt wr (w.heap.size + 1) k) ∧ Hid (TabAt wr w.heap.size 0) ∧ Hid (Below w.heap.size w wr)) (fun i _ => 256 - (intOf i).toNat)
  case atStart => exact ⟨0, by omega, rfl, Lib.hid (by have := heap_alloc2_new w (.cells t0 34) (.cells t0 34); rw [← HT0.out] at this ⊢; exact this), Lib.hid (by have := heap_alloc2_old w (.cells t0 34) (.cells t0 34); rw [← HT0.out] at this ⊢; exact this), Lib.hid (((Below.refl _ _).alloc (Nat.le_refl _) _).alloc (by simp) _)⟩
  case round =>
    obtain ⟨k, hk, rfl, HA, HB, HW⟩ := hrel
    by_cases hlt : k < 256
    · have hc := HA.out.cell k hlt
      have hf := HA.out.frozen k
      rw [if_neg (by omega)] at hc
      have hs := HA.out.set_ hlt
      have hne : TabAt (wr.setCell ⟨w.heap.size + 1, k, none⟩ (.int .u32 ((fallN k : Nat) : Int))) w.heap.size 0 := by
        unfold TabAt
        rw [setCell_eq_setRow _ _ _ _ _ _ _ HA.out, setRow_other _ _ _ _ (by omega)]
        exact HB.out
      have hb : Below w.heap.size w (wr.setCell ⟨w.heap.size + 1, k, none⟩ (.int .u32 ((fallN k : Nat) : Int))) := HW.out.setCell (by show w.heap.size ≤ w.heap.size + 1; omega) _
      have Hs := Lib.hid hs
      have Hne := Lib.hid hne
      have Hb := Lib.hid hb
      have hfl := fallN_lt hlt
      have Cf : Hid (∀ W : World, Calls Try.prog 31 #[.int .u32 (k : Int)] W fun e w' => e = .returned (.int .u32 (fallN k : Nat)) ∧ w' = W) := Lib.hid (fun W => eight_any k W hlt)
      generalize fallN k = F at *
      clear hs hne hb
      go_wp2_with fail
      refine (Cf.out _).mono ?_
      rintro e w' ⟨rfl, rfl⟩
      go_wp2_with fail
      go_roundw
      case rel => exact ⟨k + 1, by omega, by go_num, Hs, Hne, Hb⟩
      case measure => simp [intOf]; omega
    · obtain rfl : k = 256 := by omega
      have h1 := HA.out
      have h0 := HB.out
      unfold TabAt at h1 h0
      have s1 : (Try.prog.info? 34).map (·.size) = some (tabV 256).size := by rw [tabV_size]; exact infoTs
      have s0 : (tabV 0).size = (tabV 256).size := by rw [tabV_size, tabV_size]
      have o1 := tabV_one 256
      generalize ht1 : tabV 256 = t1 at *
      generalize tabV 0 = tz at *
      have hb : Below w.heap.size w (wr.setRow w.heap.size t1) := ⟨HW.out.os, HW.out.tape, HW.out.output, by have := HW.out.size; simpa using this, fun j hj => by rw [setRow_other _ _ _ _ (by omega)]; exact HW.out.block j hj⟩
      go_wp2_with (first
        | (refine wpList_load_row rfl 34 (.tmp 1) rfl (w.heap.size + 1) rfl 34 t1 (0, 0) _ h1 Try.underlying34 rfl s1 ?_)
        | (refine wpList_store_row rfl 34 (.tmp 0) (.tmp 12) rfl w.heap.size t1 rfl rfl 34 tz h0 s1 s0 o1 ?_))
      (try simp only [Exit.inBlock, Exit.then])
      refine bodyPost_ret (results_cell_row rfl _ _ w.heap.size _ t1 _ _ rfl (setRow_heap wr _ _ _ _ _ h0) Try.underlying34 rfl s1) rfl ?_
      exact ⟨by rw [ht1], hb⟩

set_option maxHeartbeats 800000 in
theorem sum_any (A : Option Addr) (l : List UInt8) (c : Nat) (w : World) (h : Bs w A l) (hl : l.length ≤ 2147483648) :
    Calls Try.prog 17 #[.slice A l.length c] w fun e w' => e = .returned (.int .u32 (crc l : Nat)) ∧ Below w.heap.size w w' := by
  obtain ⟨t0, ht0⟩ : ∃ t0, tabV 0 = t0 := ⟨_, rfl⟩
  have hz := zeroT
  have s1 : (Try.prog.info? 34).map (·.size) = some (tabV 256).size := by rw [tabV_size]; exact infoTs
  have s0 : (tabV 0).size = (tabV 256).size := by rw [tabV_size, tabV_size]
  have o1 := tabV_one 256
  have HC : Hid (∀ (W : World) (g : Nat), W.heap[g]? = some (.cells (tabV 256) 34 (0, 0)) → ∀ i, i < 256 → W.cell? ⟨g, i, none⟩ = some (.int .u32 ((fallN i : Nat) : Int))) := Lib.hid (fun W g hW i hi => by
    have := TabAt.cell (k := 256) hW i hi
    rw [if_pos hi] at this
    exact this)
  have HTab : Hid (∀ W : World, Calls Try.prog 19 #[] W fun e w' => e = .returned (.agg (tabV 256)) ∧ Below W.heap.size W w') := Lib.hid table_any
  rw [ht0] at hz s0
  generalize tabV 256 = t1 at *
  clear ht0
  go_enter Try.func17, Try.ntmps17
  go_wp2_with fail
  refine (HTab.out _).mono ?_
  rintro e w1 ⟨rfl, hb1⟩
  go_upto_region 2 with (refine wpList_store_row rfl 34 (.tmp 3) (.tmp 7) rfl w1.heap.size t1 rfl rfl 34 t0 (heap_alloc_new _ _) s1 s0 o1 ?_)
  obtain ⟨w2, hw2⟩ : ∃ w2, ((w1.alloc (.cells t0 34)).setRow w1.heap.size t1) = w2 := ⟨_, rfl⟩
  have hT : w2.heap[w1.heap.size]? = some (.cells t1 34 (0, 0)) := by rw [← hw2]; exact setRow_heap _ _ _ _ _ _ (heap_alloc_new _ _)
  have hb2 : Below w.heap.size w w2 := by
    rw [← hw2]
    exact ⟨hb1.os, hb1.tape, hb1.output, by have := hb1.size; simp; omega, fun j hj => by
      have := hb1.size
      rw [setRow_other _ _ _ _ (by omega), heap_alloc_old _ _ (show j < w1.heap.size by omega)]; exact hb1.block j hj⟩
  rw [hw2]
  have HT := Lib.hid hT
  have HB2 := Lib.hid hb2
  have hA2 := h.below hb2
  generalize w1.heap.size = G at *
  clear hw2 hT hb2 h hb1 s1 s0 o1 hz HTab
  go_wp2_with fail
  go_loopw [4, 10] (fun x i wr => ∃ k X nd : Nat, k ≤ l.length ∧ i = .int .i64 k ∧ X = crcRun 4294967295 (l.take k) ∧ x = .int .u32 (X : Int) ∧ wr = w2.drewN nd) (fun _ i _ => l.length - (intOf i).toNat)
  case atStart => exact ⟨0, 4294967295, 0, by omega, rfl, by simp [crcRun], rfl, rfl⟩
  case round =>
    obtain ⟨k, X, nd, hk, rfl, hX, rfl, rfl⟩ := hrel
    have hXl : X < 4294967296 := by rw [hX]; exact crcRun_lt _ (by omega)
    by_cases hlt : k < l.length
    · obtain ⟨bb, oo, rfl, hc⟩ := hA2.at_ hlt
      obtain ⟨y, hy⟩ : ∃ y, l.getD k 0 = y := ⟨_, rfl⟩
      rw [hy] at hc
      have hs : Hid (crcStep X y = crcRun 4294967295 (l.take (k + 1))) := Lib.hid (by
        rw [hX, List.take_succ_eq_append_getElem hlt, crcRun_append]
        have : l[k] = y := by rw [← hy]; simp [List.getD, hlt]
        rw [this]; rfl)
      clear hX hy
      have hyl := y.toNat_lt
      obtain ⟨z, hz⟩ : ∃ z : Nat, z = X % 256 ^^^ y.toNat := ⟨_, rfl⟩
      have hzl : z < 256 := by rw [hz]; exact Nat.xor_lt_two_pow (n := 8) (by omega) hyl
      have hcz := HC.out (w2.drewN nd) G HT.out z hzl
      have hx32 : bits .xor .u32 ((X : Int) / 256) ((fallN z : Nat) : Int) = ((crcStep X y : Nat) : Int) := by
        have := u32_xor_nat (X / 256) (fallN z) (by omega) (fallN_lt hzl)
        unfold crcStep
        rw [← hz]
        simpa using this
      have hFl := fallN_lt hzl
      generalize fallN z = F at *
      have hx8 : bits .xor .u8 ((X : Int) % 256) (y.toNat : Int) = (z : Int) := by
        rw [hz]
        have := u8_xor_nat (X % 256) y.toNat (by omega) hyl
        simpa using this
      clear hz
      go_wp2_with fail
      go_roundw
      case rel => exact ⟨k + 1, _, _, by omega, by go_num, hs.out, rfl, by first | rfl | exact World.drewN_drewN _ _ _⟩
      case measure => simp [intOf]; omega
    · obtain rfl : k = l.length := by omega
      have he : crc l = 4294967295 - X := by rw [hX, List.take_length]; rfl
      have hx : bits .xor .u32 IntKind.u32.max (X : Int) = ((crc l : Nat) : Int) := by
        rw [he, comp_xor hXl, show IntKind.u32.max = 4294967295 by decide]
        exact u32_xor_nat 4294967295 X (by omega) hXl
      clear he hX
      go_wp2
      go_ret
      exact ⟨rfl, below_drewN' HB2.out nd⟩
end Go.Proofs.Ytddalnmoahpljaa

