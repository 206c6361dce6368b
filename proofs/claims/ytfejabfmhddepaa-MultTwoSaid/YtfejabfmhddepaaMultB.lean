/- The landed package mult: the multiples of a point (times). -/
import Derived.Test.YtfejabfmhddepaaMultA
import Derived.Test.YtfejabfmhddepaaGheld
namespace Go.Proofs.Ytfejabfmhddepaa
open Go.RowKit
set_option linter.unusedVariables false
set_option maxRecDepth 100000

/-- where the two parts of a product lie -/
def placeR : Array (Nat × Nat) := #[(0, 32), (32, 320)]
theorem pr_under : ∃ f : Array Field, Try.prog.underlying 64 = some (.struct f) ∧ ∀ w : World, (f.mapM fun x => (do pure (x.offset, ← sizeOf x.type) : Sem (Nat × Nat))).run Try.prog w = .ok placeR w :=
  ⟨_, Try.underlying64, fun w => by kernel_rfl⟩
def zProd : Array Value := prC (List.replicate 32 0) (List.replicate 16 z20)
def zList : List Value := List.replicate 32 (.int .u8 0) ++ List.replicate 320 (.int .u64 0)
theorem zList_zero (u : World) : (zeroValue 64).run Try.prog u = .ok (.agg zList.toArray) u := by kernel_rfl
theorem flatC_list : ∀ ms : List (Array Value), (flatC ms).toList = (ms.map (·.toList)).flatten
  | [] => rfl
  | a :: ms => by rw [flatC_cons, Array.toList_append, flatC_list ms]; rfl
theorem zList_is : zList.toArray = zProd := by
  apply Array.toList_inj.1
  unfold zProd prC
  rw [Array.toList_append, flatC_list, List.map_replicate]
  have e1 : (arrB (List.replicate 32 0)).toList = List.replicate 32 (.int .u8 0) := by simp [arrB, bval]
  have e2 : z20.toList = List.replicate 20 (.int .u64 0) := by rfl
  rw [e1, e2]
  rfl
theorem zProd_zero (u : World) : (zeroValue 64).run Try.prog u = .ok (.agg zProd) u := by rw [← zList_is]; exact zList_zero u
theorem z20_one : z20.all (·.oneCell') = true := by kernel_rfl
theorem z20s_size : ∀ m ∈ List.replicate 16 z20, m.size = 20 := fun m hm => by rw [List.eq_of_mem_replicate hm]; exact z20_size
theorem zProd_size : zProd.size = 352 := prC_size (by simp) z20s_size (by simp)
theorem run_buildR {ρ : Operand → Value} {o : Oper} {w : World} {x0 : Operand} {l : List UInt8} (hl : l.length = 32) (ho : o.op = .build 64 #[(0, x0)]) (h0 : ρ x0 = .agg (arrB l)) :
    (execOp ρ o).run Try.prog w = .ok (.value (.agg (prC l (List.replicate 16 z20)))) w := by
  obtain ⟨f, hu, hp⟩ := pr_under
  have sa : (arrB l).size = 32 := by rw [arrB_size, hl]
  have hf : Instr.fill (fun i => placeR[i]?) zProd [(0, Value.agg (arrB l))] = some (prC l (List.replicate 16 z20)) := by
    have h := lay_mid (x := #[]) (y := arrB (List.replicate 32 0)) (z := flatC (List.replicate 16 z20)) (v := arrB l) (off := 0) rfl (by rw [sa, arrB_size]; simp)
    rw [fill_part (off := 0) (cs' := prC l (List.replicate 16 z20)) (by rw [sa]; rfl) (by rw [sa]; show 0 + 32 ≤ zProd.size; rw [zProd_size]; omega) (by rw [Array.empty_append, Array.empty_append] at h; exact h)]
    rfl
  have hb : (Instr.build 64 #[(0, .agg (arrB l))]).run Try.prog w = .ok (.agg (prC l (List.replicate 16 z20))) w := by
    unfold Instr.build
    rw [Sem.run_bind, zProd_zero w, Result.andThen_ok]
    simp only [Sem.run_bind, run_underlying hu w, Result.andThen_ok]
    rw [hp w]
    simp only [Result.andThen_ok, Value.cells]
    have h' : Instr.fill (fun x => placeR[x]?) zProd [(0, Value.agg (arrB l))] = some (prC l (List.replicate 16 z20)) := hf
    rw [h']
    rfl
  unfold execOp
  simp only [ho, List.map_toArray, List.map_cons, List.map_nil, h0, Sem.run_bind, hb, Result.andThen_ok, Sem.run_pure]
/-- what times gives -/
def RetPr (R : Array Value → PtD → Prop) (W : World) (l : List UInt8) (p : PtD) (e : Ending) (w' : World) : Prop := ∃ ms, e = .returned (.agg (prC l ms)) ∧ Mup R p 15 ms ∧ Below W.heap.size W w'
theorem prC_info {l : List UInt8} {ms : List (Array Value)} (hl : l.length = 32) (h : ∀ m ∈ ms, m.size = 20) (hn : ms.length = 16) : (Try.prog.info? 64).map (·.size) = some (prC l ms).size := by
  rw [prC_size hl h hn]; exact prod_info
theorem prC_one {l : List UInt8} {ms : List (Array Value)} (h : ∀ m ∈ ms, m.all (·.oneCell') = true) : (prC l ms).all (·.oneCell') = true := by
  unfold prC
  rw [Array.all_append, arrB_one, flatC_one ms h]; rfl
set_option maxHeartbeats 1600000 in
theorem mtimes_any {R : Array Value → PtD → Prop} (C : PtC R) (hz : R z20 pzero) {l : List UInt8} (hl : l.length = 32) {c : Array Value} {p : PtD} (hc : R c p) (w : World) :
    Calls Try.prog 42 #[.agg (arrB l), .agg c] w (RetPr R w l p) := by
  have HL := Lib.hid hl
  have HC := Lib.hid hc
  have HP0 := Lib.hid (Mup.zero hz p)
  have hZP := zProd_zero
  have hZi := prC_info (ms := List.replicate 16 z20) hl z20s_size (by simp)
  have hZs : zProd.size = (prC l (List.replicate 16 z20)).size := by rw [prC_size hl z20s_size (by simp)]; exact zProd_size
  have hZq := zProd_size
  have hZo := prC_one (l := l) (ms := List.replicate 16 z20) (fun m hm => by rw [List.eq_of_mem_replicate hm]; exact z20_one)
  have hBR := fun (ρ : Operand → Value) (o : Oper) (w : World) (x0 : Operand) => run_buildR (ρ := ρ) (o := o) (w := w) (x0 := x0) hl
  have hBB : (Try.prog.info? 22).map (·.size) = some (arrB l).size := by rw [arrB_size, hl]; kernel_rfl
  generalize zProd = ZP at *
  obtain ⟨ms0, hms0⟩ : ∃ m, List.replicate 16 z20 = m := ⟨_, rfl⟩
  rw [hms0] at HP0 hZi hZs hZo hBR
  have HZI := Lib.hid hZi
  have HZ0 := Lib.hid hZs
  have HZS := Lib.hid hZq
  have HZO := Lib.hid hZo
  have HBR := Lib.hid hBR
  have HBB := Lib.hid hBB
  clear hl hc hz hms0 hZi hZs hZq hZo hBR hBB
  have HR0 := Lib.hid ((((RowsW.nil w).box (arrB l) 22).box c 28).box ZP 64)
  have HB0 := Lib.hid (below_box (below_box (below_box (Below.refl w.heap.size w) (arrB l) 22) c 28) ZP 64)
  rw [World.size_alloc] at HR0
  rw [World.size_alloc] at HR0
  go_enter Try.func42, Try.ntmps42
  go_upto_region 1 with fail
  obtain ⟨W0, hW0⟩ : ∃ W, (((w.alloc (.cells (arrB l) 22)).alloc (.cells c 28)).alloc (.cells ZP 64)) = W := ⟨_, rfl⟩
  obtain ⟨g0, hg0⟩ : ∃ g, w.heap.size = g := ⟨_, rfl⟩
  rw [hW0] at HR0 HB0
  rw [hg0] at HR0
  rw [hW0, hg0]
  have HG0 := Lib.hid hg0
  clear hW0 hg0
  have l1 := HR0.out.tail.tail.head
  have h0q4 : (W0.alloc (.cells ZP 64)).heap[W0.heap.size]? = some (.cells ZP 64 (0, 0)) := heap_alloc_new _ _
  have HRq4 := Lib.hid (HR0.out.new ZP (prC l ms0) 64)
  have HBq4 := Lib.hid (below_new HB0.out ZP (prC l ms0) 64)
  have HNq4 := Lib.hid HR0.out.ne
  have HGq4 := Lib.hid HB0.out.size
  go_upto_region 2 with (first
    | (refine wpList_load_row rfl 22 (.tmp 2) rfl g0 rfl 22 (arrB l) (0, 0) _ l1 Try.underlying22 rfl HBB.out ?_)
    | (refine wpList_runsV (o := ⟨some 8, _, _, _, _, _⟩) rfl (.agg (prC l ms0)) (HBR.out _ _ _ _ rfl rfl) ?_)
    | (refine wpList_store_row rfl 64 (.tmp 5) (.tmp 8) rfl W0.heap.size (prC l ms0) rfl rfl 64 ZP h0q4 HZI.out HZ0.out HZO.out ?_))
  obtain ⟨Wq4, hWq4⟩ : ∃ W, (W0.alloc (.cells ZP 64)).setRow W0.heap.size (prC l ms0) = W := ⟨_, rfl⟩
  obtain ⟨gq, hgq⟩ : ∃ g, W0.heap.size = g := ⟨_, rfl⟩
  rw [hWq4, hgq] at HRq4
  rw [hWq4] at HBq4
  rw [hgq] at HNq4 HGq4
  rw [hWq4, hgq]
  clear hWq4 hgq h0q4 l1 HZI HZ0 HZO HBR HBB HR0 HB0
  go_wp2_with fail
  go_loopw [12] (fun i_ wr => ∃ k : Nat, k ≤ 15 ∧ i_ = .int .i64 (k : Int) ∧ ∃ ms, Hid (Mup R p k ms) ∧ Hid (RowsW wr [(gq, prC l ms, 64), (g0 + 1 + 1, ZP, 64), (g0 + 1, c, 28), (g0, arrB l, 22)]) ∧ Hid (Below w.heap.size w wr)) (fun i_ _ => 15 - (intOf i_).toNat)
  case atStart => exact ⟨0, by omega, rfl, ms0, HP0, HRq4, HBq4⟩
  case round =>
    clear HP0 HRq4 HBq4
    obtain ⟨k, hk, rfl, ms, HM, HR1, HB1⟩ := hrel
    by_cases hlt : k < 15
    · have hkl : k < ms.length := by have := HM.out.len; omega
      have hrv := HM.out.is k hkl
      rw [if_pos (Nat.le_refl k)] at hrv
      have hsz := HM.out.size C.base
      have hget := flatC_get hsz (arrB l) (k := 32 + k * 20) k hkl (by rw [arrB_size, HL.out, Nat.mul_comm])
      obtain ⟨k1, hk1⟩ : ∃ k1, k + 1 = k1 := ⟨_, rfl⟩
      have hk1l : k1 < ms.length := by have := HM.out.len; omega
      have hlay := fun (v : Array Value) (hv : v.size = 20) => flatC_lay hsz (arrB l) v (k := 32 + k1 * 20) k1 hk1l (by rw [arrB_size, HL.out, Nat.mul_comm]) hv
      have HLAY : Hid (∀ v : Array Value, v.size = 20 → v.zipIdx.foldl (fun cs (p : Value × Nat) => cs.setIfInBounds (32 + k1 * 20 + p.2) p.1) (prC l ms) = prC l (ms.set k1 v)) := Lib.hid hlay
      have HSET : Hid (∀ v, R v (pmul k1 p) → Mup R p k1 (ms.set k1 v)) := Lib.hid (fun v hv => by subst hk1; exact HM.out.set hv)
      have HPS : Hid ((prC l ms).size = 352) := Lib.hid (prC_size HL.out hsz HM.out.len)
      obtain ⟨mk, hmk⟩ : ∃ m, ms[k] = m := ⟨_, rfl⟩
      rw [hmk] at hrv hget
      have RV := Lib.hid hrv
      have HV20 : Hid (mk.size = 20) := Lib.hid (pt20 C.base hrv)
      have HGT : Hid (∀ j, j < 20 → (prC l ms)[32 + k * 20 + j]? = mk[j]?) := Lib.hid hget
      have HK1 : Hid (k + 1 = k1) := Lib.hid hk1
      have a0 : decide ((k : Int) < 15) = true := decide_eq_true (by omega)
      have a1 : (k : Int) + 1 = (k1 : Int) := by omega
      have a2 : IntKind.i64.wrap (k1 : Int) = (k1 : Int) := by rw [IntKind.wrap_i64]; omega
      have a3 : 0 ≤ (k : Int) := by omega
      have a4 : (k : Int) < 16 := by omega
      have a5 : 0 ≤ (k1 : Int) := by omega
      have a6 : (k1 : Int) < 16 := by omega
      have H16 : Hid (k1 ≤ 15) := Lib.hid (by omega)
      clear hkl hsz hget hk1l hlay hmk hrv hk1 hk HM
      go_upto_region 5 with fail
      rename_i K5 hK5
      refine wp_region_noPanic ?_
      refine wp_region_held_tail (S := fun W => Below wr.heap.size wr W) 9 (by kernel_rfl) ⟨by kernel_rfl, by kernel_rfl, by kernel_rfl, by kernel_rfl⟩ (by exact (Below.refl _ _).drew) (fun hT inv hS => ?_)
      refine' take_atT 0 hT inv rfl (by omega) (by kernel_rfl) (by kernel_rfl) (fun _ _ _ h => h) (by rfl) hS ?_ ?_ ?_
      rotate_left 2
      · intro W hSW; go_simp; try with_reducible rfl
      · simp only [List.set_cons_succ, List.set_cons_zero]; rfl
      intro inv
      refine' take_atT 1 hT inv rfl (by omega) (by kernel_rfl) (by kernel_rfl) (fun _ _ _ h => h) (by rfl) hS ?_ ?_ ?_
      rotate_left 2
      · intro W hSW; go_simp; try with_reducible rfl
      · simp only [List.set_cons_succ, List.set_cons_zero]; rfl
      intro inv
      refine' take_atT 2 hT inv rfl (by omega) (by kernel_rfl) (by kernel_rfl) (fun _ _ _ h => h) (by rfl) hS ?_ ?_ ?_
      rotate_left 2
      · intro W hSW; go_simp; try with_reducible rfl
      · simp only [List.set_cons_succ, List.set_cons_zero]; rfl
      intro inv
      refine' take_atT 3 hT inv rfl (by omega) (by kernel_rfl) (by kernel_rfl) (fun _ _ _ h => h) (by rfl) hS ?_ ?_ ?_
      rotate_left 2
      · intro W hSW; go_simp; try with_reducible rfl
      · simp only [List.set_cons_succ, List.set_cons_zero]; rfl
      intro inv
      refine' take_atT 4 hT inv rfl (by omega) (by kernel_rfl) (by kernel_rfl) (fun _ _ _ h => h) (by rfl) hS ?_ ?_ ?_
      rotate_left 2
      · intro W hSW; go_simp; try with_reducible rfl
      · simp only [List.set_cons_succ, List.set_cons_zero]; rfl
      intro inv
      refine' take_atT 5 hT inv rfl (by omega) (by kernel_rfl) (by kernel_rfl) (fun _ _ _ h => h) (by rfl) hS ?_ ?_ ?_
      rotate_left 2
      · intro W hSW; exact run_loadP rfl rfl (HR1.out.below hSW).head Try.underlying28 rfl (C.base.info RV.out) (fun j hj => HGT.out j (by rw [HV20.out] at hj; exact hj))
      · simp only [List.set_cons_succ, List.set_cons_zero]; rfl
      intro inv
      refine' take_atT 6 hT inv rfl (by omega) (by kernel_rfl) (by kernel_rfl) (fun _ _ _ h => h) (by rfl) hS ?_ ?_ ?_
      rotate_left 2
      · intro W hSW; exact run_loadR rfl rfl (HR1.out.below hSW).tail.tail.head Try.underlying28 rfl (C.base.info HC.out)
      · simp only [List.set_cons_succ, List.set_cons_zero]; rfl
      intro inv
      refine' take_atT 8 hT inv rfl (by omega) (by kernel_rfl) (by kernel_rfl) (fun _ _ _ h => h) (by rfl) hS ?_ ?_ ?_
      rotate_left 2
      · intro W hSW; go_simp; try with_reducible rfl
      · simp only [List.set_cons_succ, List.set_cons_zero]; rfl
      intro inv
      refine call_atT 7 inv rfl (by omega) (by kernel_rfl) (by rfl) (fun K hK => ?_)
      go_simp
      with_reducible refine ((C.add RV.out HC.out) _).mono ?_
      rintro e v ⟨cv, rfl, rv, hv⟩
      rw [← pmul_succ, HK1.out] at rv
      have RN := Lib.hid rv
      clear rv
      have hbv := below_next hS hv
      clear hS hv
      refine hK.out _ _ (by exact hbv) (fun inv hS => ?_)
      clear hK K
      refine done_atT (by kernel_rfl) ?_
      simp only [List.drop_succ_cons, List.drop_zero]

      have hrq := HR1.out.below hbv
      have hst := hrq.head
      have hcv := pt20 C.base RN.out
      have HR2 := Lib.hid (hrq.put (fun r hr => HNq4.out r hr) (prC l (ms.set k1 cv)))
      have HB2 : Hid (Below w.heap.size w (v.setRow gq (prC l (ms.set k1 cv)))) := Lib.hid (below_row (below_then HB1.out hbv) HGq4.out)
      go_wp2_with (refine wpList_store_part rfl 28 (.tmp 24) (.tmp 22) rfl gq (32 + k1 * 20) cv (prC l (ms.set k1 cv)) rfl rfl 64 (prC l ms) hst (C.base.info RN.out) (by rw [HPS.out, hcv]; have := H16.out; omega) (C.base.one RN.out) (HLAY.out cv hcv) ?_)
      refine hK5 _ _ ?_
      go_wp2_with fail
      go_roundw
      case rel => exact ⟨k1, H16.out, by go_num, _, Lib.hid (HSET.out cv RN.out), HR2, HB2⟩
      case measure => simp [intOf]; omega
    · have a0 : decide ((k : Int) < 15) = false := decide_eq_false (by omega)
      have hk15 : k = 15 := by omega
      have HM2 : Hid (Mup R p 15 ms) := Lib.hid (by rw [← hk15]; exact HM.out)
      have hsz := HM.out.size C.base
      have hpi := prC_info HL.out hsz HM.out.len
      have hpo := prC_one (l := l) (HM.out.one C.base)
      have hps := prC_size HL.out hsz HM.out.len
      have hr0 := HR1.out.head
      have hr1 := HR1.out.tail.head
      have hf : (wr.setRow (g0 + 1 + 1) (prC l ms)).heap[g0 + 1 + 1]? = some (.cells (prC l ms) 64 (0, 0)) := setRow_heap _ _ _ _ _ _ hr1
      have HB2 : Hid (Below w.heap.size w (wr.setRow (g0 + 1 + 1) (prC l ms))) := Lib.hid (below_row HB1.out (by have := HG0.out; omega))
      have HF := Lib.hid hf
      have HPI := Lib.hid hpi
      clear HM hk15 hk hlt hsz hf
      go_wp2_with (first
        | (refine wpList_load_row rfl 64 (.tmp 5) rfl gq rfl 64 (prC l ms) (0, 0) _ hr0 Try.underlying64 rfl hpi ?_)
        | (refine wpList_store_row rfl 64 (.tmp 4) (.tmp 26) rfl (g0 + 1 + 1) (prC l ms) rfl rfl 64 ZP hr1 hpi (by rw [hps]; exact HZS.out) hpo ?_))
      (try simp only [Exit.inBlock, Exit.then])
      refine bodyPost_ret (results_cell_row rfl _ _ (g0 + 1 + 1) _ (prC l ms) _ _ rfl HF.out Try.underlying64 rfl HPI.out) rfl ?_
      exact ⟨ms, rfl, HM2.out, HB2.out⟩
end Go.Proofs.Ytfejabfmhddepaa

