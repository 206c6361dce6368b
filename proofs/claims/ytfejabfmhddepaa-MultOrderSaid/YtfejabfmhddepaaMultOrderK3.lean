/-
  A part of what the proof of MultOrder rests on: plain lemmas and contracts of the functions that it calls. No conditions but what each theorem states.
-/
import Derived.Test.YtfejabfmhddepaaMultOrderK2
namespace Go.Proofs.Ytfejabfmhddepaa
open Go.RowKit
set_option linter.unusedVariables false
set_option maxRecDepth 100000
theorem pt20_info : (Try.prog.info? 28).map (·.size) = some 20 := by kernel_rfl
theorem pt20 {R : Array Value → PtD → Prop} (C : PtB R) {c : Array Value} {p : PtD} (h : R c p) : c.size = 20 := by
  have k := C.info h
  rw [pt20_info] at k
  injection k with k
  exact k.symm
abbrev z20 : Array Value := quad z5 z5 z5 z5
theorem z20_size : z20.size = 20 := rfl
structure Mup (R : Array Value → PtD → Prop) (p : PtD) (k : Nat) (ms : List (Array Value)) : Prop where
  len : ms.length = 16
  is : ∀ (i : Nat) (h : i < ms.length), R ms[i] (if i ≤ k then pmul i p else pzero)
theorem Mup.size {R : Array Value → PtD → Prop} {p : PtD} {k : Nat} {ms : List (Array Value)} (C : PtB R) (h : Mup R p k ms) : ∀ m ∈ ms, m.size = 20 := by
  intro m hm
  obtain ⟨i, hi, rfl⟩ := List.getElem_of_mem hm
  exact pt20 C (h.is i hi)
theorem Mup.one {R : Array Value → PtD → Prop} {p : PtD} {k : Nat} {ms : List (Array Value)} (C : PtB R) (h : Mup R p k ms) : ∀ m ∈ ms, m.all (·.oneCell') = true := by
  intro m hm
  obtain ⟨i, hi, rfl⟩ := List.getElem_of_mem hm
  exact C.one (h.is i hi)
theorem Mup.zero {R : Array Value → PtD → Prop} (hz : R z20 pzero) (p : PtD) : Mup R p 0 (List.replicate 16 z20) := by
  refine ⟨by simp, fun i h => ?_⟩
  rw [List.getElem_replicate]
  by_cases h0 : i ≤ 0
  · rw [if_pos h0, show i = 0 by omega, pmul_zero]; exact hz
  · rw [if_neg h0]; exact hz
theorem Mup.set {R : Array Value → PtD → Prop} {p : PtD} {k : Nat} {ms : List (Array Value)} (h : Mup R p k ms) {v : Array Value} (hv : R v (pmul (k + 1) p)) : Mup R p (k + 1) (ms.set (k + 1) v) := by
  refine ⟨by rw [List.length_set, h.len], fun i hi => ?_⟩
  rw [List.getElem_set]
  by_cases e : k + 1 = i
  · subst e
    rw [if_pos rfl, if_pos (by omega)]; exact hv
  · rw [if_neg e]
    have := h.is i (by simpa using hi)
    by_cases h0 : i ≤ k
    · rw [if_pos h0] at this; rw [if_pos (by omega)]; exact this
    · rw [if_neg h0] at this; rw [if_neg (by omega)]; exact this
def prC (l : List UInt8) (ms : List (Array Value)) : Array Value := arrB l ++ flatC ms
theorem prC_size {l : List UInt8} {ms : List (Array Value)} (hl : l.length = 32) (h : ∀ m ∈ ms, m.size = 20) (hn : ms.length = 16) : (prC l ms).size = 352 := by
  unfold prC
  rw [Array.size_append, flatC_size ms h, hn, arrB_size, hl]
theorem prod_info : (Try.prog.info? 64).map (·.size) = some 352 := by kernel_rfl
def RetAgg (W : World) (c : Array Value) (e : Ending) (w' : World) : Prop := e = .returned (.agg c) ∧ Below W.heap.size W w'
theorem still_runs {P : Program} {o : Oper} {a : Act} {w : World} {K : Act → Prop} {v : Value} (hr : (execOp (Act.eval a) o).run P w = .ok (.value v) w) (h : K (a.put o.dst v)) : o.still P a w K := by
  unfold Oper.still
  rw [hr, Oper.stillUpon_value]
  exact h
set_option maxHeartbeats 1600000 in
theorem mpart_any {W : World} {g o : Nat} {cs : Array Value} {t : TypeId} {fr : Nat × Nat} (hg : W.heap[g]? = some (.cells cs t fr)) {l : List UInt8} (hl : l.length = 32) {ms : List (Array Value)} (hn : ms.length = 16)
    (hb : ∀ j, j < 32 → cs[o + j]? = some (.int .u8 ((l.getD j 0).toNat : Int))) (hm : ∀ d (hd : d < ms.length) j, j < 20 → cs[o + 32 + d * 20 + j]? = ms[d][j]?) (hs : ∀ m ∈ ms, m.size = 20) (h1 : ∀ m ∈ ms, m.all (·.oneCell') = true) {i : Nat} (hi : i < 64) :
    Calls Try.prog 79 #[.pointer (some ⟨g, o, none⟩), .int .i64 (i : Int)] W (RetAgg W (ms.getD (dgP i (leN l)) #[])) := by
  obtain ⟨d, hd⟩ : ∃ d, dgP i (leN l) = d := ⟨_, rfl⟩
  have hd16 : d < 16 := by rw [← hd]; exact Nat.mod_lt _ (by omega)
  have hdb := dgP_byte l i
  rw [hd] at hdb
  have hdl : d < ms.length := by omega
  obtain ⟨b, hbv⟩ : ∃ b, (l.getD (i / 2) 0).toNat = b := ⟨_, rfl⟩
  have hbl : b < 256 := by rw [← hbv]; exact (l.getD _ 0).toNat_lt
  have cb := hb (i / 2) (by omega)
  rw [hbv] at cb hdb
  have ec : ms.getD d #[] = ms[d] := by simp [List.getD, hdl]
  have hcs := hm d hdl
  have hv20 := hs _ (List.getElem_mem hdl)
  have hv1 := h1 _ (List.getElem_mem hdl)
  rw [hd, ec]
  generalize ms[d] = v at *
  obtain ⟨q, hq⟩ : ∃ q, i / 2 = q := ⟨_, rfl⟩
  obtain ⟨r, hr⟩ : ∃ r, i % 2 = r := ⟨_, rfl⟩
  obtain ⟨e, he⟩ : ∃ e, r * 4 = e := ⟨_, rfl⟩
  rw [hq] at cb
  rw [hr, he] at hdb
  have hz20 : ∀ u, (zeroValue 28).run Try.prog u = .ok (.agg z20) u := zp_zero
  obtain ⟨Z, hZ⟩ : ∃ Z, z20 = Z := ⟨_, rfl⟩
  have hZs : Z.size = v.size := by rw [← hZ, hv20]; rfl
  rw [hZ] at hz20
  have hglt : g < W.heap.size := (Array.getElem?_eq_some_iff.1 hg).1
  have hg1 : (W.alloc (.cells Z 28)).heap[g]? = some (.cells cs t fr) := by
    have := (Below.refl W.heap.size W).alloc (Nat.le_refl _) (.cells Z 28)
    rw [this.block g hglt]; exact hg
  have hZr : (W.alloc (.cells Z 28)).heap[W.heap.size]? = some (.cells Z 28 (0, 0)) := heap_alloc_new _ _
  have cx : (W.alloc (.cells Z 28)).cell? ⟨g, o + q, none⟩ = some (.int .u8 (b : Int)) := by rw [cell_of_row _ _ _ _ _ _ hg1, cb]
  have f1 : (i : Int).tdiv 2 = (q : Int) := by rw [Int.tdiv_eq_ediv_of_nonneg (by omega)]; omega
  have f1' : (i : Int) / 2 = (q : Int) := by omega
  have f2 : IntKind.i64.wrap (q : Int) = (q : Int) := by rw [IntKind.wrap_i64]; omega
  have f3 : (i : Int).tmod 2 = (r : Int) := by rw [Int.tmod_eq_emod_of_nonneg (by omega)]; omega
  have f3' : (i : Int) % 2 = (r : Int) := by omega
  have f4 : (r : Int) * 4 = (e : Int) := by omega
  have f5 : IntKind.i64.wrap (e : Int) = (e : Int) := by rw [IntKind.wrap_i64]; omega
  have f5' : IntKind.i64.wrap (r : Int) = (r : Int) := by rw [IntKind.wrap_i64]; omega
  obtain ⟨s, hs⟩ : ∃ s, b / 2 ^ e = s := ⟨_, rfl⟩
  rw [hs] at hdb
  have hsl : s < 256 := by rw [← hs]; exact Nat.lt_of_le_of_lt (Nat.div_le_self _ _) hbl
  have f6 : (b : Int) / 2 ^ e = (s : Int) := by rw [← hs, Int.natCast_ediv]; simp
  have f7 : bits .and .u8 (s : Int) 15 = (d : Int) := by
    have h := u8_and' (UInt8.ofNat s) 15
    have e1 : (UInt8.ofNat s).toNat = s := by simp; omega
    rw [show ((15 : UInt8).toNat : Int) = 15 from rfl, e1] at h
    rw [h, UInt8.toNat_and, show (15 : UInt8).toNat = 2 ^ 4 - 1 from rfl, Nat.and_two_pow_sub_one_eq_mod, e1]
    omega
  have b1 : 0 ≤ (q : Int) := by omega
  have b2 : (q : Int) < 32 := by omega
  have b3 : 0 ≤ (e : Int) := by omega
  have b4 : 0 ≤ (d : Int) := by omega
  have b5 : (d : Int) < 16 := by omega
  have HCS := Lib.hid hcs
  have HV20 := Lib.hid hv20
  have HV1 := Lib.hid hv1
  have HZS := Lib.hid hZs
  have HG1 := Lib.hid hg1
  have HZR := Lib.hid hZr
  have HB : Hid (Below W.heap.size W ((W.alloc (.cells Z 28)).setRow W.heap.size v)) := Lib.hid (below_new (Below.refl _ _) _ _ _)
  clear hb hm hs h1 hsl hdb hd hbv cb hcs hv20 hv1 hq hr he hZ hZs hg hg1 hZr hn hdl hi hl ec
  go_enter Try.func79, Try.ntmps79
  go_wp2_with fail
  obtain ⟨W1, hW1⟩ : ∃ X, W.alloc (.cells Z 28) = X := ⟨_, rfl⟩
  rw [hW1] at cx HG1 HZR HB
  rw [hW1]
  clear hW1
  refine wp_region_still_tail 17 (by kernel_rfl) (by kernel_rfl) ?_
  simp only [List.take_succ_cons, List.take_zero, List.drop_succ_cons, List.drop_zero]
  iterate 16 still_step
  refine wpStill_step (fun K hK => ?_)
  refine (if_pos (by kernel_rfl)).mpr ?_
  refine still_runs (run_loadP rfl rfl HG1.out Try.underlying28 rfl (by rw [HV20.out]; exact pt20_info) (fun j hj => HCS.out j (by rw [HV20.out] at hj; exact hj))) ?_
  refine hK _ ?_
  clear hK K
  refine wpStill_nil ?_
  go_wp2_with (refine wpList_store_row rfl 28 (.tmp 4) (.tmp 21) rfl W.heap.size v rfl rfl 28 Z HZR.out (by rw [HV20.out]; exact pt20_info) HZS.out HV1.out ?_)
  have hf : (W1.drew.setRow W.heap.size v).heap[W.heap.size]? = some (.cells v 28 (0, 0)) := setRow_heap _ _ _ _ _ _ HZR.out
  refine bodyPost_ret (results_cell_row rfl _ _ W.heap.size _ v _ _ rfl hf Try.underlying28 rfl (by rw [HV20.out]; exact pt20_info)) rfl ?_
  exact ⟨rfl, HB.out.drew⟩
end Go.Proofs.Ytfejabfmhddepaa

namespace Go.Proofs.Ytfejabfmhddepaa
open Go.RowKit
set_option linter.unusedVariables false
set_option maxRecDepth 100000
def placeR : Array (Nat × Nat) := #[(0, 32), (32, 320)]
theorem pr_under : ∃ f : Array Field, Try.prog.underlying 64 = some (.struct f) ∧ ∀ w : World, (f.mapM fun x => (do pure (x.offset, ← sizeOf x.type) : Sem (Nat × Nat))).run Try.prog w = .ok placeR w :=
  ⟨_, Try.underlying64, fun w => by kernel_rfl⟩
def zProd : Array Value := prC (List.replicate 32 0) (List.replicate 16 z20)
def zList : List Value := List.replicate 32 (.int .u8 0) ++ List.replicate 320 (.int .u64 0)
theorem zList_zero (u : World) : (zeroValue 64).run Try.prog u = .ok (.agg zList.toArray) u := by kernel_rfl
theorem flatC_list : ∀ ms : List (Array Value), (flatC ms).toList = (ms.map (·.toList)).flatten
  | [] => rfl
  | a :: ms => by rw [flatC_cons, Array.toList_append, flatC_list ms]; rfl
theorem zList_is : zList.toArray = zProd := by
  apply Array.toList_inj.1
  unfold zProd prC
  rw [Array.toList_append, flatC_list, List.map_replicate]
  have e1 : (arrB (List.replicate 32 0)).toList = List.replicate 32 (.int .u8 0) := by simp [arrB, bval]
  have e2 : z20.toList = List.replicate 20 (.int .u64 0) := by rfl
  rw [e1, e2]
  rfl
theorem zProd_zero (u : World) : (zeroValue 64).run Try.prog u = .ok (.agg zProd) u := by rw [← zList_is]; exact zList_zero u
theorem z20_one : z20.all (·.oneCell') = true := by kernel_rfl
theorem z20s_size : ∀ m ∈ List.replicate 16 z20, m.size = 20 := fun m hm => by rw [List.eq_of_mem_replicate hm]; exact z20_size
theorem zProd_size : zProd.size = 352 := prC_size (by simp) z20s_size (by simp)
theorem run_buildR {ρ : Operand → Value} {o : Oper} {w : World} {x0 : Operand} {l : List UInt8} (hl : l.length = 32) (ho : o.op = .build 64 #[(0, x0)]) (h0 : ρ x0 = .agg (arrB l)) :
    (execOp ρ o).run Try.prog w = .ok (.value (.agg (prC l (List.replicate 16 z20)))) w := by
  obtain ⟨f, hu, hp⟩ := pr_under
  have sa : (arrB l).size = 32 := by rw [arrB_size, hl]
  have hf : Instr.fill (fun i => placeR[i]?) zProd [(0, Value.agg (arrB l))] = some (prC l (List.replicate 16 z20)) := by
    have h := lay_mid (x := #[]) (y := arrB (List.replicate 32 0)) (z := flatC (List.replicate 16 z20)) (v := arrB l) (off := 0) rfl (by rw [sa, arrB_size]; simp)
    rw [fill_part (off := 0) (cs' := prC l (List.replicate 16 z20)) (by rw [sa]; rfl) (by rw [sa]; show 0 + 32 ≤ zProd.size; rw [zProd_size]; omega) (by rw [Array.empty_append, Array.empty_append] at h; exact h)]
    rfl
  have hb : (Instr.build 64 #[(0, .agg (arrB l))]).run Try.prog w = .ok (.agg (prC l (List.replicate 16 z20))) w := by
    unfold Instr.build
    rw [Sem.run_bind, zProd_zero w, Result.andThen_ok]
    simp only [Sem.run_bind, run_underlying hu w, Result.andThen_ok]
    rw [hp w]
    simp only [Result.andThen_ok, Value.cells]
    have h' : Instr.fill (fun x => placeR[x]?) zProd [(0, Value.agg (arrB l))] = some (prC l (List.replicate 16 z20)) := hf
    rw [h']
    rfl
  unfold execOp
  simp only [ho, List.map_toArray, List.map_cons, List.map_nil, h0, Sem.run_bind, hb, Result.andThen_ok, Sem.run_pure]
def RetPr (R : Array Value → PtD → Prop) (W : World) (l : List UInt8) (p : PtD) (e : Ending) (w' : World) : Prop := ∃ ms, e = .returned (.agg (prC l ms)) ∧ Mup R p 15 ms ∧ Below W.heap.size W w'
theorem prC_info {l : List UInt8} {ms : List (Array Value)} (hl : l.length = 32) (h : ∀ m ∈ ms, m.size = 20) (hn : ms.length = 16) : (Try.prog.info? 64).map (·.size) = some (prC l ms).size := by
  rw [prC_size hl h hn]; exact prod_info
theorem prC_one {l : List UInt8} {ms : List (Array Value)} (h : ∀ m ∈ ms, m.all (·.oneCell') = true) : (prC l ms).all (·.oneCell') = true := by
  unfold prC
  rw [Array.all_append, arrB_one, flatC_one ms h]; rfl
set_option maxHeartbeats 1600000 in
theorem mtimes_any {R : Array Value → PtD → Prop} (C : PtC R) (hz : R z20 pzero) {l : List UInt8} (hl : l.length = 32) {c : Array Value} {p : PtD} (hc : R c p) (w : World) :
    Calls Try.prog 42 #[.agg (arrB l), .agg c] w (RetPr R w l p) := by
  have HL := Lib.hid hl
  have HC := Lib.hid hc
  have HP0 := Lib.hid (Mup.zero hz p)
  have hZP := zProd_zero
  have hZi := prC_info (ms := List.replicate 16 z20) hl z20s_size (by simp)
  have hZs : zProd.size = (prC l (List.replicate 16 z20)).size := by rw [prC_size hl z20s_size (by simp)]; exact zProd_size
  have hZq := zProd_size
  have hZo := prC_one (l := l) (ms := List.replicate 16 z20) (fun m hm => by rw [List.eq_of_mem_replicate hm]; exact z20_one)
  have hBR := fun (ρ : Operand → Value) (o : Oper) (w : World) (x0 : Operand) => run_buildR (ρ := ρ) (o := o) (w := w) (x0 := x0) hl
  have hBB : (Try.prog.info? 22).map (·.size) = some (arrB l).size := by rw [arrB_size, hl]; kernel_rfl
  generalize zProd = ZP at *
  obtain ⟨ms0, hms0⟩ : ∃ m, List.replicate 16 z20 = m := ⟨_, rfl⟩
  rw [hms0] at HP0 hZi hZs hZo hBR
  have HZI := Lib.hid hZi
  have HZ0 := Lib.hid hZs
  have HZS := Lib.hid hZq
  have HZO := Lib.hid hZo
  have HBR := Lib.hid hBR
  have HBB := Lib.hid hBB
  clear hl hc hz hms0 hZi hZs hZq hZo hBR hBB
  have HR0 := Lib.hid ((((RowsW.nil w).box (arrB l) 22).box c 28).box ZP 64)
  have HB0 := Lib.hid (below_box (below_box (below_box (Below.refl w.heap.size w) (arrB l) 22) c 28) ZP 64)
  rw [World.size_alloc] at HR0
  rw [World.size_alloc] at HR0
  go_enter Try.func42, Try.ntmps42
  go_upto_region 1 with fail
  obtain ⟨W0, hW0⟩ : ∃ W, (((w.alloc (.cells (arrB l) 22)).alloc (.cells c 28)).alloc (.cells ZP 64)) = W := ⟨_, rfl⟩
  obtain ⟨g0, hg0⟩ : ∃ g, w.heap.size = g := ⟨_, rfl⟩
  rw [hW0] at HR0 HB0
  rw [hg0] at HR0
  rw [hW0, hg0]
  have HG0 := Lib.hid hg0
  clear hW0 hg0
  have l1 := HR0.out.tail.tail.head
  have h0q4 : (W0.alloc (.cells ZP 64)).heap[W0.heap.size]? = some (.cells ZP 64 (0, 0)) := heap_alloc_new _ _
  have HRq4 := Lib.hid (HR0.out.new ZP (prC l ms0) 64)
  have HBq4 := Lib.hid (below_new HB0.out ZP (prC l ms0) 64)
  have HNq4 := Lib.hid HR0.out.ne
  have HGq4 := Lib.hid HB0.out.size
  go_upto_region 2 with (first
    | (refine wpList_load_row rfl 22 (.tmp 2) rfl g0 rfl 22 (arrB l) (0, 0) _ l1 Try.underlying22 rfl HBB.out ?_)
    | (refine wpList_runsV (o := ⟨some 8, _, _, _, _, _⟩) rfl (.agg (prC l ms0)) (HBR.out _ _ _ _ rfl rfl) ?_)
    | (refine wpList_store_row rfl 64 (.tmp 5) (.tmp 8) rfl W0.heap.size (prC l ms0) rfl rfl 64 ZP h0q4 HZI.out HZ0.out HZO.out ?_))
  obtain ⟨Wq4, hWq4⟩ : ∃ W, (W0.alloc (.cells ZP 64)).setRow W0.heap.size (prC l ms0) = W := ⟨_, rfl⟩
  obtain ⟨gq, hgq⟩ : ∃ g, W0.heap.size = g := ⟨_, rfl⟩
  rw [hWq4, hgq] at HRq4
  rw [hWq4] at HBq4
  rw [hgq] at HNq4 HGq4
  rw [hWq4, hgq]
  clear hWq4 hgq h0q4 l1 HZI HZ0 HZO HBR HBB HR0 HB0
  go_wp2_with fail
  go_loopw [12] (fun i_ wr => ∃ k : Nat, k ≤ 15 ∧ i_ = .int .i64 (k : Int) ∧ ∃ ms, Hid (Mup R p k ms) ∧ Hid (RowsW wr [(gq, prC l ms, 64), (g0 + 1 + 1, ZP, 64), (g0 + 1, c, 28), (g0, arrB l, 22)]) ∧ Hid (Below w.heap.size w wr)) (fun i_ _ => 15 - (intOf i_).toNat)
  case atStart => exact ⟨0, by omega, rfl, ms0, HP0, HRq4, HBq4⟩
  case round =>
    clear HP0 HRq4 HBq4
    obtain ⟨k, hk, rfl, ms, HM, HR1, HB1⟩ := hrel
    by_cases hlt : k < 15
    · have hkl : k < ms.length := by have := HM.out.len; omega
      have hrv := HM.out.is k hkl
      rw [if_pos (Nat.le_refl k)] at hrv
      have hsz := HM.out.size C.base
      have hget := flatC_get hsz (arrB l) (k := 32 + k * 20) k hkl (by rw [arrB_size, HL.out, Nat.mul_comm])
      obtain ⟨k1, hk1⟩ : ∃ k1, k + 1 = k1 := ⟨_, rfl⟩
      have hk1l : k1 < ms.length := by have := HM.out.len; omega
      have hlay := fun (v : Array Value) (hv : v.size = 20) => flatC_lay hsz (arrB l) v (k := 32 + k1 * 20) k1 hk1l (by rw [arrB_size, HL.out, Nat.mul_comm]) hv
      have HLAY : Hid (∀ v : Array Value, v.size = 20 → v.zipIdx.foldl (fun cs (p : Value × Nat) => cs.setIfInBounds (32 + k1 * 20 + p.2) p.1) (prC l ms) = prC l (ms.set k1 v)) := Lib.hid hlay
      have HSET : Hid (∀ v, R v (pmul k1 p) → Mup R p k1 (ms.set k1 v)) := Lib.hid (fun v hv => by subst hk1; exact HM.out.set hv)
      have HPS : Hid ((prC l ms).size = 352) := Lib.hid (prC_size HL.out hsz HM.out.len)
      obtain ⟨mk, hmk⟩ : ∃ m, ms[k] = m := ⟨_, rfl⟩
      rw [hmk] at hrv hget
      have RV := Lib.hid hrv
      have HV20 : Hid (mk.size = 20) := Lib.hid (pt20 C.base hrv)
      have HGT : Hid (∀ j, j < 20 → (prC l ms)[32 + k * 20 + j]? = mk[j]?) := Lib.hid hget
      have HK1 : Hid (k + 1 = k1) := Lib.hid hk1
      have a0 : decide ((k : Int) < 15) = true := decide_eq_true (by omega)
      have a1 : (k : Int) + 1 = (k1 : Int) := by omega
      have a2 : IntKind.i64.wrap (k1 : Int) = (k1 : Int) := by rw [IntKind.wrap_i64]; omega
      have a3 : 0 ≤ (k : Int) := by omega
      have a4 : (k : Int) < 16 := by omega
      have a5 : 0 ≤ (k1 : Int) := by omega
      have a6 : (k1 : Int) < 16 := by omega
      have H16 : Hid (k1 ≤ 15) := Lib.hid (by omega)
      clear hkl hsz hget hk1l hlay hmk hrv hk1 hk HM
      go_upto_region 5 with fail
      rename_i K5 hK5
      refine wp_region_noPanic ?_
      refine wp_region_held_tail (S := fun W => Below wr.heap.size wr W) 9 (by kernel_rfl) ⟨by kernel_rfl, by kernel_rfl, by kernel_rfl, by kernel_rfl⟩ (by exact (Below.refl _ _).drew) (fun hT inv hS => ?_)
      refine' take_atT 0 hT inv rfl (by omega) (by kernel_rfl) (by kernel_rfl) (fun _ _ _ h => h) (by rfl) hS ?_ ?_ ?_
      rotate_left 2
      · intro W hSW; go_simp; try with_reducible rfl
      · simp only [List.set_cons_succ, List.set_cons_zero]; rfl
      intro inv
      refine' take_atT 1 hT inv rfl (by omega) (by kernel_rfl) (by kernel_rfl) (fun _ _ _ h => h) (by rfl) hS ?_ ?_ ?_
      rotate_left 2
      · intro W hSW; go_simp; try with_reducible rfl
      · simp only [List.set_cons_succ, List.set_cons_zero]; rfl
      intro inv
      refine' take_atT 2 hT inv rfl (by omega) (by kernel_rfl) (by kernel_rfl) (fun _ _ _ h => h) (by rfl) hS ?_ ?_ ?_
      rotate_left 2
      · intro W hSW; go_simp; try with_reducible rfl
      · simp only [List.set_cons_succ, List.set_cons_zero]; rfl
      intro inv
      refine' take_atT 3 hT inv rfl (by omega) (by kernel_rfl) (by kernel_rfl) (fun _ _ _ h => h) (by rfl) hS ?_ ?_ ?_
      rotate_left 2
      · intro W hSW; go_simp; try with_reducible rfl
      · simp only [List.set_cons_succ, List.set_cons_zero]; rfl
      intro inv
      refine' take_atT 4 hT inv rfl (by omega) (by kernel_rfl) (by kernel_rfl) (fun _ _ _ h => h) (by rfl) hS ?_ ?_ ?_
      rotate_left 2
      · intro W hSW; go_simp; try with_reducible rfl
      · simp only [List.set_cons_succ, List.set_cons_zero]; rfl
      intro inv
      refine' take_atT 5 hT inv rfl (by omega) (by kernel_rfl) (by kernel_rfl) (fun _ _ _ h => h) (by rfl) hS ?_ ?_ ?_
      rotate_left 2
      · intro W hSW; exact run_loadP rfl rfl (HR1.out.below hSW).head Try.underlying28 rfl (C.base.info RV.out) (fun j hj => HGT.out j (by rw [HV20.out] at hj; exact hj))
      · simp only [List.set_cons_succ, List.set_cons_zero]; rfl
      intro inv
      refine' take_atT 6 hT inv rfl (by omega) (by kernel_rfl) (by kernel_rfl) (fun _ _ _ h => h) (by rfl) hS ?_ ?_ ?_
      rotate_left 2
      · intro W hSW; exact run_loadR rfl rfl (HR1.out.below hSW).tail.tail.head Try.underlying28 rfl (C.base.info HC.out)
      · simp only [List.set_cons_succ, List.set_cons_zero]; rfl
      intro inv
      refine' take_atT 8 hT inv rfl (by omega) (by kernel_rfl) (by kernel_rfl) (fun _ _ _ h => h) (by rfl) hS ?_ ?_ ?_
      rotate_left 2
      · intro W hSW; go_simp; try with_reducible rfl
      · simp only [List.set_cons_succ, List.set_cons_zero]; rfl
      intro inv
      refine call_atT 7 inv rfl (by omega) (by kernel_rfl) (by rfl) (fun K hK => ?_)
      go_simp
      with_reducible refine ((C.add RV.out HC.out) _).mono ?_
      rintro e v ⟨cv, rfl, rv, hv⟩
      rw [← pmul_succ, HK1.out] at rv
      have RN := Lib.hid rv
      clear rv
      have hbv := below_next hS hv
      clear hS hv
      refine hK.out _ _ (by exact hbv) (fun inv hS => ?_)
      clear hK K
      refine done_atT (by kernel_rfl) ?_
      simp only [List.drop_succ_cons, List.drop_zero]
      have hrq := HR1.out.below hbv
      have hst := hrq.head
      have hcv := pt20 C.base RN.out
      have HR2 := Lib.hid (hrq.put (fun r hr => HNq4.out r hr) (prC l (ms.set k1 cv)))
      have HB2 : Hid (Below w.heap.size w (v.setRow gq (prC l (ms.set k1 cv)))) := Lib.hid (below_row (below_then HB1.out hbv) HGq4.out)
      go_wp2_with (refine wpList_store_part rfl 28 (.tmp 24) (.tmp 22) rfl gq (32 + k1 * 20) cv (prC l (ms.set k1 cv)) rfl rfl 64 (prC l ms) hst (C.base.info RN.out) (by rw [HPS.out, hcv]; have := H16.out; omega) (C.base.one RN.out) (HLAY.out cv hcv) ?_)
      refine hK5 _ _ ?_
      go_wp2_with fail
      go_roundw
      case rel => exact ⟨k1, H16.out, by go_num, _, Lib.hid (HSET.out cv RN.out), HR2, HB2⟩
      case measure => simp [intOf]; omega
    · have a0 : decide ((k : Int) < 15) = false := decide_eq_false (by omega)
      have hk15 : k = 15 := by omega
      have HM2 : Hid (Mup R p 15 ms) := Lib.hid (by rw [← hk15]; exact HM.out)
      have hsz := HM.out.size C.base
      have hpi := prC_info HL.out hsz HM.out.len
      have hpo := prC_one (l := l) (HM.out.one C.base)
      have hps := prC_size HL.out hsz HM.out.len
      have hr0 := HR1.out.head
      have hr1 := HR1.out.tail.head
      have hf : (wr.setRow (g0 + 1 + 1) (prC l ms)).heap[g0 + 1 + 1]? = some (.cells (prC l ms) 64 (0, 0)) := setRow_heap _ _ _ _ _ _ hr1
      have HB2 : Hid (Below w.heap.size w (wr.setRow (g0 + 1 + 1) (prC l ms))) := Lib.hid (below_row HB1.out (by have := HG0.out; omega))
      have HF := Lib.hid hf
      have HPI := Lib.hid hpi
      clear HM hk15 hk hlt hsz hf
      go_wp2_with (first
        | (refine wpList_load_row rfl 64 (.tmp 5) rfl gq rfl 64 (prC l ms) (0, 0) _ hr0 Try.underlying64 rfl hpi ?_)
        | (refine wpList_store_row rfl 64 (.tmp 4) (.tmp 26) rfl (g0 + 1 + 1) (prC l ms) rfl rfl 64 ZP hr1 hpi (by rw [hps]; exact HZS.out) hpo ?_))
      (try simp only [Exit.inBlock, Exit.then])
      refine bodyPost_ret (results_cell_row rfl _ _ (g0 + 1 + 1) _ (prC l ms) _ _ rfl HF.out Try.underlying64 rfl HPI.out) rfl ?_
      exact ⟨ms, rfl, HM2.out, HB2.out⟩
end Go.Proofs.Ytfejabfmhddepaa

namespace Go.Proofs.Ytfejabfmhddepaa
open Go.RowKit
set_option linter.unusedVariables false
set_option maxRecDepth 100000
abbrev PrT := List UInt8 × List (Array Value) × PtD
def cellP (q : PrT) : Array Value := prC q.1 q.2.1
def numP (q : PrT) : Nat × PtD := (leN q.1, q.2.2)
def PrL (R : Array Value → PtD → Prop) (L : List PrT) : Prop := ∀ q ∈ L, q.1.length = 32 ∧ Mup R q.2.2 15 q.2.1
theorem PrL.sizes {R : Array Value → PtD → Prop} {L : List PrT} (C : PtB R) (h : PrL R L) : ∀ m ∈ L.map cellP, m.size = 352 := by
  intro m hm
  obtain ⟨q, hq, rfl⟩ := List.mem_map.1 hm
  obtain ⟨h1, h2⟩ := h q hq
  exact prC_size h1 (h2.size C) h2.len
theorem PrL.lt {R : Array Value → PtD → Prop} {L : List PrT} (h : PrL R L) : ∀ q ∈ L.map numP, q.1 < 256 ^ 32 := by
  intro q hq
  obtain ⟨x, hx, rfl⟩ := List.mem_map.1 hq
  have := leN_lt x.1
  rw [(h x hx).1] at this
  exact this
theorem mpart_row {R : Array Value → PtD → Prop} (C : PtB R) {L : List PrT} (hL : PrL R L) {W : World} {g : Nat} {t : TypeId} {fr : Nat × Nat} (hg : W.heap[g]? = some (.cells (flatC (L.map cellP)) t fr)) {k o : Nat} (hk : k < L.length) (ho : k * 352 = o) {i : Nat} (hi : i < 64) :
    Calls Try.prog 79 #[.pointer (some ⟨g, o, none⟩), .int .i64 (i : Int)] W (RetPt R W (pmul (dgP i ((L.map numP).getD k (0, pzero)).1) ((L.map numP).getD k (0, pzero)).2)) := by
  obtain ⟨h1, h2⟩ := hL _ (List.getElem_mem hk)
  obtain ⟨⟨l, ms, p⟩, hq⟩ : ∃ q, L[k] = q := ⟨_, rfl⟩
  have hsz := hL.sizes C
  have hk' : k < (L.map cellP).length := by simpa using hk
  have hcell : (L.map cellP)[k] = prC l ms := by rw [List.getElem_map, hq]; rfl
  have hnum : ((L.map numP).getD k (0, pzero)) = (leN l, p) := by
    have hl : k < (L.map numP).length := by simpa using hk
    simp only [List.getD, List.getElem?_eq_getElem hl, Option.getD_some, List.getElem_map, hq]; rfl
  rw [hq] at h1 h2
  have h1 : l.length = 32 := h1
  have h2 : Mup R p 15 ms := h2
  have h1 : l.length = 32 := h1
  have h2 : Mup R p 15 ms := h2
  have h2 : Mup R p 15 ms := h2
  have h1 : l.length = 32 := h1
  have h2 : Mup R p 15 ms := h2
  have h2 : Mup R p 15 ms := h2
  have h2 : Mup R p 15 ms := h2
  have h1 : l.length = 32 := h1
  have h2 : Mup R p 15 ms := h2
  have h2 : Mup R p 15 ms := h2
  have h2 : Mup R p 15 ms := h2
  have get : ∀ j, j < 352 → (flatC (L.map cellP))[o + j]? = (prC l ms)[j]? := by
    intro j hj
    have := flatC_get hsz #[] (k := o) k hk' (by simp; omega) j hj
    rwa [hcell, Array.empty_append] at this
  have hms := h2.size C
  have hd : dgP i (leN l) < ms.length := by rw [h2.len]; exact Nat.mod_lt _ (by omega)
  have hr := h2.is _ hd
  rw [if_pos (by have := h2.len; omega)] at hr
  refine (mpart_any hg h1 h2.len (fun j hj => ?_) (fun d hd j hj => ?_) hms (h2.one C) hi).mono ?_
  · rw [get j (by omega)]
    unfold prC
    rw [Array.getElem?_append_left (by rw [arrB_size]; omega), arrB_get l j (by omega)]
  · have h16 := h2.len
    rw [Nat.add_assoc, Nat.add_assoc, get _ (by omega)]
    unfold prC
    rw [← Nat.add_assoc]
    exact flatC_get hms (arrB l) d hd (by rw [arrB_size, h1, Nat.mul_comm]) j hj
  · rintro e w' ⟨rfl, hb⟩
    have e2 : ms.getD (dgP i (leN l)) #[] = ms[dgP i (leN l)] := by simp [List.getD, hd]
    rw [hnum, e2]
    exact ⟨_, rfl, hr, hb⟩
set_option maxHeartbeats 3200000 in
theorem msum_any {R : Array Value → PtD → Prop} (C : PtC R) (hz : R z20 pzero) {L : List PrT} (hL : PrL R L) {w : World} {gs n cap : Nat} {t : TypeId} {fr : Nat × Nat} (hg : w.heap[gs]? = some (.cells (flatC (L.map cellP)) t fr)) (hn : L.length = n) (hn9 : n < 1000) :
    Calls Try.prog 41 #[.slice (some ⟨gs, 0, none⟩) n cap] w (RetPt R w (sumP (fun n => n) (L.map numP))) := by
  have hgl : gs < w.heap.size := (Array.getElem?_eq_some_iff.1 hg).1
  have hP0 := hiP_zero hL.lt
  have hPE := hiP_end (L.map numP)
  rw [← hPE]
  have HPA : Hid (∀ (W : World) (k o i : Nat), Below w.heap.size w W → k < n → k * 352 = o → i < 64 → Calls Try.prog 79 #[.pointer (some ⟨gs, o, none⟩), .int .i64 (i : Int)] W (RetPt R W (pmul (dgP i ((L.map numP).getD k (0, pzero)).1) ((L.map numP).getD k (0, pzero)).2))) := Lib.hid fun W k o i hb hk ho hi =>
    mpart_row C.base hL (by rw [hb.block gs hgl]; exact hg) (by omega) ho hi
  have HST : Hid (∀ k, k < 64 → padd (pmul 16 (hiP k (L.map numP))) (sumP (dgP (63 - k)) ((L.map numP).take n)) = hiP (k + 1) (L.map numP)) := Lib.hid fun k hk => by
    rw [List.take_of_length_le (by simp; omega)]; exact hiP_step hk _
  have HTK : Hid (∀ i m, m < n → padd (sumP (dgP i) ((L.map numP).take m)) (pmul (dgP i ((L.map numP).getD m (0, pzero)).1) ((L.map numP).getD m (0, pzero)).2) = sumP (dgP i) ((L.map numP).take (m + 1))) := Lib.hid fun i m hm => by
    have hl : m < (L.map numP).length := by simp; omega
    have e : (L.map numP).getD m (0, pzero) = (L.map numP)[m] := by simp only [List.getD, List.getElem?_eq_getElem hl, Option.getD_some]
    rw [e]
    exact sumP_take (dgP i) (L.map numP) m hl
  have HNL : Hid (n < 1000) := Lib.hid hn9
  have HP0 := Lib.hid hP0
  have HZ := Lib.hid hz
  generalize L.map numP = M at *
  clear hL hg hn hgl hP0 hPE hz hn9 L
  have hz20 : ∀ u, (zeroValue 28).run Try.prog u = .ok (.agg z20) u := zp_zero
  generalize z20 = Z at *
  have HR0 := Lib.hid ((RowsW.nil w).box Z 28)
  have HB0 := Lib.hid (below_box (Below.refl w.heap.size w) Z 28)
  go_enter Try.func41, Try.ntmps41
  go_upto_region 1 with fail
  obtain ⟨W0, hW0⟩ : ∃ W, w.alloc (.cells Z 28) = W := ⟨_, rfl⟩
  obtain ⟨g0, hg0⟩ : ∃ g, w.heap.size = g := ⟨_, rfl⟩
  rw [hW0] at HR0 HB0
  rw [hg0] at HR0
  rw [hW0]
  (try rw [hg0])
  have HG0 := Lib.hid hg0
  clear hW0 hg0
  go_wp2_with fail
  with_reducible refine (C.zero _).mono ?_
  rintro e v1 ⟨cz, rfl, rz, hb1⟩
  have RZ1 := Lib.hid rz
  have HR1 := Lib.hid (HR0.out.below hb1)
  have HB1 := Lib.hid (below_next HB0.out hb1)
  clear rz hb1 HR0 HB0
  have hzs : Z.size = 20 := pt20 C.base HZ.out
  have hcs : cz.size = 20 := pt20 C.base RZ1.out
  have h0q : (v1.alloc (.cells Z 28)).heap[v1.heap.size]? = some (.cells Z 28 (0, 0)) := heap_alloc_new _ _
  have HR2 := Lib.hid (HR1.out.new Z cz 28)
  have HB2 := Lib.hid (below_new HB1.out Z cz 28)
  have HN2 := Lib.hid HR1.out.ne
  have HG2 := Lib.hid HB1.out.size
  have RZ2 : Hid (R cz (hiP 0 M)) := Lib.hid (by rw [HP0.out]; exact RZ1.out)
  go_upto_region 2 with (refine wpList_store_row rfl 28 (.tmp 3) (.tmp 6) rfl v1.heap.size cz rfl rfl 28 Z h0q (C.base.info RZ1.out) (by rw [hzs, hcs]) (C.base.one RZ1.out) ?_)
  obtain ⟨W2, hW2⟩ : ∃ X, (v1.alloc (.cells Z 28)).setRow v1.heap.size cz = X := ⟨_, rfl⟩
  obtain ⟨gz, hgz⟩ : ∃ X, v1.heap.size = X := ⟨_, rfl⟩
  rw [hW2, hgz] at HR2
  rw [hW2] at HB2
  rw [hgz] at HN2 HG2
  rw [hW2, hgz]
  have HNE : Hid (∀ r ∈ [(g0, Z, 28)], r.1 ≠ gz) := HN2
  clear hW2 hgz h0q HR1 HB1 HN2 RZ1 hcs HP0
  have HZS := Lib.hid hzs
  clear hzs
  go_wp2_with fail
  go_loopw [4] (fun i_ wr => ∃ k : Nat, k ≤ 64 ∧ i_ = .int .i64 (63 - (k : Int)) ∧ ∃ A, Hid (R A (hiP k M)) ∧ Hid (RowsW wr [(gz, A, 28), (g0, Z, 28)]) ∧ Hid (Below w.heap.size w wr)) (fun i_ _ => (intOf i_ + 1).toNat)
  case atStart => exact ⟨0, by omega, rfl, cz, RZ2, HR2, HB2⟩
  case round =>
    clear RZ2 HR2 HB2
    obtain ⟨k, hk, rfl, A, RA, HR1, HB1⟩ := hrel
    by_cases hlt : k < 64
    · obtain ⟨i, hi⟩ : ∃ i, 63 - k = i := ⟨_, rfl⟩
      have e1 : 63 - (k : Int) = (i : Int) := by omega
      have HE2 : Hid ((i : Int) - 1 = 63 - ((k + 1 : Nat) : Int)) := Lib.hid (by omega)
      have H64 : Hid (i < 64) := Lib.hid (by omega)
      have hst := HST.out k hlt
      rw [hi] at hst
      have HS1 := Lib.hid hst
      have HKL := Lib.hid hlt
      obtain ⟨s, hs⟩ : ∃ s, hiP k M = s := ⟨_, rfl⟩
      rw [hs] at RA HS1
      have a0 : decide (0 ≤ (i : Int)) = true := decide_eq_true (by omega)
      have a1 : IntKind.i64.wrap ((i : Int) - 1) = (i : Int) - 1 := by rw [IntKind.wrap_i64]; have := H64.out; omega
      rw [e1]
      clear hi e1 hst hs hlt hk
      go_wp2_with fail
      go_loopw [11] (fun j_ wr => ∃ j : Nat, j ≤ 4 ∧ j_ = .int .i64 (j : Int) ∧ ∃ A, Hid (R A (dblP j s)) ∧ Hid (RowsW wr [(gz, A, 28), (g0, Z, 28)]) ∧ Hid (Below w.heap.size w wr)) (fun j_ _ => 4 - (intOf j_).toNat)
      case atStart => exact ⟨0, by omega, rfl, A, RA, HR1, HB1⟩
      case round =>
        clear RA HR1 HB1
        obtain ⟨j, hj, rfl, A, RA, HR1, HB1⟩ := hrel
        by_cases hlt : j < 4
        · have b0 : decide ((j : Int) < 4) = true := decide_eq_true (by omega)
          have l7 := HR1.out.head
          go_wp2_with (refine wpList_load_row rfl 28 (.tmp 3) rfl gz rfl 28 A (0, 0) _ l7 Try.underlying28 rfl (C.base.info RA.out) ?_)
          with_reducible refine (C.double RA.out _).mono ?_
          rintro e v ⟨cv, rfl, rv, hv⟩
          have RV : Hid (R cv (dblP (j + 1) s)) := Lib.hid rv
          have hrq := HR1.out.below hv
          have hst := hrq.head
          have HR3 := Lib.hid (hrq.put HNE.out cv)
          have HB3 : Hid (Below w.heap.size w (v.setRow gz cv)) := Lib.hid (below_row (below_next HB1.out hv) HG2.out)
          clear rv hv l7
          go_wp2_with (refine wpList_store_row rfl 28 (.tmp 3) (.tmp 14) rfl gz cv rfl rfl 28 A hst (C.base.info RV.out) (by rw [pt20 C.base RA.out, pt20 C.base RV.out]) (C.base.one RV.out) ?_)
          go_roundw
          case rel => exact ⟨j + 1, by omega, by go_num, cv, RV, HR3, HB3⟩
          case measure => simp [intOf] <;> omega
        · have b0 : decide ((j : Int) < 4) = false := decide_eq_false (by omega)
          have RA2 : Hid (R A (padd (pmul 16 s) (sumP (dgP i) (M.take 0)))) := Lib.hid (by
            have h := RA.out
            rw [show j = 4 by omega, dblP_pmul] at h
            rw [List.take_zero, sumP, padd_z]; exact h)
          clear RA hlt hj
          go_wp2_with fail
          go_loopw [18] (fun m_ wr => ∃ m : Nat, m ≤ n ∧ m_ = .int .i64 (m : Int) ∧ ∃ A, Hid (R A (padd (pmul 16 s) (sumP (dgP i) (M.take m)))) ∧ Hid (RowsW wr [(gz, A, 28), (g0, Z, 28)]) ∧ Hid (Below w.heap.size w wr)) (fun m_ _ => n - (intOf m_).toNat)
          case atStart => exact ⟨0, by omega, rfl, A, RA2, HR1, HB1⟩
          case round =>
            clear RA2 HR1 HB1
            obtain ⟨m, hm, rfl, A, RA, HR1, HB1⟩ := hrel
            by_cases hlt : m < n
            · have b1 : decide ((m : Int) < (n : Int)) = true := decide_eq_true (by omega)
              have b2 : decide (m < n) = true := decide_eq_true hlt
              have b3 : 0 ≤ (m : Int) := by omega
              have b5 : IntKind.i64.wrap ((m : Int) + 1) = (m : Int) + 1 := by rw [IntKind.wrap_i64]; have := HNL.out; omega
              have b4 : (m : Int) < (n : Int) := by omega
              go_upto_region 12 with fail
              rename_i K5 hK5
              refine wp_region_noPanic ?_
              refine wp_region_held_tail (S := fun W => Below wr.heap.size wr W) 7 (by kernel_rfl) ⟨by kernel_rfl, by kernel_rfl, by kernel_rfl, by kernel_rfl⟩ (by exact (Below.refl _ _).drew) (fun hT inv hS => ?_)
              refine' take_atT 0 hT inv rfl (by omega) (by kernel_rfl) (by kernel_rfl) (fun _ _ _ h => h) (by rfl) hS ?_ ?_ ?_
              rotate_left 2
              · intro W hSW; exact run_loadR rfl rfl (HR1.out.below hSW).head Try.underlying28 rfl (C.base.info RA.out)
              · simp only [List.set_cons_succ, List.set_cons_zero]; rfl
              intro inv
              refine' take_atT 1 hT inv rfl (by omega) (by kernel_rfl) (by kernel_rfl) (fun _ _ _ h => h) (by rfl) hS ?_ ?_ ?_
              rotate_left 2
              · intro W hSW; go_simp; try with_reducible rfl
              · simp only [List.set_cons_succ, List.set_cons_zero]; rfl
              intro inv
              refine' take_atT 2 hT inv rfl (by omega) (by kernel_rfl) (by kernel_rfl) (fun _ _ _ h => h) (by rfl) hS ?_ ?_ ?_
              rotate_left 2
              · intro W hSW; go_simp; try with_reducible rfl
              · simp only [List.set_cons_succ, List.set_cons_zero]; rfl
              intro inv
              refine' take_atT 3 hT inv rfl (by omega) (by kernel_rfl) (by kernel_rfl) (fun _ _ _ h => h) (by rfl) hS ?_ ?_ ?_
              rotate_left 2
              · intro W hSW; go_simp; try with_reducible rfl
              · simp only [List.set_cons_succ, List.set_cons_zero]; rfl
              intro inv
              refine' take_atT 4 hT inv rfl (by omega) (by kernel_rfl) (by kernel_rfl) (fun _ _ _ h => h) (by rfl) hS ?_ ?_ ?_
              rotate_left 2
              · intro W hSW; go_simp; try with_reducible rfl
              · simp only [List.set_cons_succ, List.set_cons_zero]; rfl
              intro inv
              refine call_atT 5 inv rfl (by omega) (by kernel_rfl) (by rfl) (fun K hK => ?_)
              go_simp
              with_reducible refine (HPA.out _ m _ i (below_then HB1.out hS) hlt rfl H64.out).mono ?_
              rintro e v5 ⟨c5, rfl, r5, hv5⟩
              have R5 := Lib.hid r5
              clear r5
              have hb5 := below_next hS hv5
              clear hS hv5
              refine hK.out _ _ (by exact hb5) (fun inv hS => ?_)
              clear hK K
              refine call_atT 6 inv rfl (by omega) (by kernel_rfl) (by rfl) (fun K hK => ?_)
              go_simp
              with_reducible refine ((C.add RA.out R5.out) _).mono ?_
              rintro e v6 ⟨c6, rfl, r6, hv6⟩
              rw [padd_assoc, HTK.out i m hlt] at r6
              have R6 := Lib.hid r6
              clear r6
              have hb6 := below_next hS hv6
              clear hS hv6
              refine hK.out _ _ (by exact hb6) (fun inv hS => ?_)
              clear hK K
              refine done_atT (by kernel_rfl) ?_
              simp only [List.drop_succ_cons, List.drop_zero]
              have hrq := HR1.out.below hb6
              have hst := hrq.head
              have HR3 := Lib.hid (hrq.put HNE.out c6)
              have HB3 : Hid (Below w.heap.size w (v6.setRow gz c6)) := Lib.hid (below_row (below_then HB1.out hb6) HG2.out)
              go_wp2_with (refine wpList_store_row rfl 28 (.tmp 3) (.tmp 27) rfl gz c6 rfl rfl 28 A hst (C.base.info R6.out) (by rw [pt20 C.base RA.out, pt20 C.base R6.out]) (C.base.one R6.out) ?_)
              refine hK5 _ _ ?_
              go_wp2_with fail
              go_roundw
              case rel => exact ⟨m + 1, by omega, by go_num, c6, R6, HR3, HB3⟩
              case measure => simp [intOf] <;> omega
            · have b1 : decide ((m : Int) < (n : Int)) = false := decide_eq_false (by omega)
              have b2 : decide (m < n) = false := decide_eq_false hlt
              have RN : Hid (R A (hiP (k + 1) M)) := Lib.hid (by
                have h := RA.out
                rw [show m = n by omega, HS1.out] at h; exact h)
              clear RA hlt hm
              go_wp2_with fail
              go_roundw
              case rel => exact ⟨k + 1, by have := HKL.out; omega, by rw [← HE2.out], A, RN, HR1, HB1⟩
              case measure => simp [intOf] <;> omega
    · have a0 : decide (0 ≤ 63 - (k : Int)) = false := decide_eq_false (by omega)
      have a1 : decide ((k : Int) ≤ 63) = false := decide_eq_false (by omega)
      have RN : Hid (R A (hiP 64 M)) := Lib.hid (by
        have h := RA.out
        rw [show k = 64 by omega] at h; exact h)
      have hr0 := HR1.out.head
      have hr1 := HR1.out.tail.head
      have hf : (wr.setRow g0 A).heap[g0]? = some (.cells A 28 (0, 0)) := setRow_heap _ _ _ _ _ _ hr1
      have HF := Lib.hid hf
      have HB3 : Hid (Below w.heap.size w (wr.setRow g0 A)) := Lib.hid (below_row HB1.out (by have := HG0.out; omega))
      clear hlt hk RA hf
      go_wp2_with (first
        | (refine wpList_load_row rfl 28 (.tmp 3) rfl gz rfl 28 A (0, 0) _ hr0 Try.underlying28 rfl (C.base.info RN.out) ?_)
        | (refine wpList_store_row rfl 28 (.tmp 2) (.tmp 29) rfl g0 A rfl rfl 28 Z hr1 (C.base.info RN.out) (by rw [HZS.out, pt20 C.base RN.out]) (C.base.one RN.out) ?_))
      (try simp only [Exit.inBlock, Exit.then])
      refine bodyPost_ret (results_cell_row rfl _ _ g0 _ A _ _ rfl HF.out Try.underlying28 rfl (C.base.info RN.out)) rfl ?_
      exact ⟨A, rfl, RN.out, HB3.out⟩
end Go.Proofs.Ytfejabfmhddepaa

namespace Go.Proofs.Ytfejabfmhddepaa
open Go.RowKit
set_option linter.unusedVariables false
set_option maxRecDepth 100000
set_option maxHeartbeats 1600000 in
theorem ptd_any {R : Array Value → Nat → Prop} (C : FeC R)  (w : World) : Calls Try.prog 55 #[] w (RetFe R w edN) := by
  obtain ⟨Z, hZ, rZ⟩ := C.base.zero
  have RZZ := Lib.hid rZ
  have hzP := zp_of hZ
  have hz32 := zero32_zero
  clear rZ
  have HR0 := Lib.hid ((RowsW.nil w).box Z 26)
  have HB0 := Lib.hid (below_box (Below.refl w.heap.size w) Z 26)
  go_enter Try.func55, Try.ntmps55
  go_upto_region 1 with fail
  obtain ⟨W0, hW0⟩ : ∃ W, (w.alloc (.cells Z 26)) = W := ⟨_, rfl⟩
  obtain ⟨g0, hg0⟩ : ∃ g, w.heap.size = g := ⟨_, rfl⟩
  rw [hW0] at HR0 HB0
  rw [hg0] at HR0
  rw [hW0, hg0]
  have HG0 := Lib.hid hg0
  clear hW0 hg0
  go_wp2_with (refine wpList_runs (o := ⟨some 1, _, _, _, _, _⟩) rfl (.agg (arrB bD)) ?_ ?_; kernel_rfl)
  have fb2 : ∀ W : World, Calls Try.prog 65 #[.agg (arrB bD)] W (RetFe R W edN) := fun W => by have h := C.from_ bD bD_len W; rw [bD_fe] at h; exact h
  with_reducible refine (fb2 _).mono ?_
  rintro e vq1 ⟨cq1, rfl, rq1, hbq1⟩
  have Rq1 := Lib.hid rq1
  clear rq1
  have HRq1 := Lib.hid (HR0.out.below hbq1)
  have HBq1 := Lib.hid (below_next HB0.out hbq1)
  clear hbq1
  have lsq2 := HRq1.out.head
  have HRq2 : Hid (RowsW (vq1.setRow g0 cq1) [(g0, cq1, 26)]) := Lib.hid ⟨setRow_heap _ _ _ _ _ _ lsq2, trivial⟩
  have HBq2 := Lib.hid (below_row (g := g0) (cs := cq1) HBq1.out (by have := HG0.out; omega))
  go_wp2_with (refine wpList_store_row rfl 26 (.tmp 0) (.tmp 2) rfl g0 cq1 rfl rfl 26 Z lsq2 (C.base.info Rq1.out) (C.base.size RZZ.out Rq1.out) (C.base.one Rq1.out) ?_)
  obtain ⟨Wq2, hWq2⟩ : ∃ W, vq1.setRow g0 cq1 = W := ⟨_, rfl⟩
  rw [hWq2] at HRq2 HBq2
  (try rw [hWq2])
  clear hWq2 lsq2
  (try simp only [Exit.inBlock, Exit.then])
  refine bodyPost_ret (results_cell_row rfl _ _ g0 _ cq1 _ _ rfl HRq2.out.head Try.underlying26 rfl (C.base.info Rq1.out)) rfl ?_
  exact ⟨_, rfl, Rq1.out, HBq2.out⟩
set_option maxHeartbeats 1600000 in
theorem ptof_any {R : Array Value → Nat → Prop} (C : FeC R) {c : Array Value} {x : Nat} (hc : R c x) {e : Array Value} {y : Nat} (he : R e y) (w : World) : Calls Try.prog 58 #[.agg c, .agg e] w (RetPP R w x y 1 ((x * y) % PP)) := by
  have Rc := Lib.hid hc
  clear hc
  have Lx : Hid (x < PP) := Lib.hid (C.base.lt Rc.out)
  have Re := Lib.hid he
  clear he
  have Ly : Hid (y < PP) := Lib.hid (C.base.lt Re.out)
  obtain ⟨Z, hZ, rZ⟩ := C.base.zero
  have RZZ := Lib.hid rZ
  have hzP := zp_of hZ
  have hz32 := zero32_zero
  clear rZ
  have HR0 := Lib.hid ((((RowsW.nil w).box c 26).box e 26).box (quad Z Z Z Z) 28)
  have HB0 := Lib.hid (below_box (below_box (below_box (Below.refl w.heap.size w) c 26) e 26) (quad Z Z Z Z) 28)
  rw [World.size_alloc] at HR0
  rw [World.size_alloc] at HR0
  go_enter Try.func58, Try.ntmps58
  go_upto_region 1 with fail
  obtain ⟨W0, hW0⟩ : ∃ W, (((w.alloc (.cells c 26)).alloc (.cells e 26)).alloc (.cells (quad Z Z Z Z) 28)) = W := ⟨_, rfl⟩
  obtain ⟨g0, hg0⟩ : ∃ g, w.heap.size = g := ⟨_, rfl⟩
  rw [hW0] at HR0 HB0
  rw [hg0] at HR0
  rw [hW0, hg0]
  have HG0 := Lib.hid hg0
  clear hW0 hg0
  refine wp_region_noPanic ?_
  refine wp_region_held_tail (S := fun W => Below W0.heap.size W0 W) 7 (by kernel_rfl) ⟨by kernel_rfl, by kernel_rfl, by kernel_rfl, by kernel_rfl⟩ (by exact (Below.refl _ _).drew) (fun hT inv hS => ?_)
  refine' take_atT 0 hT inv rfl (by omega) (by kernel_rfl) (by kernel_rfl) (fun _ _ _ h => h) (by rfl) hS ?_ ?_ ?_
  rotate_left 2
  · intro W hSW; exact run_loadR rfl rfl (HR0.out.below hSW).tail.tail.head Try.underlying26 rfl (C.base.info Rc.out)
  · simp only [List.set_cons_succ, List.set_cons_zero]; rfl
  intro inv
  refine' take_atT 1 hT inv rfl (by omega) (by kernel_rfl) (by kernel_rfl) (fun _ _ _ h => h) (by rfl) hS ?_ ?_ ?_
  rotate_left 2
  · intro W hSW; exact run_loadR rfl rfl (HR0.out.below hSW).tail.head Try.underlying26 rfl (C.base.info Re.out)
  · simp only [List.set_cons_succ, List.set_cons_zero]; rfl
  intro inv
  refine' take_atT 3 hT inv rfl (by omega) (by kernel_rfl) (by kernel_rfl) (fun _ _ _ h => h) (by rfl) hS ?_ ?_ ?_
  rotate_left 2
  · intro W hSW; exact run_loadR rfl rfl (HR0.out.below hSW).tail.tail.head Try.underlying26 rfl (C.base.info Rc.out)
  · simp only [List.set_cons_succ, List.set_cons_zero]; rfl
  intro inv
  refine' take_atT 4 hT inv rfl (by omega) (by kernel_rfl) (by kernel_rfl) (fun _ _ _ h => h) (by rfl) hS ?_ ?_ ?_
  rotate_left 2
  · intro W hSW; exact run_loadR rfl rfl (HR0.out.below hSW).tail.head Try.underlying26 rfl (C.base.info Re.out)
  · simp only [List.set_cons_succ, List.set_cons_zero]; rfl
  intro inv
  refine call_atT 2 inv rfl (by omega) (by kernel_rfl) (by rfl) (fun K hK => ?_)
  go_simp
  have s7_1 : ∀ W : World, Calls Try.prog 59 #[.int .u64 1] W (RetFe R W 1) := fun W => C.small 1 (by decide) W
  with_reducible refine (s7_1 _).mono ?_
  rintro e vq1 ⟨cq1, rfl, rq1, hbq1⟩
  have Rq1 := Lib.hid rq1
  clear rq1
  have kbq1 := below_next hS hbq1
  clear hS hbq1
  refine hK.out _ _ (by exact kbq1) (fun inv hS => ?_)
  clear hK K
  refine call_atT 5 inv rfl (by omega) (by kernel_rfl) (by rfl) (fun K hK => ?_)
  go_simp
  obtain ⟨n2, hn2⟩ : ∃ x_ : Nat, (x * y) % PP = x_ := ⟨_, rfl⟩
  have Hn2 := Lib.hid hn2
  have HLn2 : Hid (n2 < PP) := Lib.hid (by rw [← hn2]; exact Nat.mod_lt _ (by decide))
  clear hn2
  with_reducible refine ((C.mul Rc.out Re.out) _).mono ?_
  rintro e vq3 ⟨cq3, rfl, rq3, hbq3⟩
  rw [Hn2.out] at rq3
  have Rq3 := Lib.hid rq3
  clear rq3
  have kbq3 := below_next kbq1 hbq3
  clear hS hbq3
  refine hK.out _ _ (by exact kbq3) (fun inv hS => ?_)
  clear hK K
  refine' take_atT 6 hT inv rfl (by omega) (by kernel_rfl) (by kernel_rfl) (fun _ _ _ h => h) (by rfl) hS ?_ ?_ ?_
  rotate_left 2
  · intro W hSW; exact run_buildF4 rfl rfl rfl rfl rfl (fe5 C.base Rc.out) (fe5 C.base Re.out) (fe5 C.base Rq1.out) (fe5 C.base Rq3.out)
  · simp only [List.set_cons_succ, List.set_cons_zero]; rfl
  intro inv
  refine done_atT (by kernel_rfl) ?_
  simp only [List.drop_succ_cons, List.drop_zero]
  clear hS
  (try simp only [Act.put])
  have HRq4 := Lib.hid (HR0.out.below kbq3)
  have HBq4 := Lib.hid (below_next HB0.out kbq3)
  have lsq5 := HRq4.out.head
  have HRq5 : Hid (RowsW (vq3.setRow (g0 + 1 + 1) (quad c e cq1 cq3)) [((g0 + 1 + 1), (quad c e cq1 cq3), 28), ((g0 + 1), e, 26), (g0, c, 26)]) := Lib.hid ⟨setRow_heap _ _ _ _ _ _ lsq5, (by rw [setRow_other _ _ _ _ (by omega)]; exact HRq4.out.tail.head), (by rw [setRow_other _ _ _ _ (by omega)]; exact HRq4.out.tail.tail.head), trivial⟩
  have HBq5 := Lib.hid (below_row (g := (g0 + 1 + 1)) (cs := (quad c e cq1 cq3)) HBq4.out (by have := HG0.out; omega))
  go_wp2_with (refine wpList_store_row rfl 28 (.tmp 4) (.tmp 11) rfl (g0 + 1 + 1) (quad c e cq1 cq3) rfl rfl 28 (quad Z Z Z Z) lsq5 (pp_info C.base Rc.out Re.out Rq1.out Rq3.out) ((pp_size C.base RZZ.out RZZ.out RZZ.out RZZ.out).trans (pp_size C.base Rc.out Re.out Rq1.out Rq3.out).symm) (pp_one C.base Rc.out Re.out Rq1.out Rq3.out) ?_)
  obtain ⟨Wq5, hWq5⟩ : ∃ W, vq3.setRow (g0 + 1 + 1) (quad c e cq1 cq3) = W := ⟨_, rfl⟩
  rw [hWq5] at HRq5 HBq5
  (try rw [hWq5])
  clear hWq5 lsq5
  refine NoPanic.normal ?_
  go_wp2_with fail
  (try simp only [Exit.inBlock, Exit.then])
  refine bodyPost_ret (results_cell_row rfl _ _ (g0 + 1 + 1) _ (quad c e cq1 cq3) _ _ rfl HRq5.out.head Try.underlying28 rfl (pp_info C.base Rc.out Re.out Rq1.out Rq3.out)) rfl ?_
  exact ⟨_, _, _, _, rfl, Rc.out, Re.out, Rq1.out, by rw [Hn2.out]; exact Rq3.out, HBq5.out⟩
set_option maxHeartbeats 1600000 in
theorem ptzero_any {R : Array Value → Nat → Prop} (C : FeC R)  (w : World) : Calls Try.prog 22 #[] w (RetPP R w 0 1 1 0) := by
  obtain ⟨Z, hZ, rZ⟩ := C.base.zero
  have RZZ := Lib.hid rZ
  have hzP := zp_of hZ
  have hz32 := zero32_zero
  clear rZ
  have HR0 := Lib.hid ((RowsW.nil w).box (quad Z Z Z Z) 28)
  have HB0 := Lib.hid (below_box (Below.refl w.heap.size w) (quad Z Z Z Z) 28)
  go_enter Try.func22, Try.ntmps22
  go_upto_region 1 with fail
  obtain ⟨W0, hW0⟩ : ∃ W, (w.alloc (.cells (quad Z Z Z Z) 28)) = W := ⟨_, rfl⟩
  obtain ⟨g0, hg0⟩ : ∃ g, w.heap.size = g := ⟨_, rfl⟩
  rw [hW0] at HR0 HB0
  rw [hg0] at HR0
  rw [hW0, hg0]
  have HG0 := Lib.hid hg0
  clear hW0 hg0
  go_wp2_with (refine wpList_runsV (o := ⟨some 1, _, _, _, _, _⟩) rfl (.agg Z) (run_build5 hZ rfl) ?_)
  have s2_1 : ∀ W : World, Calls Try.prog 59 #[.int .u64 1] W (RetFe R W 1) := fun W => C.small 1 (by decide) W
  with_reducible refine (s2_1 _).mono ?_
  rintro e vq1 ⟨cq1, rfl, rq1, hbq1⟩
  have Rq1 := Lib.hid rq1
  clear rq1
  have HRq1 := Lib.hid (HR0.out.below hbq1)
  have HBq1 := Lib.hid (below_next HB0.out hbq1)
  clear hbq1
  go_wp2_with fail
  obtain ⟨n2, hn2⟩ : ∃ x_ : Nat, (0 * 1) % PP = x_ := ⟨_, rfl⟩
  have Hn2 := Lib.hid hn2
  have HLn2 : Hid (n2 < PP) := Lib.hid (by rw [← hn2]; exact Nat.mod_lt _ (by decide))
  clear hn2
  have kq3 := fun W : World => (ptof_any C RZZ.out Rq1.out) W
  rw [Hn2.out] at kq3
  have Kq3 := Lib.hid kq3
  clear kq3
  with_reducible refine (Kq3.out _).mono ?_
  rintro e vq3 ⟨aq3, bq3, dq3, fq3, rfl, hRaq3, hRbq3, hRdq3, hRfq3, hbq3⟩
  have Raq3 := Lib.hid hRaq3
  have Rbq3 := Lib.hid hRbq3
  have Rdq3 := Lib.hid hRdq3
  have Rfq3 := Lib.hid hRfq3
  clear hRaq3 hRbq3 hRdq3 hRfq3
  have HRq3 := Lib.hid (HRq1.out.below hbq3)
  have HBq3 := Lib.hid (below_next HBq1.out hbq3)
  clear hbq3
  have lsq4 := HRq3.out.head
  have HRq4 : Hid (RowsW (vq3.setRow g0 (quad aq3 bq3 dq3 fq3)) [(g0, (quad aq3 bq3 dq3 fq3), 28)]) := Lib.hid ⟨setRow_heap _ _ _ _ _ _ lsq4, trivial⟩
  have HBq4 := Lib.hid (below_row (g := g0) (cs := (quad aq3 bq3 dq3 fq3)) HBq3.out (by have := HG0.out; omega))
  go_wp2_with (refine wpList_store_row rfl 28 (.tmp 0) (.tmp 3) rfl g0 (quad aq3 bq3 dq3 fq3) rfl rfl 28 (quad Z Z Z Z) lsq4 (pp_info C.base Raq3.out Rbq3.out Rdq3.out Rfq3.out) ((pp_size C.base RZZ.out RZZ.out RZZ.out RZZ.out).trans (pp_size C.base Raq3.out Rbq3.out Rdq3.out Rfq3.out).symm) (pp_one C.base Raq3.out Rbq3.out Rdq3.out Rfq3.out) ?_)
  obtain ⟨Wq4, hWq4⟩ : ∃ W, vq3.setRow g0 (quad aq3 bq3 dq3 fq3) = W := ⟨_, rfl⟩
  rw [hWq4] at HRq4 HBq4
  (try rw [hWq4])
  clear hWq4 lsq4
  (try simp only [Exit.inBlock, Exit.then])
  refine bodyPost_ret (results_cell_row rfl _ _ g0 _ (quad aq3 bq3 dq3 fq3) _ _ rfl HRq4.out.head Try.underlying28 rfl (pp_info C.base Raq3.out Rbq3.out Rdq3.out Rfq3.out)) rfl ?_
  exact ⟨_, _, _, _, rfl, Raq3.out, Rbq3.out, Rdq3.out, by have h := Rfq3.out; rwa [← Hn2.out, Nat.zero_mul, Nat.zero_mod] at h, HBq4.out⟩
set_option maxHeartbeats 1600000 in
theorem ptbase_any {R : Array Value → Nat → Prop} (C : FeC R)  (w : World) : Calls Try.prog 27 #[] w (RetPt (ptRof R) w F25519.base) := by
  obtain ⟨Z, hZ, rZ⟩ := C.base.zero
  have RZZ := Lib.hid rZ
  have hzP := zp_of hZ
  have hz32 := zero32_zero
  clear rZ
  have HR0 := Lib.hid ((RowsW.nil w).box (quad Z Z Z Z) 28)
  have HB0 := Lib.hid (below_box (Below.refl w.heap.size w) (quad Z Z Z Z) 28)
  go_enter Try.func27, Try.ntmps27
  go_upto_region 1 with fail
  obtain ⟨W0, hW0⟩ : ∃ W, (w.alloc (.cells (quad Z Z Z Z) 28)) = W := ⟨_, rfl⟩
  obtain ⟨g0, hg0⟩ : ∃ g, w.heap.size = g := ⟨_, rfl⟩
  rw [hW0] at HR0 HB0
  rw [hg0] at HR0
  rw [hW0, hg0]
  have HG0 := Lib.hid hg0
  clear hW0 hg0
  go_wp2_with (refine wpList_runs (o := ⟨some 3, _, _, _, _, _⟩) rfl (.agg (arrB bBX)) ?_ ?_; kernel_rfl)
  have fb4 : ∀ W : World, Calls Try.prog 65 #[.agg (arrB bBX)] W (RetFe R W F25519.bX) := fun W => by have h := C.from_ bBX bBX_len W; rw [bBX_fe] at h; exact h
  with_reducible refine (fb4 _).mono ?_
  rintro e vq1 ⟨cq1, rfl, rq1, hbq1⟩
  have Rq1 := Lib.hid rq1
  clear rq1
  have HRq1 := Lib.hid (HR0.out.below hbq1)
  have HBq1 := Lib.hid (below_next HB0.out hbq1)
  clear hbq1
  have h0q2 : (vq1.alloc (.cells Z 26)).heap[vq1.heap.size]? = some (.cells Z 26 (0, 0)) := heap_alloc_new _ _
  have HRq2 := Lib.hid (HRq1.out.new Z cq1 26)
  have HBq2 := Lib.hid (below_new HBq1.out Z cq1 26)
  have HNq2 := Lib.hid HRq1.out.ne
  have HGq2 := Lib.hid HBq1.out.size
  go_upto_region 2 with (refine wpList_store_row rfl 26 (.tmp 1) (.tmp 4) rfl vq1.heap.size cq1 rfl rfl 26 Z h0q2 (C.base.info Rq1.out) (C.base.size RZZ.out Rq1.out) (C.base.one Rq1.out) ?_)
  obtain ⟨Wq2, hWq2⟩ : ∃ W, (vq1.alloc (.cells Z 26)).setRow vq1.heap.size cq1 = W := ⟨_, rfl⟩
  obtain ⟨gq2, hgq2⟩ : ∃ g, vq1.heap.size = g := ⟨_, rfl⟩
  rw [hWq2, hgq2] at HRq2
  rw [hWq2] at HBq2
  rw [hgq2] at HNq2 HGq2
  rw [hWq2, hgq2]
  clear hWq2 hgq2 h0q2
  have NEq2_0 : Hid (g0 ≠ gq2) := Lib.hid (HNq2.out (g0, (quad Z Z Z Z), 28) (by simp))
  go_wp2_with (refine wpList_runs (o := ⟨some 5, _, _, _, _, _⟩) rfl (.agg (arrB bBY)) ?_ ?_; kernel_rfl)
  have fb6 : ∀ W : World, Calls Try.prog 65 #[.agg (arrB bBY)] W (RetFe R W F25519.bY) := fun W => by have h := C.from_ bBY bBY_len W; rw [bBY_fe] at h; exact h
  with_reducible refine (fb6 _).mono ?_
  rintro e vq3 ⟨cq3, rfl, rq3, hbq3⟩
  have Rq3 := Lib.hid rq3
  clear rq3
  have HRq3 := Lib.hid (HRq2.out.below hbq3)
  have HBq3 := Lib.hid (below_next HBq2.out hbq3)
  clear hbq3
  have h0q4 : (vq3.alloc (.cells Z 26)).heap[vq3.heap.size]? = some (.cells Z 26 (0, 0)) := heap_alloc_new _ _
  have HRq4 := Lib.hid (HRq3.out.new Z cq3 26)
  have HBq4 := Lib.hid (below_new HBq3.out Z cq3 26)
  have HNq4 := Lib.hid HRq3.out.ne
  have HGq4 := Lib.hid HBq3.out.size
  go_upto_region 3 with (refine wpList_store_row rfl 26 (.tmp 2) (.tmp 6) rfl vq3.heap.size cq3 rfl rfl 26 Z h0q4 (C.base.info Rq3.out) (C.base.size RZZ.out Rq3.out) (C.base.one Rq3.out) ?_)
  obtain ⟨Wq4, hWq4⟩ : ∃ W, (vq3.alloc (.cells Z 26)).setRow vq3.heap.size cq3 = W := ⟨_, rfl⟩
  obtain ⟨gq4, hgq4⟩ : ∃ g, vq3.heap.size = g := ⟨_, rfl⟩
  rw [hWq4, hgq4] at HRq4
  rw [hWq4] at HBq4
  rw [hgq4] at HNq4 HGq4
  rw [hWq4, hgq4]
  clear hWq4 hgq4 h0q4
  have NEq4_0 : Hid (g0 ≠ gq4) := Lib.hid (HNq4.out (g0, (quad Z Z Z Z), 28) (by simp))
  have NEq4_1 : Hid (gq2 ≠ gq4) := Lib.hid (HNq4.out (gq2, cq1, 26) (by simp))
  have l5 := HRq4.out.tail.head
  have l6 := HRq4.out.head
  go_wp2_with (first
      | (refine wpList_load_row rfl 26 (.tmp 1) rfl gq2 rfl 26 cq1 (0, 0) _ l5 Try.underlying26 rfl (C.base.info Rq1.out) ?_)
      | (refine wpList_load_row rfl 26 (.tmp 2) rfl gq4 rfl 26 cq3 (0, 0) _ l6 Try.underlying26 rfl (C.base.info Rq3.out) ?_))
  obtain ⟨n7, hn7⟩ : ∃ x_ : Nat, (F25519.bX * F25519.bY) % PP = x_ := ⟨_, rfl⟩
  have Hn7 := Lib.hid hn7
  have HLn7 : Hid (n7 < PP) := Lib.hid (by rw [← hn7]; exact Nat.mod_lt _ (by decide))
  clear hn7
  have kq8 := fun W : World => (ptof_any C Rq1.out Rq3.out) W
  rw [Hn7.out] at kq8
  have Kq8 := Lib.hid kq8
  clear kq8
  with_reducible refine (Kq8.out _).mono ?_
  rintro e vq8 ⟨aq8, bq8, dq8, fq8, rfl, hRaq8, hRbq8, hRdq8, hRfq8, hbq8⟩
  have Raq8 := Lib.hid hRaq8
  have Rbq8 := Lib.hid hRbq8
  have Rdq8 := Lib.hid hRdq8
  have Rfq8 := Lib.hid hRfq8
  clear hRaq8 hRbq8 hRdq8 hRfq8
  have HRq8 := Lib.hid (HRq4.out.below hbq8)
  have HBq8 := Lib.hid (below_next HBq4.out hbq8)
  clear hbq8
  have lsq9 := HRq8.out.tail.tail.head
  have HRq9 : Hid (RowsW (vq8.setRow g0 (quad aq8 bq8 dq8 fq8)) [(gq4, cq3, 26), (gq2, cq1, 26), (g0, (quad aq8 bq8 dq8 fq8), 28)]) := Lib.hid ⟨(by rw [setRow_other _ _ _ _ (Ne.symm NEq4_0.out)]; exact HRq8.out.head), (by rw [setRow_other _ _ _ _ (Ne.symm NEq2_0.out)]; exact HRq8.out.tail.head), setRow_heap _ _ _ _ _ _ lsq9, trivial⟩
  have HBq9 := Lib.hid (below_row (g := g0) (cs := (quad aq8 bq8 dq8 fq8)) HBq8.out (by have := HG0.out; omega))
  go_wp2_with (refine wpList_store_row rfl 28 (.tmp 0) (.tmp 9) rfl g0 (quad aq8 bq8 dq8 fq8) rfl rfl 28 (quad Z Z Z Z) lsq9 (pp_info C.base Raq8.out Rbq8.out Rdq8.out Rfq8.out) ((pp_size C.base RZZ.out RZZ.out RZZ.out RZZ.out).trans (pp_size C.base Raq8.out Rbq8.out Rdq8.out Rfq8.out).symm) (pp_one C.base Raq8.out Rbq8.out Rdq8.out Rfq8.out) ?_)
  obtain ⟨Wq9, hWq9⟩ : ∃ W, vq8.setRow g0 (quad aq8 bq8 dq8 fq8) = W := ⟨_, rfl⟩
  rw [hWq9] at HRq9 HBq9
  (try rw [hWq9])
  clear hWq9 lsq9
  (try simp only [Exit.inBlock, Exit.then])
  refine bodyPost_ret (results_cell_row rfl _ _ g0 _ (quad aq8 bq8 dq8 fq8) _ _ rfl HRq9.out.tail.tail.head Try.underlying28 rfl (pp_info C.base Raq8.out Rbq8.out Rdq8.out Rfq8.out)) rfl ?_
  exact ⟨_, rfl, ⟨_, _, _, _, _, _, _, _, rfl, Raq8.out, Rbq8.out, Rdq8.out, Rfq8.out, .inl (by rw [← Hn7.out]; exact base_co)⟩, HBq9.out⟩
set_option maxHeartbeats 1600000 in
theorem ptfilled_any {R : Array Value → Nat → Prop} (C : FeC R) {a1 b1 d1 f1 : Array Value} {X1 Y1 Z1 T1 : Nat} {p1 : PtD} (ha1 : R a1 X1) (hb1 : R b1 Y1) (hd1 : R d1 Z1) (hf1 : R f1 T1) (hP1 : Pq X1 Y1 Z1 T1 p1) (w : World) : Calls Try.prog 36 #[.agg (quad a1 b1 d1 f1)] w (RetCo R w p1) := by
  have Ra1 := Lib.hid ha1
  have Rb1 := Lib.hid hb1
  have Rd1 := Lib.hid hd1
  have Rf1 := Lib.hid hf1
  clear ha1 hb1 hd1 hf1
  have LX1 : Hid (X1 < PP) := Lib.hid (C.base.lt Ra1.out)
  have LY1 : Hid (Y1 < PP) := Lib.hid (C.base.lt Rb1.out)
  have LZ1 : Hid (Z1 < PP) := Lib.hid (C.base.lt Rd1.out)
  have LT1 : Hid (T1 < PP) := Lib.hid (C.base.lt Rf1.out)
  have HP1 := Lib.hid hP1
  clear hP1
  obtain ⟨Z, hZ, rZ⟩ := C.base.zero
  have RZZ := Lib.hid rZ
  have hzP := zp_of hZ
  have hz32 := zero32_zero
  clear rZ
  have HR0 := Lib.hid (((RowsW.nil w).box (quad a1 b1 d1 f1) 28).box (quad Z Z Z Z) 28)
  have HB0 := Lib.hid (below_box (below_box (Below.refl w.heap.size w) (quad a1 b1 d1 f1) 28) (quad Z Z Z Z) 28)
  rw [World.size_alloc] at HR0
  go_enter Try.func36, Try.ntmps36
  go_upto_region 1 with fail
  obtain ⟨W0, hW0⟩ : ∃ W, ((w.alloc (.cells (quad a1 b1 d1 f1) 28)).alloc (.cells (quad Z Z Z Z) 28)) = W := ⟨_, rfl⟩
  obtain ⟨g0, hg0⟩ : ∃ g, w.heap.size = g := ⟨_, rfl⟩
  rw [hW0] at HR0 HB0
  rw [hg0] at HR0
  rw [hW0, hg0]
  have HG0 := Lib.hid hg0
  clear hW0 hg0
  by_cases hz : Z1 = 0
  · have HZ := Lib.hid hz
    clear hz
    have l1 := HR0.out.tail.head
    go_wp2_with (refine wpList_runsV (o := ⟨some 4, _, _, _, _, _⟩) rfl (.agg d1) (run_loadP rfl rfl l1 Try.underlying26 rfl (C.base.info Rd1.out) (pp_2 (fe5 C.base Ra1.out) (fe5 C.base Rb1.out))) ?_)
    have kq2 := fun W : World => (C.isZero Rd1.out) W
    rw [decide_eq_true (show Z1 = 0 from HZ.out)] at kq2
    have Kq2 := Lib.hid kq2
    clear kq2
    with_reducible refine (Kq2.out _).mono ?_
    rintro e vq2 ⟨rfl, hbq2⟩
    have HRq2 := Lib.hid (HR0.out.below hbq2)
    have HBq2 := Lib.hid (below_next HB0.out hbq2)
    clear hbq2
    go_upto_region 2 with fail
    go_wp2_with fail
    have kq3 := fun W : World => (ptzero_any C) W
    have Kq3 := Lib.hid kq3
    clear kq3
    with_reducible refine (Kq3.out _).mono ?_
    rintro e vq3 ⟨aq3, bq3, dq3, fq3, rfl, hRaq3, hRbq3, hRdq3, hRfq3, hbq3⟩
    have Raq3 := Lib.hid hRaq3
    have Rbq3 := Lib.hid hRbq3
    have Rdq3 := Lib.hid hRdq3
    have Rfq3 := Lib.hid hRfq3
    clear hRaq3 hRbq3 hRdq3 hRfq3
    have HRq3 := Lib.hid (HRq2.out.below hbq3)
    have HBq3 := Lib.hid (below_next HBq2.out hbq3)
    clear hbq3
    have lsq4 := HRq3.out.head
    have HRq4 : Hid (RowsW (vq3.setRow (g0 + 1) (quad aq3 bq3 dq3 fq3)) [((g0 + 1), (quad aq3 bq3 dq3 fq3), 28), (g0, (quad a1 b1 d1 f1), 28)]) := Lib.hid ⟨setRow_heap _ _ _ _ _ _ lsq4, (by rw [setRow_other _ _ _ _ (by omega)]; exact HRq3.out.tail.head), trivial⟩
    have HBq4 := Lib.hid (below_row (g := (g0 + 1)) (cs := (quad aq3 bq3 dq3 fq3)) HBq3.out (by have := HG0.out; omega))
    go_wp2_with (refine wpList_store_row rfl 28 (.tmp 2) (.tmp 6) rfl (g0 + 1) (quad aq3 bq3 dq3 fq3) rfl rfl 28 (quad Z Z Z Z) lsq4 (pp_info C.base Raq3.out Rbq3.out Rdq3.out Rfq3.out) ((pp_size C.base RZZ.out RZZ.out RZZ.out RZZ.out).trans (pp_size C.base Raq3.out Rbq3.out Rdq3.out Rfq3.out).symm) (pp_one C.base Raq3.out Rbq3.out Rdq3.out Rfq3.out) ?_)
    obtain ⟨Wq4, hWq4⟩ : ∃ W, vq3.setRow (g0 + 1) (quad aq3 bq3 dq3 fq3) = W := ⟨_, rfl⟩
    rw [hWq4] at HRq4 HBq4
    (try rw [hWq4])
    clear hWq4 lsq4
    (try simp only [Exit.inBlock, Exit.then])
    refine bodyPost_ret (results_cell_row rfl _ _ (g0 + 1) _ (quad aq3 bq3 dq3 fq3) _ _ rfl HRq4.out.head Try.underlying28 rfl (pp_info C.base Raq3.out Rbq3.out Rdq3.out Rfq3.out)) rfl ?_
    exact ⟨_, _, _, _, _, _, _, _, rfl, Raq3.out, Rbq3.out, Rdq3.out, Rfq3.out, by rw [HP1.out.yes HZ.out]; exact co_zero, HBq4.out⟩
  · have HZ := Lib.hid hz
    clear hz
    have l5 := HR0.out.tail.head
    go_wp2_with (refine wpList_runsV (o := ⟨some 4, _, _, _, _, _⟩) rfl (.agg d1) (run_loadP rfl rfl l5 Try.underlying26 rfl (C.base.info Rd1.out) (pp_2 (fe5 C.base Ra1.out) (fe5 C.base Rb1.out))) ?_)
    have kq6 := fun W : World => (C.isZero Rd1.out) W
    rw [decide_eq_false (show ¬ Z1 = 0 from HZ.out)] at kq6
    have Kq6 := Lib.hid kq6
    clear kq6
    with_reducible refine (Kq6.out _).mono ?_
    rintro e vq6 ⟨rfl, hbq6⟩
    have HRq6 := Lib.hid (HR0.out.below hbq6)
    have HBq6 := Lib.hid (below_next HB0.out hbq6)
    clear hbq6
    go_upto_region 3 with fail
    have l7 := HRq6.out.tail.head
    have lsq8 := HRq6.out.head
    have HRq8 : Hid (RowsW (vq6.setRow (g0 + 1) (quad a1 b1 d1 f1)) [((g0 + 1), (quad a1 b1 d1 f1), 28), (g0, (quad a1 b1 d1 f1), 28)]) := Lib.hid ⟨setRow_heap _ _ _ _ _ _ lsq8, (by rw [setRow_other _ _ _ _ (by omega)]; exact HRq6.out.tail.head), trivial⟩
    have HBq8 := Lib.hid (below_row (g := (g0 + 1)) (cs := (quad a1 b1 d1 f1)) HBq6.out (by have := HG0.out; omega))
    go_wp2_with (first
        | (refine wpList_load_row rfl 28 (.tmp 1) rfl g0 rfl 28 (quad a1 b1 d1 f1) (0, 0) _ l7 Try.underlying28 rfl (pp_info C.base Ra1.out Rb1.out Rd1.out Rf1.out) ?_)
        | (refine wpList_store_row rfl 28 (.tmp 2) (.tmp 7) rfl (g0 + 1) (quad a1 b1 d1 f1) rfl rfl 28 (quad Z Z Z Z) lsq8 (pp_info C.base Ra1.out Rb1.out Rd1.out Rf1.out) ((pp_size C.base RZZ.out RZZ.out RZZ.out RZZ.out).trans (pp_size C.base Ra1.out Rb1.out Rd1.out Rf1.out).symm) (pp_one C.base Ra1.out Rb1.out Rd1.out Rf1.out) ?_))
    obtain ⟨Wq8, hWq8⟩ : ∃ W, vq6.setRow (g0 + 1) (quad a1 b1 d1 f1) = W := ⟨_, rfl⟩
    rw [hWq8] at HRq8 HBq8
    (try rw [hWq8])
    clear hWq8 lsq8
    (try simp only [Exit.inBlock, Exit.then])
    refine bodyPost_ret (results_cell_row rfl _ _ (g0 + 1) _ (quad a1 b1 d1 f1) _ _ rfl HRq8.out.head Try.underlying28 rfl (pp_info C.base Ra1.out Rb1.out Rd1.out Rf1.out)) rfl ?_
    exact ⟨_, _, _, _, _, _, _, _, rfl, Ra1.out, Rb1.out, Rd1.out, Rf1.out, HP1.out.no HZ.out, HBq8.out⟩
set_option maxHeartbeats 1600000 in
theorem ptratios_any {R : Array Value → Nat → Prop} (C : FeC R) {c0 : Array Value} {x0 : Nat} (hc0 : R c0 x0) {c1 : Array Value} {x1 : Nat} (hc1 : R c1 x1) {c2 : Array Value} {x2 : Nat} (hc2 : R c2 x2) {c3 : Array Value} {x3 : Nat} (hc3 : R c3 x3) (w : World) : Calls Try.prog 56 #[.agg c0, .agg c1, .agg c2, .agg c3] w (RetPP R w ((x0 * x3) % PP) ((x1 * x2) % PP) ((x3 * x1) % PP) ((x0 * x2) % PP)) := by
  have Rc0 := Lib.hid hc0
  clear hc0
  have Lx0 : Hid (x0 < PP) := Lib.hid (C.base.lt Rc0.out)
  have Rc1 := Lib.hid hc1
  clear hc1
  have Lx1 : Hid (x1 < PP) := Lib.hid (C.base.lt Rc1.out)
  have Rc2 := Lib.hid hc2
  clear hc2
  have Lx2 : Hid (x2 < PP) := Lib.hid (C.base.lt Rc2.out)
  have Rc3 := Lib.hid hc3
  clear hc3
  have Lx3 : Hid (x3 < PP) := Lib.hid (C.base.lt Rc3.out)
  obtain ⟨Z, hZ, rZ⟩ := C.base.zero
  have RZZ := Lib.hid rZ
  have hzP := zp_of hZ
  have hz32 := zero32_zero
  clear rZ
  have HR0 := Lib.hid ((((((RowsW.nil w).box c0 26).box c1 26).box c2 26).box c3 26).box (quad Z Z Z Z) 28)
  have HB0 := Lib.hid (below_box (below_box (below_box (below_box (below_box (Below.refl w.heap.size w) c0 26) c1 26) c2 26) c3 26) (quad Z Z Z Z) 28)
  rw [World.size_alloc] at HR0
  rw [World.size_alloc] at HR0
  try rw [World.size_alloc] at HR0
  try rw [World.size_alloc] at HR0
  go_enter Try.func56, Try.ntmps56
  go_upto_region 1 with fail
  obtain ⟨W0, hW0⟩ : ∃ W, (((((w.alloc (.cells c0 26)).alloc (.cells c1 26)).alloc (.cells c2 26)).alloc (.cells c3 26)).alloc (.cells (quad Z Z Z Z) 28)) = W := ⟨_, rfl⟩
  obtain ⟨g0, hg0⟩ : ∃ g, w.heap.size = g := ⟨_, rfl⟩
  rw [hW0] at HR0 HB0
  rw [hg0] at HR0
  rw [hW0, hg0]
  have HG0 := Lib.hid hg0
  clear hW0 hg0
  refine wp_region_noPanic ?_
  refine wp_region_held_tail (S := fun W => Below W0.heap.size W0 W) 13 (by kernel_rfl) ⟨by kernel_rfl, by kernel_rfl, by kernel_rfl, by kernel_rfl⟩ (by exact (Below.refl _ _).drew) (fun hT inv hS => ?_)
  refine' take_atT 0 hT inv rfl (by omega) (by kernel_rfl) (by kernel_rfl) (fun _ _ _ h => h) (by rfl) hS ?_ ?_ ?_
  rotate_left 2
  · intro W hSW; exact run_loadR rfl rfl (HR0.out.below hSW).tail.tail.tail.tail.head Try.underlying26 rfl (C.base.info Rc0.out)
  · simp only [List.set_cons_succ, List.set_cons_zero]; rfl
  intro inv
  refine' take_atT 1 hT inv rfl (by omega) (by kernel_rfl) (by kernel_rfl) (fun _ _ _ h => h) (by rfl) hS ?_ ?_ ?_
  rotate_left 2
  · intro W hSW; exact run_loadR rfl rfl (HR0.out.below hSW).tail.head Try.underlying26 rfl (C.base.info Rc3.out)
  · simp only [List.set_cons_succ, List.set_cons_zero]; rfl
  intro inv
  refine' take_atT 3 hT inv rfl (by omega) (by kernel_rfl) (by kernel_rfl) (fun _ _ _ h => h) (by rfl) hS ?_ ?_ ?_
  rotate_left 2
  · intro W hSW; exact run_loadR rfl rfl (HR0.out.below hSW).tail.tail.tail.head Try.underlying26 rfl (C.base.info Rc1.out)
  · simp only [List.set_cons_succ, List.set_cons_zero]; rfl
  intro inv
  refine' take_atT 4 hT inv rfl (by omega) (by kernel_rfl) (by kernel_rfl) (fun _ _ _ h => h) (by rfl) hS ?_ ?_ ?_
  rotate_left 2
  · intro W hSW; exact run_loadR rfl rfl (HR0.out.below hSW).tail.tail.head Try.underlying26 rfl (C.base.info Rc2.out)
  · simp only [List.set_cons_succ, List.set_cons_zero]; rfl
  intro inv
  refine' take_atT 6 hT inv rfl (by omega) (by kernel_rfl) (by kernel_rfl) (fun _ _ _ h => h) (by rfl) hS ?_ ?_ ?_
  rotate_left 2
  · intro W hSW; exact run_loadR rfl rfl (HR0.out.below hSW).tail.head Try.underlying26 rfl (C.base.info Rc3.out)
  · simp only [List.set_cons_succ, List.set_cons_zero]; rfl
  intro inv
  refine' take_atT 7 hT inv rfl (by omega) (by kernel_rfl) (by kernel_rfl) (fun _ _ _ h => h) (by rfl) hS ?_ ?_ ?_
  rotate_left 2
  · intro W hSW; exact run_loadR rfl rfl (HR0.out.below hSW).tail.tail.tail.head Try.underlying26 rfl (C.base.info Rc1.out)
  · simp only [List.set_cons_succ, List.set_cons_zero]; rfl
  intro inv
  refine' take_atT 9 hT inv rfl (by omega) (by kernel_rfl) (by kernel_rfl) (fun _ _ _ h => h) (by rfl) hS ?_ ?_ ?_
  rotate_left 2
  · intro W hSW; exact run_loadR rfl rfl (HR0.out.below hSW).tail.tail.tail.tail.head Try.underlying26 rfl (C.base.info Rc0.out)
  · simp only [List.set_cons_succ, List.set_cons_zero]; rfl
  intro inv
  refine' take_atT 10 hT inv rfl (by omega) (by kernel_rfl) (by kernel_rfl) (fun _ _ _ h => h) (by rfl) hS ?_ ?_ ?_
  rotate_left 2
  · intro W hSW; exact run_loadR rfl rfl (HR0.out.below hSW).tail.tail.head Try.underlying26 rfl (C.base.info Rc2.out)
  · simp only [List.set_cons_succ, List.set_cons_zero]; rfl
  intro inv
  refine call_atT 2 inv rfl (by omega) (by kernel_rfl) (by rfl) (fun K hK => ?_)
  go_simp
  obtain ⟨n1, hn1⟩ : ∃ x_ : Nat, (x0 * x3) % PP = x_ := ⟨_, rfl⟩
  have Hn1 := Lib.hid hn1
  have HLn1 : Hid (n1 < PP) := Lib.hid (by rw [← hn1]; exact Nat.mod_lt _ (by decide))
  clear hn1
  with_reducible refine ((C.mul Rc0.out Rc3.out) _).mono ?_
  rintro e vq2 ⟨cq2, rfl, rq2, hbq2⟩
  rw [Hn1.out] at rq2
  have Rq2 := Lib.hid rq2
  clear rq2
  have kbq2 := below_next hS hbq2
  clear hS hbq2
  refine hK.out _ _ (by exact kbq2) (fun inv hS => ?_)
  clear hK K
  refine call_atT 5 inv rfl (by omega) (by kernel_rfl) (by rfl) (fun K hK => ?_)
  go_simp
  obtain ⟨n3, hn3⟩ : ∃ x_ : Nat, (x1 * x2) % PP = x_ := ⟨_, rfl⟩
  have Hn3 := Lib.hid hn3
  have HLn3 : Hid (n3 < PP) := Lib.hid (by rw [← hn3]; exact Nat.mod_lt _ (by decide))
  clear hn3
  with_reducible refine ((C.mul Rc1.out Rc2.out) _).mono ?_
  rintro e vq4 ⟨cq4, rfl, rq4, hbq4⟩
  rw [Hn3.out] at rq4
  have Rq4 := Lib.hid rq4
  clear rq4
  have kbq4 := below_next kbq2 hbq4
  clear hS hbq4
  refine hK.out _ _ (by exact kbq4) (fun inv hS => ?_)
  clear hK K
  refine call_atT 8 inv rfl (by omega) (by kernel_rfl) (by rfl) (fun K hK => ?_)
  go_simp
  obtain ⟨n5, hn5⟩ : ∃ x_ : Nat, (x3 * x1) % PP = x_ := ⟨_, rfl⟩
  have Hn5 := Lib.hid hn5
  have HLn5 : Hid (n5 < PP) := Lib.hid (by rw [← hn5]; exact Nat.mod_lt _ (by decide))
  clear hn5
  with_reducible refine ((C.mul Rc3.out Rc1.out) _).mono ?_
  rintro e vq6 ⟨cq6, rfl, rq6, hbq6⟩
  rw [Hn5.out] at rq6
  have Rq6 := Lib.hid rq6
  clear rq6
  have kbq6 := below_next kbq4 hbq6
  clear hS hbq6
  refine hK.out _ _ (by exact kbq6) (fun inv hS => ?_)
  clear hK K
  refine call_atT 11 inv rfl (by omega) (by kernel_rfl) (by rfl) (fun K hK => ?_)
  go_simp
  obtain ⟨n7, hn7⟩ : ∃ x_ : Nat, (x0 * x2) % PP = x_ := ⟨_, rfl⟩
  have Hn7 := Lib.hid hn7
  have HLn7 : Hid (n7 < PP) := Lib.hid (by rw [← hn7]; exact Nat.mod_lt _ (by decide))
  clear hn7
  with_reducible refine ((C.mul Rc0.out Rc2.out) _).mono ?_
  rintro e vq8 ⟨cq8, rfl, rq8, hbq8⟩
  rw [Hn7.out] at rq8
  have Rq8 := Lib.hid rq8
  clear rq8
  have kbq8 := below_next kbq6 hbq8
  clear hS hbq8
  refine hK.out _ _ (by exact kbq8) (fun inv hS => ?_)
  clear hK K
  refine' take_atT 12 hT inv rfl (by omega) (by kernel_rfl) (by kernel_rfl) (fun _ _ _ h => h) (by rfl) hS ?_ ?_ ?_
  rotate_left 2
  · intro W hSW; exact run_buildF4 rfl rfl rfl rfl rfl (fe5 C.base Rq2.out) (fe5 C.base Rq4.out) (fe5 C.base Rq6.out) (fe5 C.base Rq8.out)
  · simp only [List.set_cons_succ, List.set_cons_zero]; rfl
  intro inv
  refine done_atT (by kernel_rfl) ?_
  simp only [List.drop_succ_cons, List.drop_zero]
  clear hS
  (try simp only [Act.put])
  have HRq9 := Lib.hid (HR0.out.below kbq8)
  have HBq9 := Lib.hid (below_next HB0.out kbq8)
  have lsq10 := HRq9.out.head
  have HRq10 : Hid (RowsW (vq8.setRow (g0 + 1 + 1 + 1 + 1) (quad cq2 cq4 cq6 cq8)) [((g0 + 1 + 1 + 1 + 1), (quad cq2 cq4 cq6 cq8), 28), ((g0 + 1 + 1 + 1), c3, 26), ((g0 + 1 + 1), c2, 26), ((g0 + 1), c1, 26), (g0, c0, 26)]) := Lib.hid ⟨setRow_heap _ _ _ _ _ _ lsq10, (by rw [setRow_other _ _ _ _ (by omega)]; exact HRq9.out.tail.head), (by rw [setRow_other _ _ _ _ (by omega)]; exact HRq9.out.tail.tail.head), (by rw [setRow_other _ _ _ _ (by omega)]; exact HRq9.out.tail.tail.tail.head), (by rw [setRow_other _ _ _ _ (by omega)]; exact HRq9.out.tail.tail.tail.tail.head), trivial⟩
  have HBq10 := Lib.hid (below_row (g := (g0 + 1 + 1 + 1 + 1)) (cs := (quad cq2 cq4 cq6 cq8)) HBq9.out (by have := HG0.out; omega))
  go_wp2_with (refine wpList_store_row rfl 28 (.tmp 8) (.tmp 21) rfl (g0 + 1 + 1 + 1 + 1) (quad cq2 cq4 cq6 cq8) rfl rfl 28 (quad Z Z Z Z) lsq10 (pp_info C.base Rq2.out Rq4.out Rq6.out Rq8.out) ((pp_size C.base RZZ.out RZZ.out RZZ.out RZZ.out).trans (pp_size C.base Rq2.out Rq4.out Rq6.out Rq8.out).symm) (pp_one C.base Rq2.out Rq4.out Rq6.out Rq8.out) ?_)
  obtain ⟨Wq10, hWq10⟩ : ∃ W, vq8.setRow (g0 + 1 + 1 + 1 + 1) (quad cq2 cq4 cq6 cq8) = W := ⟨_, rfl⟩
  rw [hWq10] at HRq10 HBq10
  (try rw [hWq10])
  clear hWq10 lsq10
  refine NoPanic.normal ?_
  go_wp2_with fail
  (try simp only [Exit.inBlock, Exit.then])
  refine bodyPost_ret (results_cell_row rfl _ _ (g0 + 1 + 1 + 1 + 1) _ (quad cq2 cq4 cq6 cq8) _ _ rfl HRq10.out.head Try.underlying28 rfl (pp_info C.base Rq2.out Rq4.out Rq6.out Rq8.out)) rfl ?_
  exact ⟨_, _, _, _, rfl, by rw [Hn1.out]; exact Rq2.out, by rw [Hn3.out]; exact Rq4.out, by rw [Hn5.out]; exact Rq6.out, by rw [Hn7.out]; exact Rq8.out, HBq10.out⟩
set_option maxHeartbeats 1600000 in
theorem ptneg_any {R : Array Value → Nat → Prop} (C : FeC R) {a1 b1 d1 f1 : Array Value} {X1 Y1 Z1 T1 : Nat} {p1 : PtD} (ha1 : R a1 X1) (hb1 : R b1 Y1) (hd1 : R d1 Z1) (hf1 : R f1 T1) (hP1 : Pq X1 Y1 Z1 T1 p1) (w : World) : Calls Try.prog 21 #[.agg (quad a1 b1 d1 f1)] w (RetPt (ptRof R) w (Ed.Pt.neg p1)) := by
  have Ra1 := Lib.hid ha1
  have Rb1 := Lib.hid hb1
  have Rd1 := Lib.hid hd1
  have Rf1 := Lib.hid hf1
  clear ha1 hb1 hd1 hf1
  have LX1 : Hid (X1 < PP) := Lib.hid (C.base.lt Ra1.out)
  have LY1 : Hid (Y1 < PP) := Lib.hid (C.base.lt Rb1.out)
  have LZ1 : Hid (Z1 < PP) := Lib.hid (C.base.lt Rd1.out)
  have LT1 : Hid (T1 < PP) := Lib.hid (C.base.lt Rf1.out)
  have HP1 := Lib.hid hP1
  clear hP1
  obtain ⟨Z, hZ, rZ⟩ := C.base.zero
  have RZZ := Lib.hid rZ
  have hzP := zp_of hZ
  have hz32 := zero32_zero
  clear rZ
  have HR0 := Lib.hid (((RowsW.nil w).box (quad a1 b1 d1 f1) 28).box (quad Z Z Z Z) 28)
  have HB0 := Lib.hid (below_box (below_box (Below.refl w.heap.size w) (quad a1 b1 d1 f1) 28) (quad Z Z Z Z) 28)
  rw [World.size_alloc] at HR0
  go_enter Try.func21, Try.ntmps21
  go_upto_region 1 with fail
  obtain ⟨W0, hW0⟩ : ∃ W, ((w.alloc (.cells (quad a1 b1 d1 f1) 28)).alloc (.cells (quad Z Z Z Z) 28)) = W := ⟨_, rfl⟩
  obtain ⟨g0, hg0⟩ : ∃ g, w.heap.size = g := ⟨_, rfl⟩
  rw [hW0] at HR0 HB0
  rw [hg0] at HR0
  rw [hW0, hg0]
  have HG0 := Lib.hid hg0
  clear hW0 hg0
  refine wp_region_noPanic ?_
  refine wp_region_held_tail (S := fun W => Below W0.heap.size W0 W) 11 (by kernel_rfl) ⟨by kernel_rfl, by kernel_rfl, by kernel_rfl, by kernel_rfl⟩ (by exact (Below.refl _ _).drew) (fun hT inv hS => ?_)
  refine' take_atT 0 hT inv rfl (by omega) (by kernel_rfl) (by kernel_rfl) (fun _ _ _ h => h) (by rfl) hS ?_ ?_ ?_
  rotate_left 2
  · intro W hSW; go_simp; try with_reducible rfl
  · simp only [List.set_cons_succ, List.set_cons_zero]; rfl
  intro inv
  refine' take_atT 1 hT inv rfl (by omega) (by kernel_rfl) (by kernel_rfl) (fun _ _ _ h => h) (by rfl) hS ?_ ?_ ?_
  rotate_left 2
  · intro W hSW; exact run_loadP rfl rfl (HR0.out.below hSW).tail.head Try.underlying26 rfl (C.base.info Ra1.out) pp_0
  · simp only [List.set_cons_succ, List.set_cons_zero]; rfl
  intro inv
  refine' take_atT 3 hT inv rfl (by omega) (by kernel_rfl) (by kernel_rfl) (fun _ _ _ h => h) (by rfl) hS ?_ ?_ ?_
  rotate_left 2
  · intro W hSW; go_simp; try with_reducible rfl
  · simp only [List.set_cons_succ, List.set_cons_zero]; rfl
  intro inv
  refine' take_atT 4 hT inv rfl (by omega) (by kernel_rfl) (by kernel_rfl) (fun _ _ _ h => h) (by rfl) hS ?_ ?_ ?_
  rotate_left 2
  · intro W hSW; exact run_loadP rfl rfl (HR0.out.below hSW).tail.head Try.underlying26 rfl (C.base.info Rb1.out) (pp_1 (fe5 C.base Ra1.out))
  · simp only [List.set_cons_succ, List.set_cons_zero]; rfl
  intro inv
  refine' take_atT 5 hT inv rfl (by omega) (by kernel_rfl) (by kernel_rfl) (fun _ _ _ h => h) (by rfl) hS ?_ ?_ ?_
  rotate_left 2
  · intro W hSW; go_simp; try with_reducible rfl
  · simp only [List.set_cons_succ, List.set_cons_zero]; rfl
  intro inv
  refine' take_atT 6 hT inv rfl (by omega) (by kernel_rfl) (by kernel_rfl) (fun _ _ _ h => h) (by rfl) hS ?_ ?_ ?_
  rotate_left 2
  · intro W hSW; exact run_loadP rfl rfl (HR0.out.below hSW).tail.head Try.underlying26 rfl (C.base.info Rd1.out) (pp_2 (fe5 C.base Ra1.out) (fe5 C.base Rb1.out))
  · simp only [List.set_cons_succ, List.set_cons_zero]; rfl
  intro inv
  refine' take_atT 7 hT inv rfl (by omega) (by kernel_rfl) (by kernel_rfl) (fun _ _ _ h => h) (by rfl) hS ?_ ?_ ?_
  rotate_left 2
  · intro W hSW; go_simp; try with_reducible rfl
  · simp only [List.set_cons_succ, List.set_cons_zero]; rfl
  intro inv
  refine' take_atT 8 hT inv rfl (by omega) (by kernel_rfl) (by kernel_rfl) (fun _ _ _ h => h) (by rfl) hS ?_ ?_ ?_
  rotate_left 2
  · intro W hSW; exact run_loadP rfl rfl (HR0.out.below hSW).tail.head Try.underlying26 rfl (C.base.info Rf1.out) (pp_3 (fe5 C.base Ra1.out) (fe5 C.base Rb1.out) (fe5 C.base Rd1.out))
  · simp only [List.set_cons_succ, List.set_cons_zero]; rfl
  intro inv
  refine call_atT 2 inv rfl (by omega) (by kernel_rfl) (by rfl) (fun K hK => ?_)
  go_simp
  obtain ⟨n1, hn1⟩ : ∃ x_ : Nat, (PP - X1) % PP = x_ := ⟨_, rfl⟩
  have Hn1 := Lib.hid hn1
  have HLn1 : Hid (n1 < PP) := Lib.hid (by rw [← hn1]; exact Nat.mod_lt _ (by decide))
  clear hn1
  with_reducible refine ((C.neg Ra1.out) _).mono ?_
  rintro e vq2 ⟨cq2, rfl, rq2, hbq2⟩
  rw [Hn1.out] at rq2
  have Rq2 := Lib.hid rq2
  clear rq2
  have kbq2 := below_next hS hbq2
  clear hS hbq2
  refine hK.out _ _ (by exact kbq2) (fun inv hS => ?_)
  clear hK K
  refine call_atT 9 inv rfl (by omega) (by kernel_rfl) (by rfl) (fun K hK => ?_)
  go_simp
  obtain ⟨n3, hn3⟩ : ∃ x_ : Nat, (PP - T1) % PP = x_ := ⟨_, rfl⟩
  have Hn3 := Lib.hid hn3
  have HLn3 : Hid (n3 < PP) := Lib.hid (by rw [← hn3]; exact Nat.mod_lt _ (by decide))
  clear hn3
  with_reducible refine ((C.neg Rf1.out) _).mono ?_
  rintro e vq4 ⟨cq4, rfl, rq4, hbq4⟩
  rw [Hn3.out] at rq4
  have Rq4 := Lib.hid rq4
  clear rq4
  have kbq4 := below_next kbq2 hbq4
  clear hS hbq4
  refine hK.out _ _ (by exact kbq4) (fun inv hS => ?_)
  clear hK K
  refine' take_atT 10 hT inv rfl (by omega) (by kernel_rfl) (by kernel_rfl) (fun _ _ _ h => h) (by rfl) hS ?_ ?_ ?_
  rotate_left 2
  · intro W hSW; exact run_buildF4 rfl rfl rfl rfl rfl (fe5 C.base Rq2.out) (fe5 C.base Rb1.out) (fe5 C.base Rd1.out) (fe5 C.base Rq4.out)
  · simp only [List.set_cons_succ, List.set_cons_zero]; rfl
  intro inv
  refine done_atT (by kernel_rfl) ?_
  simp only [List.drop_succ_cons, List.drop_zero]
  clear hS
  (try simp only [Act.put])
  have HRq5 := Lib.hid (HR0.out.below kbq4)
  have HBq5 := Lib.hid (below_next HB0.out kbq4)
  have lsq6 := HRq5.out.head
  have HRq6 : Hid (RowsW (vq4.setRow (g0 + 1) (quad cq2 b1 d1 cq4)) [((g0 + 1), (quad cq2 b1 d1 cq4), 28), (g0, (quad a1 b1 d1 f1), 28)]) := Lib.hid ⟨setRow_heap _ _ _ _ _ _ lsq6, (by rw [setRow_other _ _ _ _ (by omega)]; exact HRq5.out.tail.head), trivial⟩
  have HBq6 := Lib.hid (below_row (g := (g0 + 1)) (cs := (quad cq2 b1 d1 cq4)) HBq5.out (by have := HG0.out; omega))
  go_wp2_with (refine wpList_store_row rfl 28 (.tmp 2) (.tmp 13) rfl (g0 + 1) (quad cq2 b1 d1 cq4) rfl rfl 28 (quad Z Z Z Z) lsq6 (pp_info C.base Rq2.out Rb1.out Rd1.out Rq4.out) ((pp_size C.base RZZ.out RZZ.out RZZ.out RZZ.out).trans (pp_size C.base Rq2.out Rb1.out Rd1.out Rq4.out).symm) (pp_one C.base Rq2.out Rb1.out Rd1.out Rq4.out) ?_)
  obtain ⟨Wq6, hWq6⟩ : ∃ W, vq4.setRow (g0 + 1) (quad cq2 b1 d1 cq4) = W := ⟨_, rfl⟩
  rw [hWq6] at HRq6 HBq6
  (try rw [hWq6])
  clear hWq6 lsq6
  refine NoPanic.normal ?_
  go_wp2_with fail
  (try simp only [Exit.inBlock, Exit.then])
  refine bodyPost_ret (results_cell_row rfl _ _ (g0 + 1) _ (quad cq2 b1 d1 cq4) _ _ rfl HRq6.out.head Try.underlying28 rfl (pp_info C.base Rq2.out Rb1.out Rd1.out Rq4.out)) rfl ?_
  exact ⟨_, rfl, ⟨_, _, _, _, _, _, _, _, rfl, Rq2.out, Rb1.out, Rd1.out, Rq4.out, by rw [← Hn1.out, ← Hn3.out]; exact pq_neg HP1.out⟩, HBq6.out⟩
end Go.Proofs.Ytfejabfmhddepaa

namespace Go.Proofs.Ytfejabfmhddepaa
open Go.RowKit
set_option linter.unusedVariables false
set_option maxRecDepth 100000
section
variable {P : Program} {ops : Array Oper} {Q : Exit → Act → World → Prop} {md : Region.Mode} {w0 : World} {A p B q : Nat} {T T' : TypeId} {Z Z' : Array Value}
def lst2 (A : Nat) (o : Option Nat) (l : Array Bool) : Array Bool := match o with | none => l | some _ => l.setIfInBounds A true
def act2 (p : Nat) (o : Option Nat) (a : Act) : Act := match o with | none => a | some g => a.put (some p) (.pointer (some ⟨g, 0, none⟩))
def fu2 (o : Option Nat) : Nat := match o with | none => 1 | some _ => 0
structure HB2 (w0 : World) (T : TypeId) (Z : Array Value) (T' : TypeId) (Z' : Array Value) (o o' : Option Nat) (W : World) : Prop where
  l : HB w0 T Z o W
  r : HB w0 T' Z' o' W
  ne : ∀ g g', o = some g → o' = some g' → g ≠ g'
def XB2 (P : Program) (md : Region.Mode) (ops : Array Oper) (Q : Exit → Act → World → Prop) (w0 : World) (A p B q : Nat) (o o' : Option Nat) (f : Nat) (listed : Array Bool) (a : Act) (W : World) : Prop :=
  wpAnyH P md ops Q (fun W => Below w0.heap.size w0 W) (f + fu2 o + fu2 o') (lst2 B o' (lst2 A o listed)) (act2 q o' (act2 p o a)) W
structure AllocAt2 (P : Program) (ops : Array Oper) (Q : Exit → Act → World → Prop) (A p : Nat) (T : TypeId) (Z : Array Value) (B q : Nat) (T' : TypeId) (Z' : Array Value) : Prop where
  l : AllocAt P ops Q A p T Z
  r : AllocAt P ops Q B q T' Z'
  ne : (A != B && p != q) = true
theorem HB2.al {o' : Option Nat} {W : World} (h : HB2 w0 T Z T' Z' none o' W) : HB2 w0 T Z T' Z' (some W.heap.size) o' (W.alloc (.cells Z T)) :=
  ⟨h.l.al, h.r.next ((Below.refl _ W).alloc (Nat.le_refl _) _), fun g g' e e' => by
    injection e with e; subst e
    have := (Array.getElem?_eq_some_iff.1 (h.r.2 g' e').2).1
    omega⟩
theorem HB2.ar {o : Option Nat} {W : World} (h : HB2 w0 T Z T' Z' o none W) : HB2 w0 T Z T' Z' o (some W.heap.size) (W.alloc (.cells Z' T')) :=
  ⟨h.l.next ((Below.refl _ W).alloc (Nat.le_refl _) _), h.r.al, fun g g' e e' => by
    injection e' with e'; subst e'
    have := (Array.getElem?_eq_some_iff.1 (h.l.2 g e).2).1
    omega⟩
theorem HB2.next {o o' : Option Nat} {W W' : World} (h : HB2 w0 T Z T' Z' o o' W) (hb : Below W.heap.size W W') : HB2 w0 T Z T' Z' o o' W' :=
  ⟨h.l.next hb, h.r.next hb, h.ne⟩
theorem lst2_set (A i : Nat) (o : Option Nat) (l : Array Bool) (h : A ≠ i) : lst2 A o (l.setIfInBounds i true) = (lst2 A o l).setIfInBounds i true := by
  cases o with
  | none => rfl
  | some g => exact Array.setIfInBounds_comm _ _ (Ne.symm h)
theorem act2_put (p : Nat) (o : Option Nat) (a : Act) (d : Option Tmp) (v : Value) (h : some p ≠ d) : act2 p o (a.put d v) = (act2 p o a).put d v := by
  cases o with
  | none => rfl
  | some g => exact Act.put_comm (x := d) (y := some p) a v _ (fun x hx hy => h (hy.trans hx.symm))
theorem AllocAt.get {A p : Nat} {T : TypeId} {Z : Array Value} (h : AllocAt P ops Q A p T Z) : ∃ oA, ops[A]? = some oA ∧ oA.op = .alloc T ∧ oA.dst = some p ∧ oA.guard = none := by
  cases hq : ops[A]? with
  | none => have := h.at_; rw [hq] at this; cases this
  | some oA =>
    have e := h.at_
    rw [hq] at e
    simp only [Option.map_some, Option.some.injEq, Prod.mk.injEq] at e
    exact ⟨oA, rfl, e.1, e.2.1, e.2.2⟩
theorem getD_set_true (l : Array Bool) (i : Nat) : (l.setIfInBounds i true).getD i true = true := by
  rw [Array.getD_eq_getD_getElem?, Array.getElem?_setIfInBounds, if_pos rfl]
  split <;> rfl
theorem ready_ne {l : Array Bool} {s : Nat} (hs : s ∈ Region.ready md ops ((l.setIfInBounds A true).setIfInBounds B true)) (hne : A ≠ B) : s ≠ A ∧ s ≠ B := by
  have h1 := (mem_ready.1 hs).1
  refine ⟨fun e => ?_, fun e => ?_⟩
  · subst e
    rw [getD_set_ne true (Ne.symm hne), getD_set_true] at h1
    cases h1
  · subst e
    rw [getD_set_true] at h1
    cases h1
theorem wp_region_heldB2 {id : Nat} {a : Act} {w : World} (A p : Nat) (T : TypeId) (Z : Array Value) (B q : Nat) (T' : TypeId) (Z' : Array Value) (hm : P.follows .mixedOrders = true) (h0 : decide (1 < ops.size) = true) (hA : AllocAt2 P ops Q A p T Z B q T' Z')
    (h : AllocAt2 P ops Q A p T Z B q T' Z' → HB2 w T Z T' Z' none none w.drew → XB2 P .any ops Q w A p B q none none (ops.size - 2) (Array.replicate ops.size false) a w.drew) : (Code.region id ops true).wp P Q a w := by
  have hb : Below w.heap.size w w.drew := (Below.refl _ _).drew
  have hn := of_decide_eq_true h0
  refine wp_region_held (S := fun W => Below w.heap.size w W) hm ?_
  have := h hA ⟨⟨hb, fun g e => by cases e⟩, ⟨hb, fun g e => by cases e⟩, fun g g' e => by cases e⟩
  have hk : (ops.size - 2) + 1 + 1 = ops.size := by omega
  simp only [XB2, fu2, lst2, act2] at this
  rw [hk] at this
  exact this
theorem act2_yields {A p : Nat} {T : TypeId} {Z : Array Value} {S : World → Prop} {oi : Oper} {v : Value} {a : Act} {o : Option Nat} (hsel : ∀ cs b, oi.op ≠ .select cs b) (hn : p ∉ oi.looksAt ops)
    (hy : YieldsIf P ops S oi v a) : YieldsIf P ops S oi v (act2 p o a) := by
  cases o with
  | none => exact hy
  | some g =>
    have h1 : ∀ d, some p = some d → d ∉ oi.looksAt ops := fun d hd => by injection hd with hd; subst hd; exact hn
    exact hy.of_same (execOp_put _ hsel _ _ _ h1) (wanted_put _ _ _ _ h1)
theorem take_atB2 (i : Nat) {d : Nat} {op : Op} {ty : TypeId} {pos : String} {after : Array Edge} {guard : Option (Nat × Bool)} {v : Value} {f : Nat} {listed : Array Bool} {l l' : List Value} {df : List Deferred} {o o' : Option Nat} {W : World}
    (hA : AllocAt2 P ops Q A p T Z B q T' Z')
    (hi : ops[i]? = some ⟨some d, op, ty, pos, after, guard⟩)
    (hf : (Region.free md ops listed i && Region.free md ops (listed.setIfInBounds A true) i && Region.free md ops (listed.setIfInBounds B true) i && Region.free md ops ((listed.setIfInBounds A true).setIfInBounds B true) i) = true)
    (hr : ((Region.ready md ops listed).contains i && (Region.ready md ops (listed.setIfInBounds A true)).contains i && (Region.ready md ops (listed.setIfInBounds B true)).contains i && (Region.ready md ops ((listed.setIfInBounds A true).setIfInBounds B true)).contains i) = true)
    (hap : (ops[A]?.map fun oA => oA.apart ops ⟨some d, op, ty, pos, after, guard⟩) = some true) (hbp : (ops[B]?.map fun oA => oA.apart ops ⟨some d, op, ty, pos, after, guard⟩) = some true) (hAi : (A != i && B != i) = true)
    (hw : Region.wanted ⟨some d, op, ty, pos, after, guard⟩ (yielded ops l.toArray) = true) (hS : HB2 w0 T Z T' Z' o o' W)
    (hy : ∀ W, Below w0.heap.size w0 W → (execOp (Act.eval ⟨l.toArray, df⟩) ⟨some d, op, ty, pos, after, guard⟩).run P W = .ok (.value v) W)
    (hl : l.set d v = l')
    (h : XB2 P md ops Q w0 A p B q o o' f (listed.setIfInBounds i true) ⟨l'.toArray, df⟩ W) : XB2 P md ops Q w0 A p B q o o' (f + 1) listed ⟨l.toArray, df⟩ W := by
  have hp : ∀ (c : List PanicEntry) (a : Act) (w : World), Q (.panic c) (a.put (some d) v) w → Q (.panic c) a w := fun c a w h => (hA.l.q _ _ _ h).elim
  obtain ⟨oA, hoA, a1, a2, a3⟩ := hA.l.get
  obtain ⟨oB, hoB, b1, b2, b3⟩ := hA.r.get
  rw [hoA] at hap
  rw [hoB] at hbp
  simp only [Option.map_some, Option.some.injEq] at hap hbp
  obtain ⟨h1, h2, h3⟩ := Oper.apart_spec hap
  obtain ⟨k1, k2, k3⟩ := Oper.apart_spec hbp
  rw [a2] at h1 h2
  rw [b2] at k1 k2
  simp only [Bool.and_eq_true, bne_iff_ne] at hf hr hAi
  have hsel := Region.noSelect_spec hA.l.sel
  subst hl
  unfold XB2 at *
  have ea : act2 q o' (act2 p o ⟨(l.set d v).toArray, df⟩) = (act2 q o' (act2 p o ⟨l.toArray, df⟩)).put (some d) v := by
    have e0 : (⟨(l.set d v).toArray, df⟩ : Act) = (⟨l.toArray, df⟩ : Act).put (some d) v := by simp [Act.put]
    rw [e0, act2_put p o _ _ _ (fun e => h2 p rfl e.symm), act2_put q o' _ _ _ (fun e => k2 q rfl e.symm)]
  rw [ea, lst2_set A i o listed hAi.1, lst2_set B i o' _ hAi.2] at h
  rw [show f + 1 + fu2 o + fu2 o' = (f + fu2 o + fu2 o') + 1 by omega]
  have hy0 : YieldsIf P ops (fun W => Below w0.heap.size w0 W) ⟨some d, op, ty, pos, after, guard⟩ v ⟨l.toArray, df⟩ := .inl ⟨hw, hy⟩
  have hy1 := act2_yields (A := A) (T := T) (Z := Z) (p := p) (o := o) (fun cs b => hsel i _ cs b hi) (h1 p rfl) hy0
  have hy2 := act2_yields (A := B) (T := T) (Z := Z) (p := q) (o := o') (fun cs b => hsel i _ cs b hi) (k1 q rfl) hy1
  refine wpAnyH_take hi hA.l.sel ?_ ?_ hp hy2 hS.l.1 h
  · cases o <;> cases o'
    · exact hf.1.1.1
    · exact hf.1.2
    · exact hf.1.1.2
    · exact hf.2
  · cases o <;> cases o'
    · exact hr.1.1.1
    · exact hr.1.2
    · exact hr.1.1.2
    · exact hr.2
theorem allocs_atB2 {f : Nat} {listed : Array Bool} {a : Act} (hA : AllocAt2 P ops Q A p T Z B q T' Z')
    (i : Nat) (good : ∀ o o' W, HB2 w0 T Z T' Z' o o' W → i ∈ Region.ready md ops (lst2 B o' (lst2 A o listed)) → wpOp P ops Q i (fun a' w' => Below w0.heap.size w0 w' ∧ wpAnyH P md ops Q (fun W => Below w0.heap.size w0 W) (f + fu2 o + fu2 o') ((lst2 B o' (lst2 A o listed)).setIfInBounds i true) a' w') (act2 q o' (act2 p o a)) W)
    (r0 : ((Region.ready md ops listed).all fun j => j == i || j == A || j == B) = true) (r1 : ((Region.ready md ops (listed.setIfInBounds A true)).all fun j => j == i || j == B) = true)
    (r2 : ((Region.ready md ops (listed.setIfInBounds B true)).all fun j => j == i || j == A) = true) (r3 : Region.ready md ops ((listed.setIfInBounds A true).setIfInBounds B true) = [i])
    (e0 : ((Region.ready md ops listed).isEmpty || (Region.ready md ops (listed.setIfInBounds A true)).isEmpty || (Region.ready md ops (listed.setIfInBounds B true)).isEmpty) = false) :
    ∀ o o' W, HB2 w0 T Z T' Z' o o' W → XB2 P md ops Q w0 A p B q o o' (f + 1) listed a W := by
  obtain ⟨oA, hoA, a1, a2, a3⟩ := hA.l.get
  obtain ⟨oB, hoB, b1, b2, b3⟩ := hA.r.get
  have hne := hA.ne
  simp only [Bool.and_eq_true, bne_iff_ne] at hne
  simp only [Bool.or_eq_false_iff] at e0
  have hwA : ∀ a : Act, Region.wanted oA (yielded ops a.tmps) = true := fun a => by unfold Region.wanted; rw [a3]
  have hwB : ∀ a : Act, Region.wanted oB (yielded ops a.tmps) = true := fun a => by unfold Region.wanted; rw [b3]
  have goA : ∀ o' W, HB2 w0 T Z T' Z' none o' W → XB2 P md ops Q w0 A p B q (some W.heap.size) o' (f + 1) listed a (W.alloc (.cells Z T)) →
      wpOp P ops Q A (fun a' w' => Below w0.heap.size w0 w' ∧ wpAnyH P md ops Q (fun W => Below w0.heap.size w0 W) (f + 1 + fu2 o') ((lst2 B o' listed).setIfInBounds A true) a' w') (act2 q o' a) W := fun o' W hS hX => by
    refine wpOp_step hoA fun K' hK => ?_
    rw [if_pos (hwA _)]
    unfold Oper.wp
    rw [run_alloc_op a1 hA.l.run]
    refine hK _ _ ⟨hS.al.l.1, ?_⟩
    unfold XB2 at hX
    rw [show lst2 A (some W.heap.size) listed = listed.setIfInBounds A true from rfl, lst2_set B A o' _ (Ne.symm hne.1), show act2 p (some W.heap.size) a = a.put (some p) (.pointer (some ⟨W.heap.size, 0, none⟩)) from rfl, act2_put q o' _ _ _ (fun e => hne.2 (by injection e with e; exact e.symm))] at hX
    rw [a2]
    exact hX
  have goB : ∀ o W, HB2 w0 T Z T' Z' o none W → XB2 P md ops Q w0 A p B q o (some W.heap.size) (f + 1) listed a (W.alloc (.cells Z' T')) →
      wpOp P ops Q B (fun a' w' => Below w0.heap.size w0 w' ∧ wpAnyH P md ops Q (fun W => Below w0.heap.size w0 W) (f + 1 + fu2 o) ((lst2 A o listed).setIfInBounds B true) a' w') (act2 p o a) W := fun o W hS hX => by
    refine wpOp_step hoB fun K' hK => ?_
    rw [if_pos (hwB _)]
    unfold Oper.wp
    rw [run_alloc_op b1 hA.r.run]
    refine hK _ _ ⟨hS.ar.l.1, ?_⟩
    rw [b2]
    exact hX
  have ss : ∀ g g' W, HB2 w0 T Z T' Z' (some g) (some g') W → XB2 P md ops Q w0 A p B q (some g) (some g') (f + 1) listed a W := fun g g' W hS => by
    unfold XB2
    show wpAnyH P md ops Q _ (f + 1) ((listed.setIfInBounds A true).setIfInBounds B true) _ W
    refine wpAnyH_all r3 (by simp) fun j hj => ?_
    have hji : j = i := by simpa using hj
    subst hji
    exact good (some g) (some g') W hS (by show j ∈ Region.ready md ops ((listed.setIfInBounds A true).setIfInBounds B true); rw [r3]; exact hj)
  have sn : ∀ g W, HB2 w0 T Z T' Z' (some g) none W → XB2 P md ops Q w0 A p B q (some g) none (f + 1) listed a W := fun g W hS => by
    unfold XB2
    show wpAnyH P md ops Q _ (f + 1 + 1) (listed.setIfInBounds A true) _ W
    refine wpAnyH_all rfl (by intro e; rw [e] at e0; exact absurd e0.1.2 (by simp)) fun j hj => ?_
    have hj2 := List.all_eq_true.1 r1 j hj
    simp only [Bool.or_eq_true, beq_iff_eq] at hj2
    rcases hj2 with rfl | rfl
    · exact good (some g) none W hS hj
    · exact goB (some g) W hS (ss g _ _ hS.ar)
  have ns : ∀ g W, HB2 w0 T Z T' Z' none (some g) W → XB2 P md ops Q w0 A p B q none (some g) (f + 1) listed a W := fun g W hS => by
    unfold XB2
    show wpAnyH P md ops Q _ (f + 1 + 1) (listed.setIfInBounds B true) _ W
    refine wpAnyH_all rfl (by intro e; rw [e] at e0; exact absurd e0.2 (by simp)) fun j hj => ?_
    have hj2 := List.all_eq_true.1 r2 j hj
    simp only [Bool.or_eq_true, beq_iff_eq] at hj2
    rcases hj2 with rfl | rfl
    · exact good none (some g) W hS hj
    · exact goA (some g) W hS (ss _ g _ hS.al)
  intro o o' W hS
  cases o with
  | some g =>
    cases o' with
    | some g' => exact ss g g' W hS
    | none => exact sn g W hS
  | none =>
    cases o' with
    | some g' => exact ns g' W hS
    | none =>
      unfold XB2
      show wpAnyH P md ops Q _ (f + 1 + 1 + 1) listed _ W
      refine wpAnyH_all rfl (by intro e; rw [e] at e0; exact absurd e0.1.1 (by simp)) fun j hj => ?_
      have hj2 := List.all_eq_true.1 r0 j hj
      simp only [Bool.or_eq_true, beq_iff_eq] at hj2
      rcases hj2 with (rfl | rfl) | rfl
      · exact good none none W hS hj
      · exact goA none W hS (sn _ _ hS.al)
      · exact goB none W hS (ns _ _ hS.ar)
theorem call_atB2 (i : Nat) {d : Option Tmp} {op : Op} {ty : TypeId} {pos : String} {after : Array Edge} {guard : Option (Nat × Bool)} {f : Nat} {listed : Array Bool} {a : Act} {o o' : Option Nat} {W : World}
    (hA : AllocAt2 P ops Q A p T Z B q T' Z')
    (hi : ops[i]? = some ⟨d, op, ty, pos, after, guard⟩)
    (r0 : ((Region.ready md ops listed).all fun j => j == i || j == A || j == B) = true) (r1 : ((Region.ready md ops (listed.setIfInBounds A true)).all fun j => j == i || j == B) = true)
    (r2 : ((Region.ready md ops (listed.setIfInBounds B true)).all fun j => j == i || j == A) = true) (r3 : Region.ready md ops ((listed.setIfInBounds A true).setIfInBounds B true) = [i])
    (e0 : ((Region.ready md ops listed).isEmpty || (Region.ready md ops (listed.setIfInBounds A true)).isEmpty || (Region.ready md ops (listed.setIfInBounds B true)).isEmpty) = false)
    (hap : (ops[A]?.map fun oA => oA.apart ops ⟨d, op, ty, pos, after, guard⟩) = some true) (hbp : (ops[B]?.map fun oA => oA.apart ops ⟨d, op, ty, pos, after, guard⟩) = some true) (hAi : (A != i && B != i) = true)
    (hw : Region.wanted ⟨d, op, ty, pos, after, guard⟩ (yielded ops a.tmps) = true) (hS : HB2 w0 T Z T' Z' o o' W)
    (h : ∀ (o o' : Option Nat) (W : World), HB2 w0 T Z T' Z' o o' W → ∀ K' : Act → World → Prop,
      Shut (∀ a' W', Below W.heap.size W W' → (HB2 w0 T Z T' Z' o o' W' → XB2 P md ops Q w0 A p B q o o' f (listed.setIfInBounds i true) a' W') → K' a' W') → Oper.wp P ⟨d, op, ty, pos, after, guard⟩ a W K' Q) :
    XB2 P md ops Q w0 A p B q o o' (f + 1) listed a W := by
  obtain ⟨oA, hoA, a1, a2, a3⟩ := hA.l.get
  obtain ⟨oB, hoB, b1, b2, b3⟩ := hA.r.get
  rw [hoA] at hap
  rw [hoB] at hbp
  simp only [Option.map_some, Option.some.injEq] at hap hbp
  obtain ⟨h1, h2, h3⟩ := Oper.apart_spec hap
  obtain ⟨k1, k2, k3⟩ := Oper.apart_spec hbp
  rw [a2] at h1 h2
  rw [b2] at k1 k2
  simp only [Bool.and_eq_true, bne_iff_ne] at hAi
  have hsel := Region.noSelect_spec hA.l.sel
  have eA : ∀ v : Value, (fun (a : Act) => a.put oA.dst v) = fun a => a.put (some p) v := fun v => by rw [a2]
  refine allocs_atB2 hA i (fun o o' W hS _ => ?_) r0 r1 r2 r3 e0 o o' W hS
  refine wpOp_step hi fun K' hK => ?_
  have hwp : Region.wanted ⟨d, op, ty, pos, after, guard⟩ (yielded ops (act2 q o' (act2 p o a)).tmps) = true := by
    have e1 : Region.wanted ⟨d, op, ty, pos, after, guard⟩ (yielded ops (act2 p o a).tmps) = true := by
      cases o with
      | none => exact hw
      | some g => rw [show act2 p (some g) a = a.put (some p) (.pointer (some ⟨g, 0, none⟩)) from rfl, wanted_put _ a _ _ h1]; exact hw
    cases o' with
    | none => exact e1
    | some g => rw [show act2 q (some g) (act2 p o a) = (act2 p o a).put (some q) (.pointer (some ⟨g, 0, none⟩)) from rfl, wanted_put _ _ _ _ k1]; exact e1
  rw [if_pos hwp]
  have hx := h o o' W hS (fun a' W' => K' (act2 q o' (act2 p o a')) W') (fun a' W' hb hX => hK _ _ ⟨(hS.next hb).l.1, by
    have hX' := hX (hS.next hb)
    unfold XB2 at hX'
    rw [lst2_set A i o listed hAi.1, lst2_set B i o' _ hAi.2] at hX'
    exact hX'⟩)
  have s1 : Oper.wp P ⟨d, op, ty, pos, after, guard⟩ (act2 p o a) W (fun a' W' => K' (act2 q o' a') W') Q := by
    cases o with
    | none => exact hx
    | some g =>
      have := Oper.wp_put' (x := oA) (o := ⟨d, op, ty, pos, after, guard⟩) (v := .pointer (some ⟨g, 0, none⟩)) (a := a) (w := W) (K := fun a' W' => K' (act2 q o' a') W') (Q := Q) hap (fun cs b => hsel i _ cs b hi) hA.l.q (by rw [a2]; exact hx)
      rwa [a2] at this
  cases o' with
  | none => exact s1
  | some g =>
    have := Oper.wp_put' (x := oB) (o := ⟨d, op, ty, pos, after, guard⟩) (v := .pointer (some ⟨g, 0, none⟩)) (a := act2 p o a) (w := W) (K := K') (Q := Q) hbp (fun cs b => hsel i _ cs b hi) hA.r.q (by rw [b2]; exact s1)
    rwa [b2] at this
theorem both_atB2 (s : Nat) {f : Nat} {listed : Array Bool} {l : List Value} {l' : Nat → Nat → List Value} {df : List Deferred} {o o' : Option Nat} {W : World}
    (hA : AllocAt2 P ops Q A p T Z B q T' Z')
    (r0 : ((Region.ready md ops listed).all fun j => j == A || j == B) = true) (r1 : ((Region.ready md ops (listed.setIfInBounds A true)).all fun j => j == B) = true)
    (r2 : ((Region.ready md ops (listed.setIfInBounds B true)).all fun j => j == A) = true) (r3 : Region.ready md ops ((listed.setIfInBounds A true).setIfInBounds B true) = [s])
    (e0 : ((Region.ready md ops listed).isEmpty || (Region.ready md ops (listed.setIfInBounds A true)).isEmpty || (Region.ready md ops (listed.setIfInBounds B true)).isEmpty) = false)
    (hS : HB2 w0 T Z T' Z' o o' W)
    (hl : ∀ g g', (l.set p (.pointer (some ⟨g, 0, none⟩))).set q (.pointer (some ⟨g', 0, none⟩)) = l' g g')
    (h : ∀ g g' W', w0.heap.size ≤ g → w0.heap.size ≤ g' → g ≠ g' → Below w0.heap.size w0 W' → W'.heap[g]? = some (.cells Z T (0, 0)) → W'.heap[g']? = some (.cells Z' T' (0, 0)) →
      wpAnyH P md ops Q (fun W => Below w0.heap.size w0 W) (f + 1) ((listed.setIfInBounds A true).setIfInBounds B true) ⟨(l' g g').toArray, df⟩ W') :
    XB2 P md ops Q w0 A p B q o o' (f + 1) listed ⟨l.toArray, df⟩ W := by
  have hne := hA.ne
  simp only [Bool.and_eq_true, bne_iff_ne] at hne
  obtain ⟨n1, n2⟩ := ready_ne (l := listed) (s := s) (A := A) (B := B) (md := md) (ops := ops) (by rw [r3]; simp) hne.1
  refine allocs_atB2 hA s (fun o o' W hS hj => ?_) ?_ ?_ ?_ r3 e0 o o' W hS
  · cases o with
    | none =>
      exfalso
      cases o' with
      | none =>
        have := List.all_eq_true.1 r0 s hj
        simp only [Bool.or_eq_true, beq_iff_eq] at this
        exact this.elim n1 n2
      | some g' =>
        have := List.all_eq_true.1 r2 s hj
        simp only [beq_iff_eq] at this
        exact n1 this
    | some g =>
      cases o' with
      | none =>
        exfalso
        have := List.all_eq_true.1 r1 s hj
        simp only [beq_iff_eq] at this
        exact n2 this
      | some g' =>
        have := h g g' W (hS.l.2 g rfl).1 (hS.r.2 g' rfl).1 (hS.ne g g' rfl rfl) hS.l.1 (hS.l.2 g rfl).2 (hS.r.2 g' rfl).2
        rw [← hl g g'] at this
        have k := this.2 s hj
        simpa [Act.put, act2, fu2, lst2] using k
  · refine List.all_eq_true.2 fun j hj => ?_
    have := List.all_eq_true.1 r0 j hj
    simp only [Bool.or_eq_true] at this ⊢
    exact this.elim (fun h => .inl (.inr h)) .inr
  · refine List.all_eq_true.2 fun j hj => ?_
    have := List.all_eq_true.1 r1 j hj
    rw [this, Bool.or_true]
  · refine List.all_eq_true.2 fun j hj => ?_
    have := List.all_eq_true.1 r2 j hj
    rw [this, Bool.or_true]
end
end Go.Proofs.Ytfejabfmhddepaa

namespace Go.Proofs.Ytfejabfmhddepaa
open Go.RowKit
set_option linter.unusedVariables false
set_option maxRecDepth 100000
set_option maxHeartbeats 3200000 in
theorem ptdouble_any {R : Array Value → Nat → Prop} (C : FeC R) {a1 b1 d1 f1 : Array Value} {X1 Y1 Z1 T1 : Nat} {p1 : PtD} (ha1 : R a1 X1) (hb1 : R b1 Y1) (hd1 : R d1 Z1) (hf1 : R f1 T1) (hP1 : Pq X1 Y1 Z1 T1 p1) (w : World) : Calls Try.prog 28 #[.agg (quad a1 b1 d1 f1)] w (RetPt (ptRof R) w (padd p1 p1)) := by
  have Ra1 := Lib.hid ha1
  have Rb1 := Lib.hid hb1
  have Rd1 := Lib.hid hd1
  have Rf1 := Lib.hid hf1
  clear ha1 hb1 hd1 hf1
  have LX1 : Hid (X1 < PP) := Lib.hid (C.base.lt Ra1.out)
  have LY1 : Hid (Y1 < PP) := Lib.hid (C.base.lt Rb1.out)
  have LZ1 : Hid (Z1 < PP) := Lib.hid (C.base.lt Rd1.out)
  have LT1 : Hid (T1 < PP) := Lib.hid (C.base.lt Rf1.out)
  have HP1 := Lib.hid hP1
  clear hP1
  obtain ⟨Z, hZ, rZ⟩ := C.base.zero
  have RZZ := Lib.hid rZ
  have hzP := zp_of hZ
  have hz32 := zero32_zero
  clear rZ
  have HR0 := Lib.hid (((RowsW.nil w).box (quad a1 b1 d1 f1) 28).box (quad Z Z Z Z) 28)
  have HB0 := Lib.hid (below_box (below_box (Below.refl w.heap.size w) (quad a1 b1 d1 f1) 28) (quad Z Z Z Z) 28)
  rw [World.size_alloc] at HR0
  go_enter Try.func28, Try.ntmps28
  go_upto_region 1 with fail
  obtain ⟨W0, hW0⟩ : ∃ W, ((w.alloc (.cells (quad a1 b1 d1 f1) 28)).alloc (.cells (quad Z Z Z Z) 28)) = W := ⟨_, rfl⟩
  obtain ⟨g0, hg0⟩ : ∃ g, w.heap.size = g := ⟨_, rfl⟩
  rw [hW0] at HR0 HB0
  rw [hg0] at HR0
  rw [hW0, hg0]
  have HG0 := Lib.hid hg0
  clear hW0 hg0
  refine wp_region_noPanic ?_
  refine wp_region_heldB2 6 3 26 Z 7 4 26 Z (by kernel_rfl) (by kernel_rfl) ⟨⟨by kernel_rfl, by kernel_rfl, hZ, fun _ _ _ h => h⟩, ⟨by kernel_rfl, by kernel_rfl, hZ, fun _ _ _ h => h⟩, by kernel_rfl⟩ (fun hA hS => ?_)
  refine' take_atB2 0 hA rfl (by kernel_rfl) (by kernel_rfl) (by kernel_rfl) (by kernel_rfl) (by rfl) (by rfl) hS ?_ ?_ ?_
  rotate_left 2
  · intro W hSW; go_simp; try with_reducible rfl
  · simp only [List.set_cons_succ, List.set_cons_zero]; rfl
  refine' take_atB2 1 hA rfl (by kernel_rfl) (by kernel_rfl) (by kernel_rfl) (by kernel_rfl) (by rfl) (by rfl) hS ?_ ?_ ?_
  rotate_left 2
  · intro W hSW; exact run_loadP rfl rfl (HR0.out.below hSW).tail.head Try.underlying26 rfl (C.base.info Ra1.out) pp_0
  · simp only [List.set_cons_succ, List.set_cons_zero]; rfl
  refine' take_atB2 3 hA rfl (by kernel_rfl) (by kernel_rfl) (by kernel_rfl) (by kernel_rfl) (by rfl) (by rfl) hS ?_ ?_ ?_
  rotate_left 2
  · intro W hSW; go_simp; try with_reducible rfl
  · simp only [List.set_cons_succ, List.set_cons_zero]; rfl
  refine' take_atB2 4 hA rfl (by kernel_rfl) (by kernel_rfl) (by kernel_rfl) (by kernel_rfl) (by rfl) (by rfl) hS ?_ ?_ ?_
  rotate_left 2
  · intro W hSW; exact run_loadP rfl rfl (HR0.out.below hSW).tail.head Try.underlying26 rfl (C.base.info Rb1.out) (pp_1 (fe5 C.base Ra1.out))
  · simp only [List.set_cons_succ, List.set_cons_zero]; rfl
  refine call_atB2 2 hA rfl (by kernel_rfl) (by kernel_rfl) (by kernel_rfl) (by kernel_rfl) (by kernel_rfl) (by kernel_rfl) (by kernel_rfl) (by rfl) (by rfl) hS (fun oq2 pq2 Xq2 hS K hK => ?_)
  go_simp
  obtain ⟨n1, hn1⟩ : ∃ x_ : Nat, (X1 * X1) % PP = x_ := ⟨_, rfl⟩
  have Hn1 := Lib.hid hn1
  have HLn1 : Hid (n1 < PP) := Lib.hid (by rw [← hn1]; exact Nat.mod_lt _ (by decide))
  clear hn1
  with_reducible refine ((C.square Ra1.out) _).mono ?_
  rintro e vq2 ⟨cq2, rfl, rq2, hbq2⟩
  rw [Hn1.out] at rq2
  have Rq2 := Lib.hid rq2
  clear rq2
  refine hK.out _ _ hbq2 (fun hS => ?_)
  clear hK K hbq2
  refine call_atB2 5 hA rfl (by kernel_rfl) (by kernel_rfl) (by kernel_rfl) (by kernel_rfl) (by kernel_rfl) (by kernel_rfl) (by kernel_rfl) (by rfl) (by rfl) hS (fun oq4 pq4 Xq4 hS K hK => ?_)
  go_simp
  obtain ⟨n3, hn3⟩ : ∃ x_ : Nat, (Y1 * Y1) % PP = x_ := ⟨_, rfl⟩
  have Hn3 := Lib.hid hn3
  have HLn3 : Hid (n3 < PP) := Lib.hid (by rw [← hn3]; exact Nat.mod_lt _ (by decide))
  clear hn3
  with_reducible refine ((C.square Rb1.out) _).mono ?_
  rintro e vq4 ⟨cq4, rfl, rq4, hbq4⟩
  rw [Hn3.out] at rq4
  have Rq4 := Lib.hid rq4
  clear rq4
  refine hK.out _ _ hbq4 (fun hS => ?_)
  clear hK K hbq4
  refine' both_atB2 8 hA (by kernel_rfl) (by kernel_rfl) (by kernel_rfl) (by kernel_rfl) (by kernel_rfl) hS ?_ ?_
  rotate_left 1
  · intro g g'; simp only [List.set_cons_succ, List.set_cons_zero]; rfl
  intro gq6 gq7 Xq5 hgq6 hgq7 hneq5 hbq5 haq5 hcq5
  clear hA hS
  have hdq5 : (Xq5.setRow gq6 cq2).heap[gq7]? = some (.cells Z 26 (0, 0)) := by rw [setRow_other _ _ _ _ (Ne.symm hneq5)]; exact hcq5
  have heq5 : ((Xq5.setRow gq6 cq2).setRow gq7 cq4).heap[gq6]? = some (.cells cq2 26 (0, 0)) := by rw [setRow_other _ _ _ _ hneq5]; exact setRow_heap _ _ _ _ _ _ haq5
  refine call_at 8 rfl (by kernel_rfl) (by rfl) (fun K hK => ?_)
  refine wp_store_row 26 (.tmp 3) (.tmp 11) rfl gq6 cq2 rfl rfl 26 Z haq5 (C.base.info Rq2.out) (C.base.size RZZ.out Rq2.out) (C.base.one Rq2.out) ?_
  refine hK.out _ _ (by exact (below_row hbq5 hgq6)) (fun hS => ?_)
  clear hK K
  refine call_at 9 rfl (by kernel_rfl) (by rfl) (fun K hK => ?_)
  refine wp_store_row 26 (.tmp 4) (.tmp 14) rfl gq7 cq4 rfl rfl 26 Z hdq5 (C.base.info Rq4.out) (C.base.size RZZ.out Rq4.out) (C.base.one Rq4.out) ?_
  refine hK.out _ _ (by exact (below_row (below_row hbq5 hgq6) hgq7)) (fun hS => ?_)
  clear hK K
  clear hS
  refine wpAnyH_done (by kernel_rfl) ?_ _
  refine NoPanic.normal ?_
  (try simp only [Act.put])
  have HRq5 : Hid (RowsW ((Xq5.setRow gq6 cq2).setRow gq7 cq4) [(gq7, cq4, 26), (gq6, cq2, 26), ((g0 + 1), (quad Z Z Z Z), 28), (g0, (quad a1 b1 d1 f1), 28)]) := Lib.hid ⟨setRow_heap _ _ _ _ _ _ hdq5, heq5, ((HR0.out.below hbq5).setRow (fun r hr => by have h := HR0.out.lt r hr; have := hgq6; omega) _).setRow (fun r hr => by have h := HR0.out.lt r hr; have := hgq7; omega) _⟩
  have HBq5 : Hid (Below w.heap.size w ((Xq5.setRow gq6 cq2).setRow gq7 cq4)) := Lib.hid (below_next HB0.out (below_row (below_row hbq5 hgq6) hgq7))
  have NEq6_0 : Hid (g0 ≠ gq6) := Lib.hid (by have h := HR0.out.lt (g0, (quad a1 b1 d1 f1), 28) (by simp); have := hgq6; simp only at h; omega)
  have NEq7_0 : Hid (g0 ≠ gq7) := Lib.hid (by have h := HR0.out.lt (g0, (quad a1 b1 d1 f1), 28) (by simp); have := hgq7; simp only at h; omega)
  have NEq6_1 : Hid ((g0 + 1) ≠ gq6) := Lib.hid (by have h := HR0.out.lt ((g0 + 1), (quad Z Z Z Z), 28) (by simp); have := hgq6; simp only at h; omega)
  have NEq7_1 : Hid ((g0 + 1) ≠ gq7) := Lib.hid (by have h := HR0.out.lt ((g0 + 1), (quad Z Z Z Z), 28) (by simp); have := hgq7; simp only at h; omega)
  have NEq7_2 : Hid (gq6 ≠ gq7) := Lib.hid hneq5
  have HGq6 := Lib.hid (Nat.le_trans HB0.out.size hgq6)
  have HGq7 := Lib.hid (Nat.le_trans HB0.out.size hgq7)
  obtain ⟨Wq5, hWq5⟩ : ∃ W, ((Xq5.setRow gq6 cq2).setRow gq7 cq4) = W := ⟨_, rfl⟩
  rw [hWq5] at HRq5 HBq5
  (try rw [hWq5])
  clear hWq5 haq5 hcq5 hdq5 heq5 hgq6 hgq7 hneq5 hbq5
  go_upto_region 2 with fail
  have l8 := HRq5.out.tail.tail.tail.head
  go_wp2_with (refine wpList_runsV (o := ⟨some 16, _, _, _, _, _⟩) rfl (.agg d1) (run_loadP rfl rfl l8 Try.underlying26 rfl (C.base.info Rd1.out) (pp_2 (fe5 C.base Ra1.out) (fe5 C.base Rb1.out))) ?_)
  obtain ⟨n9, hn9⟩ : ∃ x_ : Nat, (Z1 * Z1) % PP = x_ := ⟨_, rfl⟩
  have Hn9 := Lib.hid hn9
  have HLn9 : Hid (n9 < PP) := Lib.hid (by rw [← hn9]; exact Nat.mod_lt _ (by decide))
  clear hn9
  with_reducible refine ((C.square Rd1.out) _).mono ?_
  rintro e vq10 ⟨cq10, rfl, rq10, hbq10⟩
  rw [Hn9.out] at rq10
  have Rq10 := Lib.hid rq10
  clear rq10
  have HRq10 := Lib.hid (HRq5.out.below hbq10)
  have HBq10 := Lib.hid (below_next HBq5.out hbq10)
  clear hbq10
  have h0q11 : (vq10.alloc (.cells Z 26)).heap[vq10.heap.size]? = some (.cells Z 26 (0, 0)) := heap_alloc_new _ _
  have HRq11 := Lib.hid (HRq10.out.new Z cq10 26)
  have HBq11 := Lib.hid (below_new HBq10.out Z cq10 26)
  have HNq11 := Lib.hid HRq10.out.ne
  have HGq11 := Lib.hid HBq10.out.size
  go_upto_region 3 with (refine wpList_store_row rfl 26 (.tmp 5) (.tmp 17) rfl vq10.heap.size cq10 rfl rfl 26 Z h0q11 (C.base.info Rq10.out) (C.base.size RZZ.out Rq10.out) (C.base.one Rq10.out) ?_)
  obtain ⟨Wq11, hWq11⟩ : ∃ W, (vq10.alloc (.cells Z 26)).setRow vq10.heap.size cq10 = W := ⟨_, rfl⟩
  obtain ⟨gq11, hgq11⟩ : ∃ g, vq10.heap.size = g := ⟨_, rfl⟩
  rw [hWq11, hgq11] at HRq11
  rw [hWq11] at HBq11
  rw [hgq11] at HNq11 HGq11
  rw [hWq11, hgq11]
  clear hWq11 hgq11 h0q11
  have NEq11_0 : Hid (g0 ≠ gq11) := Lib.hid (HNq11.out (g0, (quad a1 b1 d1 f1), 28) (by simp))
  have NEq11_1 : Hid ((g0 + 1) ≠ gq11) := Lib.hid (HNq11.out ((g0 + 1), (quad Z Z Z Z), 28) (by simp))
  have NEq11_2 : Hid (gq6 ≠ gq11) := Lib.hid (HNq11.out (gq6, cq2, 26) (by simp))
  have NEq11_3 : Hid (gq7 ≠ gq11) := Lib.hid (HNq11.out (gq7, cq4, 26) (by simp))
  refine wp_region_noPanic ?_
  refine wp_region_heldB2 6 6 26 Z 7 7 26 Z (by kernel_rfl) (by kernel_rfl) ⟨⟨by kernel_rfl, by kernel_rfl, hZ, fun _ _ _ h => h⟩, ⟨by kernel_rfl, by kernel_rfl, hZ, fun _ _ _ h => h⟩, by kernel_rfl⟩ (fun hA hS => ?_)
  refine' take_atB2 0 hA rfl (by kernel_rfl) (by kernel_rfl) (by kernel_rfl) (by kernel_rfl) (by rfl) (by rfl) hS ?_ ?_ ?_
  rotate_left 2
  · intro W hSW; exact run_loadR rfl rfl (HRq11.out.below hSW).tail.tail.head Try.underlying26 rfl (C.base.info Rq2.out)
  · simp only [List.set_cons_succ, List.set_cons_zero]; rfl
  refine' take_atB2 1 hA rfl (by kernel_rfl) (by kernel_rfl) (by kernel_rfl) (by kernel_rfl) (by rfl) (by rfl) hS ?_ ?_ ?_
  rotate_left 2
  · intro W hSW; exact run_loadR rfl rfl (HRq11.out.below hSW).tail.head Try.underlying26 rfl (C.base.info Rq4.out)
  · simp only [List.set_cons_succ, List.set_cons_zero]; rfl
  refine' take_atB2 3 hA rfl (by kernel_rfl) (by kernel_rfl) (by kernel_rfl) (by kernel_rfl) (by rfl) (by rfl) hS ?_ ?_ ?_
  rotate_left 2
  · intro W hSW; exact run_loadR rfl rfl (HRq11.out.below hSW).tail.head Try.underlying26 rfl (C.base.info Rq4.out)
  · simp only [List.set_cons_succ, List.set_cons_zero]; rfl
  refine' take_atB2 4 hA rfl (by kernel_rfl) (by kernel_rfl) (by kernel_rfl) (by kernel_rfl) (by rfl) (by rfl) hS ?_ ?_ ?_
  rotate_left 2
  · intro W hSW; exact run_loadR rfl rfl (HRq11.out.below hSW).tail.tail.head Try.underlying26 rfl (C.base.info Rq2.out)
  · simp only [List.set_cons_succ, List.set_cons_zero]; rfl
  refine call_atB2 2 hA rfl (by kernel_rfl) (by kernel_rfl) (by kernel_rfl) (by kernel_rfl) (by kernel_rfl) (by kernel_rfl) (by kernel_rfl) (by rfl) (by rfl) hS (fun oq13 pq13 Xq13 hS K hK => ?_)
  go_simp
  obtain ⟨n12, hn12⟩ : ∃ x_ : Nat, (n1 + n3) % PP = x_ := ⟨_, rfl⟩
  have Hn12 := Lib.hid hn12
  have HLn12 : Hid (n12 < PP) := Lib.hid (by rw [← hn12]; exact Nat.mod_lt _ (by decide))
  clear hn12
  with_reducible refine ((C.add Rq2.out Rq4.out) _).mono ?_
  rintro e vq13 ⟨cq13, rfl, rq13, hbq13⟩
  rw [Hn12.out] at rq13
  have Rq13 := Lib.hid rq13
  clear rq13
  refine hK.out _ _ hbq13 (fun hS => ?_)
  clear hK K hbq13
  refine call_atB2 5 hA rfl (by kernel_rfl) (by kernel_rfl) (by kernel_rfl) (by kernel_rfl) (by kernel_rfl) (by kernel_rfl) (by kernel_rfl) (by rfl) (by rfl) hS (fun oq15 pq15 Xq15 hS K hK => ?_)
  go_simp
  obtain ⟨n14, hn14⟩ : ∃ x_ : Nat, (n3 + (PP - n1)) % PP = x_ := ⟨_, rfl⟩
  have Hn14 := Lib.hid hn14
  have HLn14 : Hid (n14 < PP) := Lib.hid (by rw [← hn14]; exact Nat.mod_lt _ (by decide))
  clear hn14
  with_reducible refine ((C.sub Rq4.out Rq2.out) _).mono ?_
  rintro e vq15 ⟨cq15, rfl, rq15, hbq15⟩
  rw [Hn14.out] at rq15
  have Rq15 := Lib.hid rq15
  clear rq15
  refine hK.out _ _ hbq15 (fun hS => ?_)
  clear hK K hbq15
  refine' both_atB2 8 hA (by kernel_rfl) (by kernel_rfl) (by kernel_rfl) (by kernel_rfl) (by kernel_rfl) hS ?_ ?_
  rotate_left 1
  · intro g g'; simp only [List.set_cons_succ, List.set_cons_zero]; rfl
  intro gq17 gq18 Xq16 hgq17 hgq18 hneq16 hbq16 haq16 hcq16
  clear hA hS
  have hdq16 : (Xq16.setRow gq17 cq13).heap[gq18]? = some (.cells Z 26 (0, 0)) := by rw [setRow_other _ _ _ _ (Ne.symm hneq16)]; exact hcq16
  have heq16 : ((Xq16.setRow gq17 cq13).setRow gq18 cq15).heap[gq17]? = some (.cells cq13 26 (0, 0)) := by rw [setRow_other _ _ _ _ hneq16]; exact setRow_heap _ _ _ _ _ _ haq16
  refine call_at 8 rfl (by kernel_rfl) (by rfl) (fun K hK => ?_)
  refine wp_store_row 26 (.tmp 6) (.tmp 20) rfl gq17 cq13 rfl rfl 26 Z haq16 (C.base.info Rq13.out) (C.base.size RZZ.out Rq13.out) (C.base.one Rq13.out) ?_
  refine hK.out _ _ (by exact (below_row hbq16 hgq17)) (fun hS => ?_)
  clear hK K
  refine call_at 9 rfl (by kernel_rfl) (by rfl) (fun K hK => ?_)
  refine wp_store_row 26 (.tmp 7) (.tmp 23) rfl gq18 cq15 rfl rfl 26 Z hdq16 (C.base.info Rq15.out) (C.base.size RZZ.out Rq15.out) (C.base.one Rq15.out) ?_
  refine hK.out _ _ (by exact (below_row (below_row hbq16 hgq17) hgq18)) (fun hS => ?_)
  clear hK K
  clear hS
  refine wpAnyH_done (by kernel_rfl) ?_ _
  refine NoPanic.normal ?_
  (try simp only [Act.put])
  have HRq16 : Hid (RowsW ((Xq16.setRow gq17 cq13).setRow gq18 cq15) [(gq18, cq15, 26), (gq17, cq13, 26), (gq11, cq10, 26), (gq7, cq4, 26), (gq6, cq2, 26), ((g0 + 1), (quad Z Z Z Z), 28), (g0, (quad a1 b1 d1 f1), 28)]) := Lib.hid ⟨setRow_heap _ _ _ _ _ _ hdq16, heq16, ((HRq11.out.below hbq16).setRow (fun r hr => by have h := HRq11.out.lt r hr; have := hgq17; omega) _).setRow (fun r hr => by have h := HRq11.out.lt r hr; have := hgq18; omega) _⟩
  have HBq16 : Hid (Below w.heap.size w ((Xq16.setRow gq17 cq13).setRow gq18 cq15)) := Lib.hid (below_next HBq11.out (below_row (below_row hbq16 hgq17) hgq18))
  have NEq17_0 : Hid (g0 ≠ gq17) := Lib.hid (by have h := HRq11.out.lt (g0, (quad a1 b1 d1 f1), 28) (by simp); have := hgq17; simp only at h; omega)
  have NEq18_0 : Hid (g0 ≠ gq18) := Lib.hid (by have h := HRq11.out.lt (g0, (quad a1 b1 d1 f1), 28) (by simp); have := hgq18; simp only at h; omega)
  have NEq17_1 : Hid ((g0 + 1) ≠ gq17) := Lib.hid (by have h := HRq11.out.lt ((g0 + 1), (quad Z Z Z Z), 28) (by simp); have := hgq17; simp only at h; omega)
  have NEq18_1 : Hid ((g0 + 1) ≠ gq18) := Lib.hid (by have h := HRq11.out.lt ((g0 + 1), (quad Z Z Z Z), 28) (by simp); have := hgq18; simp only at h; omega)
  have NEq17_2 : Hid (gq6 ≠ gq17) := Lib.hid (by have h := HRq11.out.lt (gq6, cq2, 26) (by simp); have := hgq17; simp only at h; omega)
  have NEq18_2 : Hid (gq6 ≠ gq18) := Lib.hid (by have h := HRq11.out.lt (gq6, cq2, 26) (by simp); have := hgq18; simp only at h; omega)
  have NEq17_3 : Hid (gq7 ≠ gq17) := Lib.hid (by have h := HRq11.out.lt (gq7, cq4, 26) (by simp); have := hgq17; simp only at h; omega)
  have NEq18_3 : Hid (gq7 ≠ gq18) := Lib.hid (by have h := HRq11.out.lt (gq7, cq4, 26) (by simp); have := hgq18; simp only at h; omega)
  have NEq17_4 : Hid (gq11 ≠ gq17) := Lib.hid (by have h := HRq11.out.lt (gq11, cq10, 26) (by simp); have := hgq17; simp only at h; omega)
  have NEq18_4 : Hid (gq11 ≠ gq18) := Lib.hid (by have h := HRq11.out.lt (gq11, cq10, 26) (by simp); have := hgq18; simp only at h; omega)
  have NEq18_5 : Hid (gq17 ≠ gq18) := Lib.hid hneq16
  have HGq17 := Lib.hid (Nat.le_trans HBq11.out.size hgq17)
  have HGq18 := Lib.hid (Nat.le_trans HBq11.out.size hgq18)
  obtain ⟨Wq16, hWq16⟩ : ∃ W, ((Xq16.setRow gq17 cq13).setRow gq18 cq15) = W := ⟨_, rfl⟩
  rw [hWq16] at HRq16 HBq16
  (try rw [hWq16])
  clear hWq16 haq16 hcq16 hdq16 heq16 hgq17 hgq18 hneq16 hbq16
  go_upto_region 4 with fail
  refine wp_region_noPanic ?_
  refine wp_region_heldB 8 8 26 Z (by kernel_rfl) (by kernel_rfl) ⟨by kernel_rfl, by kernel_rfl, hZ, fun _ _ _ h => h⟩ (fun hA hS => ?_)
  refine' take_atB 0 hA rfl (by kernel_rfl) (by kernel_rfl) (by kernel_rfl) (by kernel_rfl) (by kernel_rfl) (by rfl) (by rfl) hS ?_ ?_ ?_
  rotate_left 2
  · intro W hSW; go_simp; try with_reducible rfl
  · simp only [List.set_cons_succ, List.set_cons_zero]; rfl
  refine' take_atB 1 hA rfl (by kernel_rfl) (by kernel_rfl) (by kernel_rfl) (by kernel_rfl) (by kernel_rfl) (by rfl) (by rfl) hS ?_ ?_ ?_
  rotate_left 2
  · intro W hSW; exact run_loadP rfl rfl (HRq16.out.below hSW).tail.tail.tail.tail.tail.tail.head Try.underlying26 rfl (C.base.info Ra1.out) pp_0
  · simp only [List.set_cons_succ, List.set_cons_zero]; rfl
  refine' take_atB 2 hA rfl (by kernel_rfl) (by kernel_rfl) (by kernel_rfl) (by kernel_rfl) (by kernel_rfl) (by rfl) (by rfl) hS ?_ ?_ ?_
  rotate_left 2
  · intro W hSW; go_simp; try with_reducible rfl
  · simp only [List.set_cons_succ, List.set_cons_zero]; rfl
  refine' take_atB 3 hA rfl (by kernel_rfl) (by kernel_rfl) (by kernel_rfl) (by kernel_rfl) (by kernel_rfl) (by rfl) (by rfl) hS ?_ ?_ ?_
  rotate_left 2
  · intro W hSW; exact run_loadP rfl rfl (HRq16.out.below hSW).tail.tail.tail.tail.tail.tail.head Try.underlying26 rfl (C.base.info Rb1.out) (pp_1 (fe5 C.base Ra1.out))
  · simp only [List.set_cons_succ, List.set_cons_zero]; rfl
  refine' take_atB 6 hA rfl (by kernel_rfl) (by kernel_rfl) (by kernel_rfl) (by kernel_rfl) (by kernel_rfl) (by rfl) (by rfl) hS ?_ ?_ ?_
  rotate_left 2
  · intro W hSW; exact run_loadR rfl rfl (HRq16.out.below hSW).tail.head Try.underlying26 rfl (C.base.info Rq13.out)
  · simp only [List.set_cons_succ, List.set_cons_zero]; rfl
  refine call_atB 4 hA rfl (by kernel_rfl) (by kernel_rfl) (by kernel_rfl) (by kernel_rfl) (by rfl) (by rfl) hS (fun oq20 Xq20 hS K hK => ?_)
  go_simp
  obtain ⟨n19, hn19⟩ : ∃ x_ : Nat, (X1 + Y1) % PP = x_ := ⟨_, rfl⟩
  have Hn19 := Lib.hid hn19
  have HLn19 : Hid (n19 < PP) := Lib.hid (by rw [← hn19]; exact Nat.mod_lt _ (by decide))
  clear hn19
  with_reducible refine ((C.add Ra1.out Rb1.out) _).mono ?_
  rintro e vq20 ⟨cq20, rfl, rq20, hbq20⟩
  rw [Hn19.out] at rq20
  have Rq20 := Lib.hid rq20
  clear rq20
  refine hK.out _ _ hbq20 (fun hS => ?_)
  clear hK K hbq20
  refine call_atB 5 hA rfl (by kernel_rfl) (by kernel_rfl) (by kernel_rfl) (by kernel_rfl) (by rfl) (by rfl) hS (fun oq22 Xq22 hS K hK => ?_)
  go_simp
  obtain ⟨n21, hn21⟩ : ∃ x_ : Nat, (n19 * n19) % PP = x_ := ⟨_, rfl⟩
  have Hn21 := Lib.hid hn21
  have HLn21 : Hid (n21 < PP) := Lib.hid (by rw [← hn21]; exact Nat.mod_lt _ (by decide))
  clear hn21
  with_reducible refine ((C.square Rq20.out) _).mono ?_
  rintro e vq22 ⟨cq22, rfl, rq22, hbq22⟩
  rw [Hn21.out] at rq22
  have Rq22 := Lib.hid rq22
  clear rq22
  refine hK.out _ _ hbq22 (fun hS => ?_)
  clear hK K hbq22
  refine call_atB 7 hA rfl (by kernel_rfl) (by kernel_rfl) (by kernel_rfl) (by kernel_rfl) (by rfl) (by rfl) hS (fun oq24 Xq24 hS K hK => ?_)
  go_simp
  obtain ⟨n23, hn23⟩ : ∃ x_ : Nat, (n21 + (PP - n12)) % PP = x_ := ⟨_, rfl⟩
  have Hn23 := Lib.hid hn23
  have HLn23 : Hid (n23 < PP) := Lib.hid (by rw [← hn23]; exact Nat.mod_lt _ (by decide))
  clear hn23
  with_reducible refine ((C.sub Rq22.out Rq13.out) _).mono ?_
  rintro e vq24 ⟨cq24, rfl, rq24, hbq24⟩
  rw [Hn23.out] at rq24
  have Rq24 := Lib.hid rq24
  clear rq24
  refine hK.out _ _ hbq24 (fun hS => ?_)
  clear hK K hbq24
  refine' store_atB 9 hA rfl (by kernel_rfl) (by kernel_rfl) (by kernel_rfl) hS (by kernel_rfl) rfl (by intro h; cases h) (C.base.info Rq24.out) (C.base.size RZZ.out Rq24.out) (C.base.one Rq24.out) ?_ ?_
  rotate_left 1
  · intro g; simp only [List.set_cons_succ, List.set_cons_zero]; rfl
  intro gq25 Wq25 hgq25 hbq25 hrowq25
  clear hA hS
  refine wpAnyH_done (by kernel_rfl) ?_ _
  refine NoPanic.normal ?_
  (try simp only [Act.put])
  have HRq25 : Hid (RowsW Wq25 [(gq25, cq24, 26), (gq18, cq15, 26), (gq17, cq13, 26), (gq11, cq10, 26), (gq7, cq4, 26), (gq6, cq2, 26), ((g0 + 1), (quad Z Z Z Z), 28), (g0, (quad a1 b1 d1 f1), 28)]) := Lib.hid ⟨hrowq25, HRq16.out.below hbq25⟩
  have HBq25 := Lib.hid (below_next HBq16.out hbq25)
  have NEq25_0 : Hid (g0 ≠ gq25) := Lib.hid (by have h := HRq16.out.lt (g0, (quad a1 b1 d1 f1), 28) (by simp); have := hgq25; simp only at h; omega)
  have NEq25_1 : Hid ((g0 + 1) ≠ gq25) := Lib.hid (by have h := HRq16.out.lt ((g0 + 1), (quad Z Z Z Z), 28) (by simp); have := hgq25; simp only at h; omega)
  have NEq25_2 : Hid (gq6 ≠ gq25) := Lib.hid (by have h := HRq16.out.lt (gq6, cq2, 26) (by simp); have := hgq25; simp only at h; omega)
  have NEq25_3 : Hid (gq7 ≠ gq25) := Lib.hid (by have h := HRq16.out.lt (gq7, cq4, 26) (by simp); have := hgq25; simp only at h; omega)
  have NEq25_4 : Hid (gq11 ≠ gq25) := Lib.hid (by have h := HRq16.out.lt (gq11, cq10, 26) (by simp); have := hgq25; simp only at h; omega)
  have NEq25_5 : Hid (gq17 ≠ gq25) := Lib.hid (by have h := HRq16.out.lt (gq17, cq13, 26) (by simp); have := hgq25; simp only at h; omega)
  have NEq25_6 : Hid (gq18 ≠ gq25) := Lib.hid (by have h := HRq16.out.lt (gq18, cq15, 26) (by simp); have := hgq25; simp only at h; omega)
  have HGq25 := Lib.hid (Nat.le_trans HBq16.out.size hgq25)
  clear hrowq25 hbq25 hgq25
  go_upto_region 5 with fail
  refine wp_region_noPanic ?_
  refine wp_region_held_tail (S := fun W => Below Wq25.heap.size Wq25 W) 9 (by kernel_rfl) ⟨by kernel_rfl, by kernel_rfl, by kernel_rfl, by kernel_rfl⟩ (by exact (Below.refl _ _).drew) (fun hT inv hS => ?_)
  refine' take_atT 0 hT inv rfl (by omega) (by kernel_rfl) (by kernel_rfl) (fun _ _ _ h => h) (by rfl) hS ?_ ?_ ?_
  rotate_left 2
  · intro W hSW; exact run_loadR rfl rfl (HRq25.out.below hSW).head Try.underlying26 rfl (C.base.info Rq24.out)
  · simp only [List.set_cons_succ, List.set_cons_zero]; rfl
  intro inv
  refine' take_atT 1 hT inv rfl (by omega) (by kernel_rfl) (by kernel_rfl) (fun _ _ _ h => h) (by rfl) hS ?_ ?_ ?_
  rotate_left 2
  · intro W hSW; exact run_loadR rfl rfl (HRq25.out.below hSW).tail.head Try.underlying26 rfl (C.base.info Rq15.out)
  · simp only [List.set_cons_succ, List.set_cons_zero]; rfl
  intro inv
  refine' take_atT 2 hT inv rfl (by omega) (by kernel_rfl) (by kernel_rfl) (fun _ _ _ h => h) (by rfl) hS ?_ ?_ ?_
  rotate_left 2
  · intro W hSW; exact run_loadR rfl rfl (HRq25.out.below hSW).tail.tail.head Try.underlying26 rfl (C.base.info Rq13.out)
  · simp only [List.set_cons_succ, List.set_cons_zero]; rfl
  intro inv
  refine' take_atT 3 hT inv rfl (by omega) (by kernel_rfl) (by kernel_rfl) (fun _ _ _ h => h) (by rfl) hS ?_ ?_ ?_
  rotate_left 2
  · intro W hSW; exact run_loadR rfl rfl (HRq25.out.below hSW).tail.tail.tail.head Try.underlying26 rfl (C.base.info Rq10.out)
  · simp only [List.set_cons_succ, List.set_cons_zero]; rfl
  intro inv
  refine' take_atT 4 hT inv rfl (by omega) (by kernel_rfl) (by kernel_rfl) (fun _ _ _ h => h) (by rfl) hS ?_ ?_ ?_
  rotate_left 2
  · intro W hSW; exact run_loadR rfl rfl (HRq25.out.below hSW).tail.tail.tail.head Try.underlying26 rfl (C.base.info Rq10.out)
  · simp only [List.set_cons_succ, List.set_cons_zero]; rfl
  intro inv
  refine' take_atT 6 hT inv rfl (by omega) (by kernel_rfl) (by kernel_rfl) (fun _ _ _ h => h) (by rfl) hS ?_ ?_ ?_
  rotate_left 2
  · intro W hSW; exact run_loadR rfl rfl (HRq25.out.below hSW).tail.head Try.underlying26 rfl (C.base.info Rq15.out)
  · simp only [List.set_cons_succ, List.set_cons_zero]; rfl
  intro inv
  refine call_atT 5 inv rfl (by omega) (by kernel_rfl) (by rfl) (fun K hK => ?_)
  go_simp
  obtain ⟨n26, hn26⟩ : ∃ x_ : Nat, (n9 + n9) % PP = x_ := ⟨_, rfl⟩
  have Hn26 := Lib.hid hn26
  have HLn26 : Hid (n26 < PP) := Lib.hid (by rw [← hn26]; exact Nat.mod_lt _ (by decide))
  clear hn26
  with_reducible refine ((C.add Rq10.out Rq10.out) _).mono ?_
  rintro e vq27 ⟨cq27, rfl, rq27, hbq27⟩
  rw [Hn26.out] at rq27
  have Rq27 := Lib.hid rq27
  clear rq27
  have kbq27 := below_next hS hbq27
  clear hS hbq27
  refine hK.out _ _ (by exact kbq27) (fun inv hS => ?_)
  clear hK K
  refine call_atT 7 inv rfl (by omega) (by kernel_rfl) (by rfl) (fun K hK => ?_)
  go_simp
  obtain ⟨n28, hn28⟩ : ∃ x_ : Nat, (n26 + (PP - n14)) % PP = x_ := ⟨_, rfl⟩
  have Hn28 := Lib.hid hn28
  have HLn28 : Hid (n28 < PP) := Lib.hid (by rw [← hn28]; exact Nat.mod_lt _ (by decide))
  clear hn28
  with_reducible refine ((C.sub Rq27.out Rq15.out) _).mono ?_
  rintro e vq29 ⟨cq29, rfl, rq29, hbq29⟩
  rw [Hn28.out] at rq29
  have Rq29 := Lib.hid rq29
  clear rq29
  have kbq29 := below_next kbq27 hbq29
  clear hS hbq29
  refine hK.out _ _ (by exact kbq29) (fun inv hS => ?_)
  clear hK K
  refine call_atT 8 inv rfl (by omega) (by kernel_rfl) (by rfl) (fun K hK => ?_)
  go_simp
  obtain ⟨n30, hn30⟩ : ∃ x_ : Nat, (n23 * n28) % PP = x_ := ⟨_, rfl⟩
  have Hn30 := Lib.hid hn30
  have HLn30 : Hid (n30 < PP) := Lib.hid (by rw [← hn30]; exact Nat.mod_lt _ (by decide))
  clear hn30
  obtain ⟨n31, hn31⟩ : ∃ x_ : Nat, (n14 * n12) % PP = x_ := ⟨_, rfl⟩
  have Hn31 := Lib.hid hn31
  have HLn31 : Hid (n31 < PP) := Lib.hid (by rw [← hn31]; exact Nat.mod_lt _ (by decide))
  clear hn31
  obtain ⟨n32, hn32⟩ : ∃ x_ : Nat, (n28 * n14) % PP = x_ := ⟨_, rfl⟩
  have Hn32 := Lib.hid hn32
  have HLn32 : Hid (n32 < PP) := Lib.hid (by rw [← hn32]; exact Nat.mod_lt _ (by decide))
  clear hn32
  obtain ⟨n33, hn33⟩ : ∃ x_ : Nat, (n23 * n12) % PP = x_ := ⟨_, rfl⟩
  have Hn33 := Lib.hid hn33
  have HLn33 : Hid (n33 < PP) := Lib.hid (by rw [← hn33]; exact Nat.mod_lt _ (by decide))
  clear hn33
  have kq34 := fun W : World => (ptratios_any C Rq24.out Rq15.out Rq13.out Rq29.out) W
  rw [Hn30.out, Hn31.out, Hn32.out, Hn33.out] at kq34
  have Kq34 := Lib.hid kq34
  clear kq34
  with_reducible refine (Kq34.out _).mono ?_
  rintro e vq34 ⟨aq34, bq34, dq34, fq34, rfl, hRaq34, hRbq34, hRdq34, hRfq34, hbq34⟩
  have Raq34 := Lib.hid hRaq34
  have Rbq34 := Lib.hid hRbq34
  have Rdq34 := Lib.hid hRdq34
  have Rfq34 := Lib.hid hRfq34
  clear hRaq34 hRbq34 hRdq34 hRfq34
  have kbq34 := below_next kbq29 hbq34
  clear hS hbq34
  refine hK.out _ _ (by exact kbq34) (fun inv hS => ?_)
  clear hK K
  refine done_atT (by kernel_rfl) ?_
  simp only [List.drop_succ_cons, List.drop_zero]
  clear hS
  (try simp only [Act.put])
  have HRq35 := Lib.hid (HRq25.out.below kbq34)
  have HBq35 := Lib.hid (below_next HBq25.out kbq34)
  have lsq36 := HRq35.out.tail.tail.tail.tail.tail.tail.head
  have HRq36 : Hid (RowsW (vq34.setRow (g0 + 1) (quad aq34 bq34 dq34 fq34)) [(gq25, cq24, 26), (gq18, cq15, 26), (gq17, cq13, 26), (gq11, cq10, 26), (gq7, cq4, 26), (gq6, cq2, 26), ((g0 + 1), (quad aq34 bq34 dq34 fq34), 28), (g0, (quad a1 b1 d1 f1), 28)]) := Lib.hid ⟨(by rw [setRow_other _ _ _ _ (Ne.symm NEq25_1.out)]; exact HRq35.out.head), (by rw [setRow_other _ _ _ _ (Ne.symm NEq18_1.out)]; exact HRq35.out.tail.head), (by rw [setRow_other _ _ _ _ (Ne.symm NEq17_1.out)]; exact HRq35.out.tail.tail.head), (by rw [setRow_other _ _ _ _ (Ne.symm NEq11_1.out)]; exact HRq35.out.tail.tail.tail.head), (by rw [setRow_other _ _ _ _ (Ne.symm NEq7_1.out)]; exact HRq35.out.tail.tail.tail.tail.head), (by rw [setRow_other _ _ _ _ (Ne.symm NEq6_1.out)]; exact HRq35.out.tail.tail.tail.tail.tail.head), setRow_heap _ _ _ _ _ _ lsq36, (by rw [setRow_other _ _ _ _ (by omega)]; exact HRq35.out.tail.tail.tail.tail.tail.tail.tail.head), trivial⟩
  have HBq36 := Lib.hid (below_row (g := (g0 + 1)) (cs := (quad aq34 bq34 dq34 fq34)) HBq35.out (by have := HG0.out; omega))
  go_wp2_with (refine wpList_store_row rfl 28 (.tmp 2) (.tmp 40) rfl (g0 + 1) (quad aq34 bq34 dq34 fq34) rfl rfl 28 (quad Z Z Z Z) lsq36 (pp_info C.base Raq34.out Rbq34.out Rdq34.out Rfq34.out) ((pp_size C.base RZZ.out RZZ.out RZZ.out RZZ.out).trans (pp_size C.base Raq34.out Rbq34.out Rdq34.out Rfq34.out).symm) (pp_one C.base Raq34.out Rbq34.out Rdq34.out Rfq34.out) ?_)
  obtain ⟨Wq36, hWq36⟩ : ∃ W, vq34.setRow (g0 + 1) (quad aq34 bq34 dq34 fq34) = W := ⟨_, rfl⟩
  rw [hWq36] at HRq36 HBq36
  (try rw [hWq36])
  clear hWq36 lsq36
  refine NoPanic.normal ?_
  go_wp2_with fail
  have HPD : Pq n30 n31 n32 n33 (padd p1 p1) := by
    rw [← Hn30.out, ← Hn31.out, ← Hn32.out, ← Hn33.out]
    exact pq_dbl HP1.out Hn1.out Hn3.out Hn9.out Hn12.out Hn14.out Hn19.out Hn21.out Hn23.out Hn26.out Hn28.out
  (try simp only [Exit.inBlock, Exit.then])
  refine bodyPost_ret (results_cell_row rfl _ _ (g0 + 1) _ (quad aq34 bq34 dq34 fq34) _ _ rfl HRq36.out.tail.tail.tail.tail.tail.tail.head Try.underlying28 rfl (pp_info C.base Raq34.out Rbq34.out Rdq34.out Rfq34.out)) rfl ?_
  exact ⟨_, rfl, ⟨_, _, _, _, _, _, _, _, rfl, Raq34.out, Rbq34.out, Rdq34.out, Rfq34.out, HPD⟩, HBq36.out⟩
set_option maxHeartbeats 3200000 in
theorem ptadd_any {R : Array Value → Nat → Prop} (C : FeC R) {a1 b1 d1 f1 : Array Value} {X1 Y1 Z1 T1 : Nat} {p1 : PtD} (ha1 : R a1 X1) (hb1 : R b1 Y1) (hd1 : R d1 Z1) (hf1 : R f1 T1) (hP1 : Pq X1 Y1 Z1 T1 p1) {a2 b2 d2 f2 : Array Value} {X2 Y2 Z2 T2 : Nat} {p2 : PtD} (ha2 : R a2 X2) (hb2 : R b2 Y2) (hd2 : R d2 Z2) (hf2 : R f2 T2) (hP2 : Pq X2 Y2 Z2 T2 p2) (w : World) : Calls Try.prog 19 #[.agg (quad a1 b1 d1 f1), .agg (quad a2 b2 d2 f2)] w (RetPt (ptRof R) w (padd p1 p2)) := by
  have Ra1 := Lib.hid ha1
  have Rb1 := Lib.hid hb1
  have Rd1 := Lib.hid hd1
  have Rf1 := Lib.hid hf1
  clear ha1 hb1 hd1 hf1
  have LX1 : Hid (X1 < PP) := Lib.hid (C.base.lt Ra1.out)
  have LY1 : Hid (Y1 < PP) := Lib.hid (C.base.lt Rb1.out)
  have LZ1 : Hid (Z1 < PP) := Lib.hid (C.base.lt Rd1.out)
  have LT1 : Hid (T1 < PP) := Lib.hid (C.base.lt Rf1.out)
  have HP1 := Lib.hid hP1
  clear hP1
  have Ra2 := Lib.hid ha2
  have Rb2 := Lib.hid hb2
  have Rd2 := Lib.hid hd2
  have Rf2 := Lib.hid hf2
  clear ha2 hb2 hd2 hf2
  have LX2 : Hid (X2 < PP) := Lib.hid (C.base.lt Ra2.out)
  have LY2 : Hid (Y2 < PP) := Lib.hid (C.base.lt Rb2.out)
  have LZ2 : Hid (Z2 < PP) := Lib.hid (C.base.lt Rd2.out)
  have LT2 : Hid (T2 < PP) := Lib.hid (C.base.lt Rf2.out)
  have HP2 := Lib.hid hP2
  clear hP2
  obtain ⟨Z, hZ, rZ⟩ := C.base.zero
  have RZZ := Lib.hid rZ
  have hzP := zp_of hZ
  have hz32 := zero32_zero
  clear rZ
  have HR0 := Lib.hid ((((RowsW.nil w).box (quad a1 b1 d1 f1) 28).box (quad a2 b2 d2 f2) 28).box (quad Z Z Z Z) 28)
  have HB0 := Lib.hid (below_box (below_box (below_box (Below.refl w.heap.size w) (quad a1 b1 d1 f1) 28) (quad a2 b2 d2 f2) 28) (quad Z Z Z Z) 28)
  rw [World.size_alloc] at HR0
  rw [World.size_alloc] at HR0
  go_enter Try.func19, Try.ntmps19
  go_upto_region 1 with fail
  obtain ⟨W0, hW0⟩ : ∃ W, (((w.alloc (.cells (quad a1 b1 d1 f1) 28)).alloc (.cells (quad a2 b2 d2 f2) 28)).alloc (.cells (quad Z Z Z Z) 28)) = W := ⟨_, rfl⟩
  obtain ⟨g0, hg0⟩ : ∃ g, w.heap.size = g := ⟨_, rfl⟩
  rw [hW0] at HR0 HB0
  rw [hg0] at HR0
  rw [hW0, hg0]
  have HG0 := Lib.hid hg0
  clear hW0 hg0
  refine wp_region_noPanic ?_
  refine wp_region_held_tail (S := fun W => Below W0.heap.size W0 W) 4 (by kernel_rfl) ⟨by kernel_rfl, by kernel_rfl, by kernel_rfl, by kernel_rfl⟩ (by exact (Below.refl _ _).drew) (fun hT inv hS => ?_)
  refine' take_atT 0 hT inv rfl (by omega) (by kernel_rfl) (by kernel_rfl) (fun _ _ _ h => h) (by rfl) hS ?_ ?_ ?_
  rotate_left 2
  · intro W hSW; exact run_loadR rfl rfl (HR0.out.below hSW).tail.tail.head Try.underlying28 rfl (pp_info C.base Ra1.out Rb1.out Rd1.out Rf1.out)
  · simp only [List.set_cons_succ, List.set_cons_zero]; rfl
  intro inv
  refine' take_atT 2 hT inv rfl (by omega) (by kernel_rfl) (by kernel_rfl) (fun _ _ _ h => h) (by rfl) hS ?_ ?_ ?_
  rotate_left 2
  · intro W hSW; exact run_loadR rfl rfl (HR0.out.below hSW).tail.head Try.underlying28 rfl (pp_info C.base Ra2.out Rb2.out Rd2.out Rf2.out)
  · simp only [List.set_cons_succ, List.set_cons_zero]; rfl
  intro inv
  refine call_atT 1 inv rfl (by omega) (by kernel_rfl) (by rfl) (fun K hK => ?_)
  go_simp
  have kq1 := fun W : World => (ptfilled_any C Ra1.out Rb1.out Rd1.out Rf1.out HP1.out) W
  have Kq1 := Lib.hid kq1
  clear kq1
  with_reducible refine (Kq1.out _).mono ?_
  rintro e vq1 ⟨aq1, bq1, dq1, fq1, Xq1, Yq1, Zq1, Tq1, rfl, hRaq1, hRbq1, hRdq1, hRfq1, hCq1, hbq1⟩
  have Raq1 := Lib.hid hRaq1
  have Rbq1 := Lib.hid hRbq1
  have Rdq1 := Lib.hid hRdq1
  have Rfq1 := Lib.hid hRfq1
  clear hRaq1 hRbq1 hRdq1 hRfq1
  have HCq1 := Lib.hid hCq1
  clear hCq1
  have kbq1 := below_next hS hbq1
  clear hS hbq1
  refine hK.out _ _ (by exact kbq1) (fun inv hS => ?_)
  clear hK K
  refine call_atT 3 inv rfl (by omega) (by kernel_rfl) (by rfl) (fun K hK => ?_)
  go_simp
  have kq2 := fun W : World => (ptfilled_any C Ra2.out Rb2.out Rd2.out Rf2.out HP2.out) W
  have Kq2 := Lib.hid kq2
  clear kq2
  with_reducible refine (Kq2.out _).mono ?_
  rintro e vq2 ⟨aq2, bq2, dq2, fq2, Xq2, Yq2, Zq2, Tq2, rfl, hRaq2, hRbq2, hRdq2, hRfq2, hCq2, hbq2⟩
  have Raq2 := Lib.hid hRaq2
  have Rbq2 := Lib.hid hRbq2
  have Rdq2 := Lib.hid hRdq2
  have Rfq2 := Lib.hid hRfq2
  clear hRaq2 hRbq2 hRdq2 hRfq2
  have HCq2 := Lib.hid hCq2
  clear hCq2
  have kbq2 := below_next kbq1 hbq2
  clear hS hbq2
  refine hK.out _ _ (by exact kbq2) (fun inv hS => ?_)
  clear hK K
  refine done_atT (by kernel_rfl) ?_
  simp only [List.drop_succ_cons, List.drop_zero]
  clear hS
  (try simp only [Act.put])
  have HRq3 := Lib.hid (HR0.out.below kbq2)
  have HBq3 := Lib.hid (below_next HB0.out kbq2)
  have lsq4_0 := HRq3.out.tail.tail.head
  have HRq4_0 : Hid (RowsW (vq2.setRow g0 (quad aq1 bq1 dq1 fq1)) [((g0 + 1 + 1), (quad Z Z Z Z), 28), ((g0 + 1), (quad a2 b2 d2 f2), 28), (g0, (quad aq1 bq1 dq1 fq1), 28)]) := Lib.hid ⟨(by rw [setRow_other _ _ _ _ (Ne.symm (by omega))]; exact HRq3.out.head), (by rw [setRow_other _ _ _ _ (Ne.symm (by omega))]; exact HRq3.out.tail.head), setRow_heap _ _ _ _ _ _ lsq4_0, trivial⟩
  have HBq4_0 := Lib.hid (below_row (g := g0) (cs := (quad aq1 bq1 dq1 fq1)) HBq3.out (by have := HG0.out; omega))
  have lsq4_1 := HRq4_0.out.tail.head
  have HRq4_1 : Hid (RowsW ((vq2.setRow g0 (quad aq1 bq1 dq1 fq1)).setRow (g0 + 1) (quad aq2 bq2 dq2 fq2)) [((g0 + 1 + 1), (quad Z Z Z Z), 28), ((g0 + 1), (quad aq2 bq2 dq2 fq2), 28), (g0, (quad aq1 bq1 dq1 fq1), 28)]) := Lib.hid ⟨(by rw [setRow_other _ _ _ _ (Ne.symm (by omega))]; exact HRq4_0.out.head), setRow_heap _ _ _ _ _ _ lsq4_1, (by rw [setRow_other _ _ _ _ (by omega)]; exact HRq4_0.out.tail.tail.head), trivial⟩
  have HBq4_1 := Lib.hid (below_row (g := (g0 + 1)) (cs := (quad aq2 bq2 dq2 fq2)) HBq4_0.out (by have := HG0.out; omega))
  go_wp2_with (first
      | (refine wpList_store_row rfl 28 (.tmp 2) (.tmp 10) rfl g0 (quad aq1 bq1 dq1 fq1) rfl rfl 28 (quad a1 b1 d1 f1) lsq4_0 (pp_info C.base Raq1.out Rbq1.out Rdq1.out Rfq1.out) ((pp_size C.base Ra1.out Rb1.out Rd1.out Rf1.out).trans (pp_size C.base Raq1.out Rbq1.out Rdq1.out Rfq1.out).symm) (pp_one C.base Raq1.out Rbq1.out Rdq1.out Rfq1.out) ?_)
      | (refine wpList_store_row rfl 28 (.tmp 3) (.tmp 12) rfl (g0 + 1) (quad aq2 bq2 dq2 fq2) rfl rfl 28 (quad a2 b2 d2 f2) lsq4_1 (pp_info C.base Raq2.out Rbq2.out Rdq2.out Rfq2.out) ((pp_size C.base Ra2.out Rb2.out Rd2.out Rf2.out).trans (pp_size C.base Raq2.out Rbq2.out Rdq2.out Rfq2.out).symm) (pp_one C.base Raq2.out Rbq2.out Rdq2.out Rfq2.out) ?_))
  obtain ⟨Wq4, hWq4⟩ : ∃ W, ((vq2.setRow g0 (quad aq1 bq1 dq1 fq1)).setRow (g0 + 1) (quad aq2 bq2 dq2 fq2)) = W := ⟨_, rfl⟩
  rw [hWq4] at HRq4_1 HBq4_1
  (try rw [hWq4])
  clear hWq4 lsq4_0 lsq4_1
  refine NoPanic.normal ?_
  go_upto_region 2 with fail
  refine wp_region_noPanic ?_
  refine wp_region_heldB 11 5 26 Z (by kernel_rfl) (by kernel_rfl) ⟨by kernel_rfl, by kernel_rfl, hZ, fun _ _ _ h => h⟩ (fun hA hS => ?_)
  refine' take_atB 0 hA rfl (by kernel_rfl) (by kernel_rfl) (by kernel_rfl) (by kernel_rfl) (by kernel_rfl) (by rfl) (by rfl) hS ?_ ?_ ?_
  rotate_left 2
  · intro W hSW; go_simp; try with_reducible rfl
  · simp only [List.set_cons_succ, List.set_cons_zero]; rfl
  refine' take_atB 1 hA rfl (by kernel_rfl) (by kernel_rfl) (by kernel_rfl) (by kernel_rfl) (by kernel_rfl) (by rfl) (by rfl) hS ?_ ?_ ?_
  rotate_left 2
  · intro W hSW; exact run_loadP rfl rfl (HRq4_1.out.below hSW).tail.tail.head Try.underlying26 rfl (C.base.info Rbq1.out) (pp_1 (fe5 C.base Raq1.out))
  · simp only [List.set_cons_succ, List.set_cons_zero]; rfl
  refine' take_atB 2 hA rfl (by kernel_rfl) (by kernel_rfl) (by kernel_rfl) (by kernel_rfl) (by kernel_rfl) (by rfl) (by rfl) hS ?_ ?_ ?_
  rotate_left 2
  · intro W hSW; go_simp; try with_reducible rfl
  · simp only [List.set_cons_succ, List.set_cons_zero]; rfl
  refine' take_atB 3 hA rfl (by kernel_rfl) (by kernel_rfl) (by kernel_rfl) (by kernel_rfl) (by kernel_rfl) (by rfl) (by rfl) hS ?_ ?_ ?_
  rotate_left 2
  · intro W hSW; exact run_loadP rfl rfl (HRq4_1.out.below hSW).tail.tail.head Try.underlying26 rfl (C.base.info Raq1.out) pp_0
  · simp only [List.set_cons_succ, List.set_cons_zero]; rfl
  refine' take_atB 5 hA rfl (by kernel_rfl) (by kernel_rfl) (by kernel_rfl) (by kernel_rfl) (by kernel_rfl) (by rfl) (by rfl) hS ?_ ?_ ?_
  rotate_left 2
  · intro W hSW; go_simp; try with_reducible rfl
  · simp only [List.set_cons_succ, List.set_cons_zero]; rfl
  refine' take_atB 6 hA rfl (by kernel_rfl) (by kernel_rfl) (by kernel_rfl) (by kernel_rfl) (by kernel_rfl) (by rfl) (by rfl) hS ?_ ?_ ?_
  rotate_left 2
  · intro W hSW; exact run_loadP rfl rfl (HRq4_1.out.below hSW).tail.head Try.underlying26 rfl (C.base.info Rbq2.out) (pp_1 (fe5 C.base Raq2.out))
  · simp only [List.set_cons_succ, List.set_cons_zero]; rfl
  refine' take_atB 7 hA rfl (by kernel_rfl) (by kernel_rfl) (by kernel_rfl) (by kernel_rfl) (by kernel_rfl) (by rfl) (by rfl) hS ?_ ?_ ?_
  rotate_left 2
  · intro W hSW; go_simp; try with_reducible rfl
  · simp only [List.set_cons_succ, List.set_cons_zero]; rfl
  refine' take_atB 8 hA rfl (by kernel_rfl) (by kernel_rfl) (by kernel_rfl) (by kernel_rfl) (by kernel_rfl) (by rfl) (by rfl) hS ?_ ?_ ?_
  rotate_left 2
  · intro W hSW; exact run_loadP rfl rfl (HRq4_1.out.below hSW).tail.head Try.underlying26 rfl (C.base.info Raq2.out) pp_0
  · simp only [List.set_cons_succ, List.set_cons_zero]; rfl
  refine call_atB 4 hA rfl (by kernel_rfl) (by kernel_rfl) (by kernel_rfl) (by kernel_rfl) (by rfl) (by rfl) hS (fun oq6 Xq6 hS K hK => ?_)
  go_simp
  obtain ⟨n5, hn5⟩ : ∃ x_ : Nat, (Yq1 + (PP - Xq1)) % PP = x_ := ⟨_, rfl⟩
  have Hn5 := Lib.hid hn5
  have HLn5 : Hid (n5 < PP) := Lib.hid (by rw [← hn5]; exact Nat.mod_lt _ (by decide))
  clear hn5
  with_reducible refine ((C.sub Rbq1.out Raq1.out) _).mono ?_
  rintro e vq6 ⟨cq6, rfl, rq6, hbq6⟩
  rw [Hn5.out] at rq6
  have Rq6 := Lib.hid rq6
  clear rq6
  refine hK.out _ _ hbq6 (fun hS => ?_)
  clear hK K hbq6
  refine call_atB 9 hA rfl (by kernel_rfl) (by kernel_rfl) (by kernel_rfl) (by kernel_rfl) (by rfl) (by rfl) hS (fun oq8 Xq8 hS K hK => ?_)
  go_simp
  obtain ⟨n7, hn7⟩ : ∃ x_ : Nat, (Yq2 + (PP - Xq2)) % PP = x_ := ⟨_, rfl⟩
  have Hn7 := Lib.hid hn7
  have HLn7 : Hid (n7 < PP) := Lib.hid (by rw [← hn7]; exact Nat.mod_lt _ (by decide))
  clear hn7
  with_reducible refine ((C.sub Rbq2.out Raq2.out) _).mono ?_
  rintro e vq8 ⟨cq8, rfl, rq8, hbq8⟩
  rw [Hn7.out] at rq8
  have Rq8 := Lib.hid rq8
  clear rq8
  refine hK.out _ _ hbq8 (fun hS => ?_)
  clear hK K hbq8
  refine call_atB 10 hA rfl (by kernel_rfl) (by kernel_rfl) (by kernel_rfl) (by kernel_rfl) (by rfl) (by rfl) hS (fun oq10 Xq10 hS K hK => ?_)
  go_simp
  obtain ⟨n9, hn9⟩ : ∃ x_ : Nat, (n5 * n7) % PP = x_ := ⟨_, rfl⟩
  have Hn9 := Lib.hid hn9
  have HLn9 : Hid (n9 < PP) := Lib.hid (by rw [← hn9]; exact Nat.mod_lt _ (by decide))
  clear hn9
  with_reducible refine ((C.mul Rq6.out Rq8.out) _).mono ?_
  rintro e vq10 ⟨cq10, rfl, rq10, hbq10⟩
  rw [Hn9.out] at rq10
  have Rq10 := Lib.hid rq10
  clear rq10
  refine hK.out _ _ hbq10 (fun hS => ?_)
  clear hK K hbq10
  refine' store_atB 12 hA rfl (by kernel_rfl) (by kernel_rfl) (by kernel_rfl) hS (by kernel_rfl) rfl (by intro h; cases h) (C.base.info Rq10.out) (C.base.size RZZ.out Rq10.out) (C.base.one Rq10.out) ?_ ?_
  rotate_left 1
  · intro g; simp only [List.set_cons_succ, List.set_cons_zero]; rfl
  intro gq11 Wq11 hgq11 hbq11 hrowq11
  clear hA hS
  refine wpAnyH_done (by kernel_rfl) ?_ _
  refine NoPanic.normal ?_
  (try simp only [Act.put])
  have HRq11 : Hid (RowsW Wq11 [(gq11, cq10, 26), ((g0 + 1 + 1), (quad Z Z Z Z), 28), ((g0 + 1), (quad aq2 bq2 dq2 fq2), 28), (g0, (quad aq1 bq1 dq1 fq1), 28)]) := Lib.hid ⟨hrowq11, HRq4_1.out.below hbq11⟩
  have HBq11 := Lib.hid (below_next HBq4_1.out hbq11)
  have NEq11_0 : Hid (g0 ≠ gq11) := Lib.hid (by have h := HRq4_1.out.lt (g0, (quad aq1 bq1 dq1 fq1), 28) (by simp); have := hgq11; simp only at h; omega)
  have NEq11_1 : Hid ((g0 + 1) ≠ gq11) := Lib.hid (by have h := HRq4_1.out.lt ((g0 + 1), (quad aq2 bq2 dq2 fq2), 28) (by simp); have := hgq11; simp only at h; omega)
  have NEq11_2 : Hid ((g0 + 1 + 1) ≠ gq11) := Lib.hid (by have h := HRq4_1.out.lt ((g0 + 1 + 1), (quad Z Z Z Z), 28) (by simp); have := hgq11; simp only at h; omega)
  have HGq11 := Lib.hid (Nat.le_trans HBq4_1.out.size hgq11)
  clear hrowq11 hbq11 hgq11
  go_upto_region 3 with fail
  refine wp_region_noPanic ?_
  refine wp_region_heldB 11 6 26 Z (by kernel_rfl) (by kernel_rfl) ⟨by kernel_rfl, by kernel_rfl, hZ, fun _ _ _ h => h⟩ (fun hA hS => ?_)
  refine' take_atB 0 hA rfl (by kernel_rfl) (by kernel_rfl) (by kernel_rfl) (by kernel_rfl) (by kernel_rfl) (by rfl) (by rfl) hS ?_ ?_ ?_
  rotate_left 2
  · intro W hSW; go_simp; try with_reducible rfl
  · simp only [List.set_cons_succ, List.set_cons_zero]; rfl
  refine' take_atB 1 hA rfl (by kernel_rfl) (by kernel_rfl) (by kernel_rfl) (by kernel_rfl) (by kernel_rfl) (by rfl) (by rfl) hS ?_ ?_ ?_
  rotate_left 2
  · intro W hSW; exact run_loadP rfl rfl (HRq11.out.below hSW).tail.tail.tail.head Try.underlying26 rfl (C.base.info Rbq1.out) (pp_1 (fe5 C.base Raq1.out))
  · simp only [List.set_cons_succ, List.set_cons_zero]; rfl
  refine' take_atB 2 hA rfl (by kernel_rfl) (by kernel_rfl) (by kernel_rfl) (by kernel_rfl) (by kernel_rfl) (by rfl) (by rfl) hS ?_ ?_ ?_
  rotate_left 2
  · intro W hSW; go_simp; try with_reducible rfl
  · simp only [List.set_cons_succ, List.set_cons_zero]; rfl
  refine' take_atB 3 hA rfl (by kernel_rfl) (by kernel_rfl) (by kernel_rfl) (by kernel_rfl) (by kernel_rfl) (by rfl) (by rfl) hS ?_ ?_ ?_
  rotate_left 2
  · intro W hSW; exact run_loadP rfl rfl (HRq11.out.below hSW).tail.tail.tail.head Try.underlying26 rfl (C.base.info Raq1.out) pp_0
  · simp only [List.set_cons_succ, List.set_cons_zero]; rfl
  refine' take_atB 5 hA rfl (by kernel_rfl) (by kernel_rfl) (by kernel_rfl) (by kernel_rfl) (by kernel_rfl) (by rfl) (by rfl) hS ?_ ?_ ?_
  rotate_left 2
  · intro W hSW; go_simp; try with_reducible rfl
  · simp only [List.set_cons_succ, List.set_cons_zero]; rfl
  refine' take_atB 6 hA rfl (by kernel_rfl) (by kernel_rfl) (by kernel_rfl) (by kernel_rfl) (by kernel_rfl) (by rfl) (by rfl) hS ?_ ?_ ?_
  rotate_left 2
  · intro W hSW; exact run_loadP rfl rfl (HRq11.out.below hSW).tail.tail.head Try.underlying26 rfl (C.base.info Rbq2.out) (pp_1 (fe5 C.base Raq2.out))
  · simp only [List.set_cons_succ, List.set_cons_zero]; rfl
  refine' take_atB 7 hA rfl (by kernel_rfl) (by kernel_rfl) (by kernel_rfl) (by kernel_rfl) (by kernel_rfl) (by rfl) (by rfl) hS ?_ ?_ ?_
  rotate_left 2
  · intro W hSW; go_simp; try with_reducible rfl
  · simp only [List.set_cons_succ, List.set_cons_zero]; rfl
  refine' take_atB 8 hA rfl (by kernel_rfl) (by kernel_rfl) (by kernel_rfl) (by kernel_rfl) (by kernel_rfl) (by rfl) (by rfl) hS ?_ ?_ ?_
  rotate_left 2
  · intro W hSW; exact run_loadP rfl rfl (HRq11.out.below hSW).tail.tail.head Try.underlying26 rfl (C.base.info Raq2.out) pp_0
  · simp only [List.set_cons_succ, List.set_cons_zero]; rfl
  refine call_atB 4 hA rfl (by kernel_rfl) (by kernel_rfl) (by kernel_rfl) (by kernel_rfl) (by rfl) (by rfl) hS (fun oq13 Xq13 hS K hK => ?_)
  go_simp
  obtain ⟨n12, hn12⟩ : ∃ x_ : Nat, (Yq1 + Xq1) % PP = x_ := ⟨_, rfl⟩
  have Hn12 := Lib.hid hn12
  have HLn12 : Hid (n12 < PP) := Lib.hid (by rw [← hn12]; exact Nat.mod_lt _ (by decide))
  clear hn12
  with_reducible refine ((C.add Rbq1.out Raq1.out) _).mono ?_
  rintro e vq13 ⟨cq13, rfl, rq13, hbq13⟩
  rw [Hn12.out] at rq13
  have Rq13 := Lib.hid rq13
  clear rq13
  refine hK.out _ _ hbq13 (fun hS => ?_)
  clear hK K hbq13
  refine call_atB 9 hA rfl (by kernel_rfl) (by kernel_rfl) (by kernel_rfl) (by kernel_rfl) (by rfl) (by rfl) hS (fun oq15 Xq15 hS K hK => ?_)
  go_simp
  obtain ⟨n14, hn14⟩ : ∃ x_ : Nat, (Yq2 + Xq2) % PP = x_ := ⟨_, rfl⟩
  have Hn14 := Lib.hid hn14
  have HLn14 : Hid (n14 < PP) := Lib.hid (by rw [← hn14]; exact Nat.mod_lt _ (by decide))
  clear hn14
  with_reducible refine ((C.add Rbq2.out Raq2.out) _).mono ?_
  rintro e vq15 ⟨cq15, rfl, rq15, hbq15⟩
  rw [Hn14.out] at rq15
  have Rq15 := Lib.hid rq15
  clear rq15
  refine hK.out _ _ hbq15 (fun hS => ?_)
  clear hK K hbq15
  refine call_atB 10 hA rfl (by kernel_rfl) (by kernel_rfl) (by kernel_rfl) (by kernel_rfl) (by rfl) (by rfl) hS (fun oq17 Xq17 hS K hK => ?_)
  go_simp
  obtain ⟨n16, hn16⟩ : ∃ x_ : Nat, (n12 * n14) % PP = x_ := ⟨_, rfl⟩
  have Hn16 := Lib.hid hn16
  have HLn16 : Hid (n16 < PP) := Lib.hid (by rw [← hn16]; exact Nat.mod_lt _ (by decide))
  clear hn16
  with_reducible refine ((C.mul Rq13.out Rq15.out) _).mono ?_
  rintro e vq17 ⟨cq17, rfl, rq17, hbq17⟩
  rw [Hn16.out] at rq17
  have Rq17 := Lib.hid rq17
  clear rq17
  refine hK.out _ _ hbq17 (fun hS => ?_)
  clear hK K hbq17
  refine' store_atB 12 hA rfl (by kernel_rfl) (by kernel_rfl) (by kernel_rfl) hS (by kernel_rfl) rfl (by intro h; cases h) (C.base.info Rq17.out) (C.base.size RZZ.out Rq17.out) (C.base.one Rq17.out) ?_ ?_
  rotate_left 1
  · intro g; simp only [List.set_cons_succ, List.set_cons_zero]; rfl
  intro gq18 Wq18 hgq18 hbq18 hrowq18
  clear hA hS
  refine wpAnyH_done (by kernel_rfl) ?_ _
  refine NoPanic.normal ?_
  (try simp only [Act.put])
  have HRq18 : Hid (RowsW Wq18 [(gq18, cq17, 26), (gq11, cq10, 26), ((g0 + 1 + 1), (quad Z Z Z Z), 28), ((g0 + 1), (quad aq2 bq2 dq2 fq2), 28), (g0, (quad aq1 bq1 dq1 fq1), 28)]) := Lib.hid ⟨hrowq18, HRq11.out.below hbq18⟩
  have HBq18 := Lib.hid (below_next HBq11.out hbq18)
  have NEq18_0 : Hid (g0 ≠ gq18) := Lib.hid (by have h := HRq11.out.lt (g0, (quad aq1 bq1 dq1 fq1), 28) (by simp); have := hgq18; simp only at h; omega)
  have NEq18_1 : Hid ((g0 + 1) ≠ gq18) := Lib.hid (by have h := HRq11.out.lt ((g0 + 1), (quad aq2 bq2 dq2 fq2), 28) (by simp); have := hgq18; simp only at h; omega)
  have NEq18_2 : Hid ((g0 + 1 + 1) ≠ gq18) := Lib.hid (by have h := HRq11.out.lt ((g0 + 1 + 1), (quad Z Z Z Z), 28) (by simp); have := hgq18; simp only at h; omega)
  have NEq18_3 : Hid (gq11 ≠ gq18) := Lib.hid (by have h := HRq11.out.lt (gq11, cq10, 26) (by simp); have := hgq18; simp only at h; omega)
  have HGq18 := Lib.hid (Nat.le_trans HBq11.out.size hgq18)
  clear hrowq18 hbq18 hgq18
  go_upto_region 4 with fail
  have l19 := HRq18.out.tail.tail.tail.tail.head
  have l20 := HRq18.out.tail.tail.tail.head
  go_wp2_with (first
      | (refine wpList_runsV (o := ⟨some 36, _, _, _, _, _⟩) rfl (.agg fq1) (run_loadP rfl rfl l19 Try.underlying26 rfl (C.base.info Rfq1.out) (pp_3 (fe5 C.base Raq1.out) (fe5 C.base Rbq1.out) (fe5 C.base Rdq1.out))) ?_)
      | (refine wpList_runsV (o := ⟨some 38, _, _, _, _, _⟩) rfl (.agg fq2) (run_loadP rfl rfl l20 Try.underlying26 rfl (C.base.info Rfq2.out) (pp_3 (fe5 C.base Raq2.out) (fe5 C.base Rbq2.out) (fe5 C.base Rdq2.out))) ?_))
  obtain ⟨n21, hn21⟩ : ∃ x_ : Nat, (Tq1 * Tq2) % PP = x_ := ⟨_, rfl⟩
  have Hn21 := Lib.hid hn21
  have HLn21 : Hid (n21 < PP) := Lib.hid (by rw [← hn21]; exact Nat.mod_lt _ (by decide))
  clear hn21
  with_reducible refine ((C.mul Rfq1.out Rfq2.out) _).mono ?_
  rintro e vq22 ⟨cq22, rfl, rq22, hbq22⟩
  rw [Hn21.out] at rq22
  have Rq22 := Lib.hid rq22
  clear rq22
  have HRq22 := Lib.hid (HRq18.out.below hbq22)
  have HBq22 := Lib.hid (below_next HBq18.out hbq22)
  clear hbq22
  go_wp2_with fail
  with_reducible refine ((ptd_any C) _).mono ?_
  rintro e vq23 ⟨cq23, rfl, rq23, hbq23⟩
  have Rq23 := Lib.hid rq23
  clear rq23
  have HRq23 := Lib.hid (HRq22.out.below hbq23)
  have HBq23 := Lib.hid (below_next HBq22.out hbq23)
  clear hbq23
  go_wp2_with fail
  obtain ⟨n24, hn24⟩ : ∃ x_ : Nat, (n21 * edN) % PP = x_ := ⟨_, rfl⟩
  have Hn24 := Lib.hid hn24
  have HLn24 : Hid (n24 < PP) := Lib.hid (by rw [← hn24]; exact Nat.mod_lt _ (by decide))
  clear hn24
  with_reducible refine ((C.mul Rq22.out Rq23.out) _).mono ?_
  rintro e vq25 ⟨cq25, rfl, rq25, hbq25⟩
  rw [Hn24.out] at rq25
  have Rq25 := Lib.hid rq25
  clear rq25
  have HRq25 := Lib.hid (HRq23.out.below hbq25)
  have HBq25 := Lib.hid (below_next HBq23.out hbq25)
  clear hbq25
  have h0q26 : (vq25.alloc (.cells Z 26)).heap[vq25.heap.size]? = some (.cells Z 26 (0, 0)) := heap_alloc_new _ _
  have HRq26 := Lib.hid (HRq25.out.new Z cq25 26)
  have HBq26 := Lib.hid (below_new HBq25.out Z cq25 26)
  have HNq26 := Lib.hid HRq25.out.ne
  have HGq26 := Lib.hid HBq25.out.size
  go_upto_region 5 with (refine wpList_store_row rfl 26 (.tmp 7) (.tmp 41) rfl vq25.heap.size cq25 rfl rfl 26 Z h0q26 (C.base.info Rq25.out) (C.base.size RZZ.out Rq25.out) (C.base.one Rq25.out) ?_)
  obtain ⟨Wq26, hWq26⟩ : ∃ W, (vq25.alloc (.cells Z 26)).setRow vq25.heap.size cq25 = W := ⟨_, rfl⟩
  obtain ⟨gq26, hgq26⟩ : ∃ g, vq25.heap.size = g := ⟨_, rfl⟩
  rw [hWq26, hgq26] at HRq26
  rw [hWq26] at HBq26
  rw [hgq26] at HNq26 HGq26
  rw [hWq26, hgq26]
  clear hWq26 hgq26 h0q26
  have NEq26_0 : Hid (g0 ≠ gq26) := Lib.hid (HNq26.out (g0, (quad aq1 bq1 dq1 fq1), 28) (by simp))
  have NEq26_1 : Hid ((g0 + 1) ≠ gq26) := Lib.hid (HNq26.out ((g0 + 1), (quad aq2 bq2 dq2 fq2), 28) (by simp))
  have NEq26_2 : Hid ((g0 + 1 + 1) ≠ gq26) := Lib.hid (HNq26.out ((g0 + 1 + 1), (quad Z Z Z Z), 28) (by simp))
  have NEq26_3 : Hid (gq11 ≠ gq26) := Lib.hid (HNq26.out (gq11, cq10, 26) (by simp))
  have NEq26_4 : Hid (gq18 ≠ gq26) := Lib.hid (HNq26.out (gq18, cq17, 26) (by simp))
  have l27 := HRq26.out.head
  have l28 := HRq26.out.head
  go_wp2_with (first
      | (refine wpList_load_row rfl 26 (.tmp 7) rfl gq26 rfl 26 cq25 (0, 0) _ l27 Try.underlying26 rfl (C.base.info Rq25.out) ?_)
      | (refine wpList_load_row rfl 26 (.tmp 7) rfl gq26 rfl 26 cq25 (0, 0) _ l28 Try.underlying26 rfl (C.base.info Rq25.out) ?_))
  obtain ⟨n29, hn29⟩ : ∃ x_ : Nat, (n24 + n24) % PP = x_ := ⟨_, rfl⟩
  have Hn29 := Lib.hid hn29
  have HLn29 : Hid (n29 < PP) := Lib.hid (by rw [← hn29]; exact Nat.mod_lt _ (by decide))
  clear hn29
  with_reducible refine ((C.add Rq25.out Rq25.out) _).mono ?_
  rintro e vq30 ⟨cq30, rfl, rq30, hbq30⟩
  rw [Hn29.out] at rq30
  have Rq30 := Lib.hid rq30
  clear rq30
  have HRq30 := Lib.hid (HRq26.out.below hbq30)
  have HBq30 := Lib.hid (below_next HBq26.out hbq30)
  clear hbq30
  have lsq31 := HRq30.out.head
  have HRq31 : Hid (RowsW (vq30.setRow gq26 cq30) [(gq26, cq30, 26), (gq18, cq17, 26), (gq11, cq10, 26), ((g0 + 1 + 1), (quad Z Z Z Z), 28), ((g0 + 1), (quad aq2 bq2 dq2 fq2), 28), (g0, (quad aq1 bq1 dq1 fq1), 28)]) := Lib.hid ⟨setRow_heap _ _ _ _ _ _ lsq31, (by rw [setRow_other _ _ _ _ NEq26_4.out]; exact HRq30.out.tail.head), (by rw [setRow_other _ _ _ _ NEq26_3.out]; exact HRq30.out.tail.tail.head), (by rw [setRow_other _ _ _ _ NEq26_2.out]; exact HRq30.out.tail.tail.tail.head), (by rw [setRow_other _ _ _ _ NEq26_1.out]; exact HRq30.out.tail.tail.tail.tail.head), (by rw [setRow_other _ _ _ _ NEq26_0.out]; exact HRq30.out.tail.tail.tail.tail.tail.head), trivial⟩
  have HBq31 := Lib.hid (below_row (g := gq26) (cs := cq30) HBq30.out HGq26.out)
  go_upto_region 6 with (refine wpList_store_row rfl 26 (.tmp 7) (.tmp 44) rfl gq26 cq30 rfl rfl 26 cq25 lsq31 (C.base.info Rq30.out) (C.base.size Rq25.out Rq30.out) (C.base.one Rq30.out) ?_)
  obtain ⟨Wq31, hWq31⟩ : ∃ W, vq30.setRow gq26 cq30 = W := ⟨_, rfl⟩
  rw [hWq31] at HRq31 HBq31
  (try rw [hWq31])
  clear hWq31 lsq31
  have l32 := HRq31.out.tail.tail.tail.tail.tail.head
  have l33 := HRq31.out.tail.tail.tail.tail.head
  go_wp2_with (first
      | (refine wpList_runsV (o := ⟨some 46, _, _, _, _, _⟩) rfl (.agg dq1) (run_loadP rfl rfl l32 Try.underlying26 rfl (C.base.info Rdq1.out) (pp_2 (fe5 C.base Raq1.out) (fe5 C.base Rbq1.out))) ?_)
      | (refine wpList_runsV (o := ⟨some 48, _, _, _, _, _⟩) rfl (.agg dq2) (run_loadP rfl rfl l33 Try.underlying26 rfl (C.base.info Rdq2.out) (pp_2 (fe5 C.base Raq2.out) (fe5 C.base Rbq2.out))) ?_))
  obtain ⟨n34, hn34⟩ : ∃ x_ : Nat, (Zq1 * Zq2) % PP = x_ := ⟨_, rfl⟩
  have Hn34 := Lib.hid hn34
  have HLn34 : Hid (n34 < PP) := Lib.hid (by rw [← hn34]; exact Nat.mod_lt _ (by decide))
  clear hn34
  with_reducible refine ((C.mul Rdq1.out Rdq2.out) _).mono ?_
  rintro e vq35 ⟨cq35, rfl, rq35, hbq35⟩
  rw [Hn34.out] at rq35
  have Rq35 := Lib.hid rq35
  clear rq35
  have HRq35 := Lib.hid (HRq31.out.below hbq35)
  have HBq35 := Lib.hid (below_next HBq31.out hbq35)
  clear hbq35
  have h0q36 : (vq35.alloc (.cells Z 26)).heap[vq35.heap.size]? = some (.cells Z 26 (0, 0)) := heap_alloc_new _ _
  have HRq36 := Lib.hid (HRq35.out.new Z cq35 26)
  have HBq36 := Lib.hid (below_new HBq35.out Z cq35 26)
  have HNq36 := Lib.hid HRq35.out.ne
  have HGq36 := Lib.hid HBq35.out.size
  go_upto_region 7 with (refine wpList_store_row rfl 26 (.tmp 8) (.tmp 49) rfl vq35.heap.size cq35 rfl rfl 26 Z h0q36 (C.base.info Rq35.out) (C.base.size RZZ.out Rq35.out) (C.base.one Rq35.out) ?_)
  obtain ⟨Wq36, hWq36⟩ : ∃ W, (vq35.alloc (.cells Z 26)).setRow vq35.heap.size cq35 = W := ⟨_, rfl⟩
  obtain ⟨gq36, hgq36⟩ : ∃ g, vq35.heap.size = g := ⟨_, rfl⟩
  rw [hWq36, hgq36] at HRq36
  rw [hWq36] at HBq36
  rw [hgq36] at HNq36 HGq36
  rw [hWq36, hgq36]
  clear hWq36 hgq36 h0q36
  have NEq36_0 : Hid (g0 ≠ gq36) := Lib.hid (HNq36.out (g0, (quad aq1 bq1 dq1 fq1), 28) (by simp))
  have NEq36_1 : Hid ((g0 + 1) ≠ gq36) := Lib.hid (HNq36.out ((g0 + 1), (quad aq2 bq2 dq2 fq2), 28) (by simp))
  have NEq36_2 : Hid ((g0 + 1 + 1) ≠ gq36) := Lib.hid (HNq36.out ((g0 + 1 + 1), (quad Z Z Z Z), 28) (by simp))
  have NEq36_3 : Hid (gq11 ≠ gq36) := Lib.hid (HNq36.out (gq11, cq10, 26) (by simp))
  have NEq36_4 : Hid (gq18 ≠ gq36) := Lib.hid (HNq36.out (gq18, cq17, 26) (by simp))
  have NEq36_5 : Hid (gq26 ≠ gq36) := Lib.hid (HNq36.out (gq26, cq30, 26) (by simp))
  have l37 := HRq36.out.head
  have l38 := HRq36.out.head
  go_wp2_with (first
      | (refine wpList_load_row rfl 26 (.tmp 8) rfl gq36 rfl 26 cq35 (0, 0) _ l37 Try.underlying26 rfl (C.base.info Rq35.out) ?_)
      | (refine wpList_load_row rfl 26 (.tmp 8) rfl gq36 rfl 26 cq35 (0, 0) _ l38 Try.underlying26 rfl (C.base.info Rq35.out) ?_))
  obtain ⟨n39, hn39⟩ : ∃ x_ : Nat, (n34 + n34) % PP = x_ := ⟨_, rfl⟩
  have Hn39 := Lib.hid hn39
  have HLn39 : Hid (n39 < PP) := Lib.hid (by rw [← hn39]; exact Nat.mod_lt _ (by decide))
  clear hn39
  with_reducible refine ((C.add Rq35.out Rq35.out) _).mono ?_
  rintro e vq40 ⟨cq40, rfl, rq40, hbq40⟩
  rw [Hn39.out] at rq40
  have Rq40 := Lib.hid rq40
  clear rq40
  have HRq40 := Lib.hid (HRq36.out.below hbq40)
  have HBq40 := Lib.hid (below_next HBq36.out hbq40)
  clear hbq40
  have lsq41 := HRq40.out.head
  have HRq41 : Hid (RowsW (vq40.setRow gq36 cq40) [(gq36, cq40, 26), (gq26, cq30, 26), (gq18, cq17, 26), (gq11, cq10, 26), ((g0 + 1 + 1), (quad Z Z Z Z), 28), ((g0 + 1), (quad aq2 bq2 dq2 fq2), 28), (g0, (quad aq1 bq1 dq1 fq1), 28)]) := Lib.hid ⟨setRow_heap _ _ _ _ _ _ lsq41, (by rw [setRow_other _ _ _ _ NEq36_5.out]; exact HRq40.out.tail.head), (by rw [setRow_other _ _ _ _ NEq36_4.out]; exact HRq40.out.tail.tail.head), (by rw [setRow_other _ _ _ _ NEq36_3.out]; exact HRq40.out.tail.tail.tail.head), (by rw [setRow_other _ _ _ _ NEq36_2.out]; exact HRq40.out.tail.tail.tail.tail.head), (by rw [setRow_other _ _ _ _ NEq36_1.out]; exact HRq40.out.tail.tail.tail.tail.tail.head), (by rw [setRow_other _ _ _ _ NEq36_0.out]; exact HRq40.out.tail.tail.tail.tail.tail.tail.head), trivial⟩
  have HBq41 := Lib.hid (below_row (g := gq36) (cs := cq40) HBq40.out HGq36.out)
  go_upto_region 8 with (refine wpList_store_row rfl 26 (.tmp 8) (.tmp 52) rfl gq36 cq40 rfl rfl 26 cq35 lsq41 (C.base.info Rq40.out) (C.base.size Rq35.out Rq40.out) (C.base.one Rq40.out) ?_)
  obtain ⟨Wq41, hWq41⟩ : ∃ W, vq40.setRow gq36 cq40 = W := ⟨_, rfl⟩
  rw [hWq41] at HRq41 HBq41
  (try rw [hWq41])
  clear hWq41 lsq41
  refine wp_region_noPanic ?_
  refine wp_region_held_tail (S := fun W => Below Wq41.heap.size Wq41 W) 13 (by kernel_rfl) ⟨by kernel_rfl, by kernel_rfl, by kernel_rfl, by kernel_rfl⟩ (by exact (Below.refl _ _).drew) (fun hT inv hS => ?_)
  refine' take_atT 0 hT inv rfl (by omega) (by kernel_rfl) (by kernel_rfl) (fun _ _ _ h => h) (by rfl) hS ?_ ?_ ?_
  rotate_left 2
  · intro W hSW; exact run_loadR rfl rfl (HRq41.out.below hSW).tail.tail.head Try.underlying26 rfl (C.base.info Rq17.out)
  · simp only [List.set_cons_succ, List.set_cons_zero]; rfl
  intro inv
  refine' take_atT 1 hT inv rfl (by omega) (by kernel_rfl) (by kernel_rfl) (fun _ _ _ h => h) (by rfl) hS ?_ ?_ ?_
  rotate_left 2
  · intro W hSW; exact run_loadR rfl rfl (HRq41.out.below hSW).tail.tail.tail.head Try.underlying26 rfl (C.base.info Rq10.out)
  · simp only [List.set_cons_succ, List.set_cons_zero]; rfl
  intro inv
  refine' take_atT 3 hT inv rfl (by omega) (by kernel_rfl) (by kernel_rfl) (fun _ _ _ h => h) (by rfl) hS ?_ ?_ ?_
  rotate_left 2
  · intro W hSW; exact run_loadR rfl rfl (HRq41.out.below hSW).head Try.underlying26 rfl (C.base.info Rq40.out)
  · simp only [List.set_cons_succ, List.set_cons_zero]; rfl
  intro inv
  refine' take_atT 4 hT inv rfl (by omega) (by kernel_rfl) (by kernel_rfl) (fun _ _ _ h => h) (by rfl) hS ?_ ?_ ?_
  rotate_left 2
  · intro W hSW; exact run_loadR rfl rfl (HRq41.out.below hSW).tail.head Try.underlying26 rfl (C.base.info Rq30.out)
  · simp only [List.set_cons_succ, List.set_cons_zero]; rfl
  intro inv
  refine' take_atT 6 hT inv rfl (by omega) (by kernel_rfl) (by kernel_rfl) (fun _ _ _ h => h) (by rfl) hS ?_ ?_ ?_
  rotate_left 2
  · intro W hSW; exact run_loadR rfl rfl (HRq41.out.below hSW).tail.tail.head Try.underlying26 rfl (C.base.info Rq17.out)
  · simp only [List.set_cons_succ, List.set_cons_zero]; rfl
  intro inv
  refine' take_atT 7 hT inv rfl (by omega) (by kernel_rfl) (by kernel_rfl) (fun _ _ _ h => h) (by rfl) hS ?_ ?_ ?_
  rotate_left 2
  · intro W hSW; exact run_loadR rfl rfl (HRq41.out.below hSW).tail.tail.tail.head Try.underlying26 rfl (C.base.info Rq10.out)
  · simp only [List.set_cons_succ, List.set_cons_zero]; rfl
  intro inv
  refine' take_atT 9 hT inv rfl (by omega) (by kernel_rfl) (by kernel_rfl) (fun _ _ _ h => h) (by rfl) hS ?_ ?_ ?_
  rotate_left 2
  · intro W hSW; exact run_loadR rfl rfl (HRq41.out.below hSW).head Try.underlying26 rfl (C.base.info Rq40.out)
  · simp only [List.set_cons_succ, List.set_cons_zero]; rfl
  intro inv
  refine' take_atT 10 hT inv rfl (by omega) (by kernel_rfl) (by kernel_rfl) (fun _ _ _ h => h) (by rfl) hS ?_ ?_ ?_
  rotate_left 2
  · intro W hSW; exact run_loadR rfl rfl (HRq41.out.below hSW).tail.head Try.underlying26 rfl (C.base.info Rq30.out)
  · simp only [List.set_cons_succ, List.set_cons_zero]; rfl
  intro inv
  refine call_atT 2 inv rfl (by omega) (by kernel_rfl) (by rfl) (fun K hK => ?_)
  go_simp
  obtain ⟨n42, hn42⟩ : ∃ x_ : Nat, (n16 + (PP - n9)) % PP = x_ := ⟨_, rfl⟩
  have Hn42 := Lib.hid hn42
  have HLn42 : Hid (n42 < PP) := Lib.hid (by rw [← hn42]; exact Nat.mod_lt _ (by decide))
  clear hn42
  with_reducible refine ((C.sub Rq17.out Rq10.out) _).mono ?_
  rintro e vq43 ⟨cq43, rfl, rq43, hbq43⟩
  rw [Hn42.out] at rq43
  have Rq43 := Lib.hid rq43
  clear rq43
  have kbq43 := below_next hS hbq43
  clear hS hbq43
  refine hK.out _ _ (by exact kbq43) (fun inv hS => ?_)
  clear hK K
  refine call_atT 5 inv rfl (by omega) (by kernel_rfl) (by rfl) (fun K hK => ?_)
  go_simp
  obtain ⟨n44, hn44⟩ : ∃ x_ : Nat, (n39 + n29) % PP = x_ := ⟨_, rfl⟩
  have Hn44 := Lib.hid hn44
  have HLn44 : Hid (n44 < PP) := Lib.hid (by rw [← hn44]; exact Nat.mod_lt _ (by decide))
  clear hn44
  with_reducible refine ((C.add Rq40.out Rq30.out) _).mono ?_
  rintro e vq45 ⟨cq45, rfl, rq45, hbq45⟩
  rw [Hn44.out] at rq45
  have Rq45 := Lib.hid rq45
  clear rq45
  have kbq45 := below_next kbq43 hbq45
  clear hS hbq45
  refine hK.out _ _ (by exact kbq45) (fun inv hS => ?_)
  clear hK K
  refine call_atT 8 inv rfl (by omega) (by kernel_rfl) (by rfl) (fun K hK => ?_)
  go_simp
  obtain ⟨n46, hn46⟩ : ∃ x_ : Nat, (n16 + n9) % PP = x_ := ⟨_, rfl⟩
  have Hn46 := Lib.hid hn46
  have HLn46 : Hid (n46 < PP) := Lib.hid (by rw [← hn46]; exact Nat.mod_lt _ (by decide))
  clear hn46
  with_reducible refine ((C.add Rq17.out Rq10.out) _).mono ?_
  rintro e vq47 ⟨cq47, rfl, rq47, hbq47⟩
  rw [Hn46.out] at rq47
  have Rq47 := Lib.hid rq47
  clear rq47
  have kbq47 := below_next kbq45 hbq47
  clear hS hbq47
  refine hK.out _ _ (by exact kbq47) (fun inv hS => ?_)
  clear hK K
  refine call_atT 11 inv rfl (by omega) (by kernel_rfl) (by rfl) (fun K hK => ?_)
  go_simp
  obtain ⟨n48, hn48⟩ : ∃ x_ : Nat, (n39 + (PP - n29)) % PP = x_ := ⟨_, rfl⟩
  have Hn48 := Lib.hid hn48
  have HLn48 : Hid (n48 < PP) := Lib.hid (by rw [← hn48]; exact Nat.mod_lt _ (by decide))
  clear hn48
  with_reducible refine ((C.sub Rq40.out Rq30.out) _).mono ?_
  rintro e vq49 ⟨cq49, rfl, rq49, hbq49⟩
  rw [Hn48.out] at rq49
  have Rq49 := Lib.hid rq49
  clear rq49
  have kbq49 := below_next kbq47 hbq49
  clear hS hbq49
  refine hK.out _ _ (by exact kbq49) (fun inv hS => ?_)
  clear hK K
  refine call_atT 12 inv rfl (by omega) (by kernel_rfl) (by rfl) (fun K hK => ?_)
  go_simp
  obtain ⟨n50, hn50⟩ : ∃ x_ : Nat, (n42 * n48) % PP = x_ := ⟨_, rfl⟩
  have Hn50 := Lib.hid hn50
  have HLn50 : Hid (n50 < PP) := Lib.hid (by rw [← hn50]; exact Nat.mod_lt _ (by decide))
  clear hn50
  obtain ⟨n51, hn51⟩ : ∃ x_ : Nat, (n44 * n46) % PP = x_ := ⟨_, rfl⟩
  have Hn51 := Lib.hid hn51
  have HLn51 : Hid (n51 < PP) := Lib.hid (by rw [← hn51]; exact Nat.mod_lt _ (by decide))
  clear hn51
  obtain ⟨n52, hn52⟩ : ∃ x_ : Nat, (n48 * n44) % PP = x_ := ⟨_, rfl⟩
  have Hn52 := Lib.hid hn52
  have HLn52 : Hid (n52 < PP) := Lib.hid (by rw [← hn52]; exact Nat.mod_lt _ (by decide))
  clear hn52
  obtain ⟨n53, hn53⟩ : ∃ x_ : Nat, (n42 * n46) % PP = x_ := ⟨_, rfl⟩
  have Hn53 := Lib.hid hn53
  have HLn53 : Hid (n53 < PP) := Lib.hid (by rw [← hn53]; exact Nat.mod_lt _ (by decide))
  clear hn53
  have kq54 := fun W : World => (ptratios_any C Rq43.out Rq45.out Rq47.out Rq49.out) W
  rw [Hn50.out, Hn51.out, Hn52.out, Hn53.out] at kq54
  have Kq54 := Lib.hid kq54
  clear kq54
  with_reducible refine (Kq54.out _).mono ?_
  rintro e vq54 ⟨aq54, bq54, dq54, fq54, rfl, hRaq54, hRbq54, hRdq54, hRfq54, hbq54⟩
  have Raq54 := Lib.hid hRaq54
  have Rbq54 := Lib.hid hRbq54
  have Rdq54 := Lib.hid hRdq54
  have Rfq54 := Lib.hid hRfq54
  clear hRaq54 hRbq54 hRdq54 hRfq54
  have kbq54 := below_next kbq49 hbq54
  clear hS hbq54
  refine hK.out _ _ (by exact kbq54) (fun inv hS => ?_)
  clear hK K
  refine done_atT (by kernel_rfl) ?_
  simp only [List.drop_succ_cons, List.drop_zero]
  clear hS
  (try simp only [Act.put])
  have HRq55 := Lib.hid (HRq41.out.below kbq54)
  have HBq55 := Lib.hid (below_next HBq41.out kbq54)
  have lsq56 := HRq55.out.tail.tail.tail.tail.head
  have HRq56 : Hid (RowsW (vq54.setRow (g0 + 1 + 1) (quad aq54 bq54 dq54 fq54)) [(gq36, cq40, 26), (gq26, cq30, 26), (gq18, cq17, 26), (gq11, cq10, 26), ((g0 + 1 + 1), (quad aq54 bq54 dq54 fq54), 28), ((g0 + 1), (quad aq2 bq2 dq2 fq2), 28), (g0, (quad aq1 bq1 dq1 fq1), 28)]) := Lib.hid ⟨(by rw [setRow_other _ _ _ _ (Ne.symm NEq36_2.out)]; exact HRq55.out.head), (by rw [setRow_other _ _ _ _ (Ne.symm NEq26_2.out)]; exact HRq55.out.tail.head), (by rw [setRow_other _ _ _ _ (Ne.symm NEq18_2.out)]; exact HRq55.out.tail.tail.head), (by rw [setRow_other _ _ _ _ (Ne.symm NEq11_2.out)]; exact HRq55.out.tail.tail.tail.head), setRow_heap _ _ _ _ _ _ lsq56, (by rw [setRow_other _ _ _ _ (by omega)]; exact HRq55.out.tail.tail.tail.tail.tail.head), (by rw [setRow_other _ _ _ _ (by omega)]; exact HRq55.out.tail.tail.tail.tail.tail.tail.head), trivial⟩
  have HBq56 := Lib.hid (below_row (g := (g0 + 1 + 1)) (cs := (quad aq54 bq54 dq54 fq54)) HBq55.out (by have := HG0.out; omega))
  go_wp2_with (refine wpList_store_row rfl 28 (.tmp 4) (.tmp 65) rfl (g0 + 1 + 1) (quad aq54 bq54 dq54 fq54) rfl rfl 28 (quad Z Z Z Z) lsq56 (pp_info C.base Raq54.out Rbq54.out Rdq54.out Rfq54.out) ((pp_size C.base RZZ.out RZZ.out RZZ.out RZZ.out).trans (pp_size C.base Raq54.out Rbq54.out Rdq54.out Rfq54.out).symm) (pp_one C.base Raq54.out Rbq54.out Rdq54.out Rfq54.out) ?_)
  obtain ⟨Wq56, hWq56⟩ : ∃ W, vq54.setRow (g0 + 1 + 1) (quad aq54 bq54 dq54 fq54) = W := ⟨_, rfl⟩
  rw [hWq56] at HRq56 HBq56
  (try rw [hWq56])
  clear hWq56 lsq56
  refine NoPanic.normal ?_
  go_wp2_with fail
  have HCO : Co n50 n51 n52 n53 (padd p1 p2) := by
    rw [← Hn50.out, ← Hn51.out, ← Hn52.out, ← Hn53.out]
    exact co_add2 HCq1.out HCq2.out (by rw [Hn5.out, Hn7.out, Hn9.out]) (by rw [Hn12.out, Hn14.out, Hn16.out]) Hn21.out Hn24.out Hn29.out Hn34.out Hn39.out Hn42.out Hn48.out Hn44.out Hn46.out
  (try simp only [Exit.inBlock, Exit.then])
  refine bodyPost_ret (results_cell_row rfl _ _ (g0 + 1 + 1) _ (quad aq54 bq54 dq54 fq54) _ _ rfl HRq56.out.tail.tail.tail.tail.head Try.underlying28 rfl (pp_info C.base Raq54.out Rbq54.out Rdq54.out Rfq54.out)) rfl ?_
  exact ⟨_, rfl, ⟨_, _, _, _, _, _, _, _, rfl, Raq54.out, Rbq54.out, Rdq54.out, Rfq54.out, .inl HCO⟩, HBq56.out⟩
set_option maxHeartbeats 3200000 in
theorem ptequal_any {R : Array Value → Nat → Prop} (C : FeC R) {a1 b1 d1 f1 : Array Value} {X1 Y1 Z1 T1 : Nat} {p1 : PtD} (ha1 : R a1 X1) (hb1 : R b1 Y1) (hd1 : R d1 Z1) (hf1 : R f1 T1) (hP1 : Pq X1 Y1 Z1 T1 p1) {a2 b2 d2 f2 : Array Value} {X2 Y2 Z2 T2 : Nat} {p2 : PtD} (ha2 : R a2 X2) (hb2 : R b2 Y2) (hd2 : R d2 Z2) (hf2 : R f2 T2) (hP2 : Pq X2 Y2 Z2 T2 p2) (w : World) : Calls Try.prog 18 #[.agg (quad a1 b1 d1 f1), .agg (quad a2 b2 d2 f2)] w (RetV w (.bool (ptEq p1 p2))) := by
  have Ra1 := Lib.hid ha1
  have Rb1 := Lib.hid hb1
  have Rd1 := Lib.hid hd1
  have Rf1 := Lib.hid hf1
  clear ha1 hb1 hd1 hf1
  have LX1 : Hid (X1 < PP) := Lib.hid (C.base.lt Ra1.out)
  have LY1 : Hid (Y1 < PP) := Lib.hid (C.base.lt Rb1.out)
  have LZ1 : Hid (Z1 < PP) := Lib.hid (C.base.lt Rd1.out)
  have LT1 : Hid (T1 < PP) := Lib.hid (C.base.lt Rf1.out)
  have HP1 := Lib.hid hP1
  clear hP1
  have Ra2 := Lib.hid ha2
  have Rb2 := Lib.hid hb2
  have Rd2 := Lib.hid hd2
  have Rf2 := Lib.hid hf2
  clear ha2 hb2 hd2 hf2
  have LX2 : Hid (X2 < PP) := Lib.hid (C.base.lt Ra2.out)
  have LY2 : Hid (Y2 < PP) := Lib.hid (C.base.lt Rb2.out)
  have LZ2 : Hid (Z2 < PP) := Lib.hid (C.base.lt Rd2.out)
  have LT2 : Hid (T2 < PP) := Lib.hid (C.base.lt Rf2.out)
  have HP2 := Lib.hid hP2
  clear hP2
  obtain ⟨Z, hZ, rZ⟩ := C.base.zero
  have RZZ := Lib.hid rZ
  have hzP := zp_of hZ
  have hz32 := zero32_zero
  clear rZ
  have HR0 := Lib.hid (((RowsW.nil w).box (quad a1 b1 d1 f1) 28).box (quad a2 b2 d2 f2) 28)
  have HB0 := Lib.hid (below_box (below_box (Below.refl w.heap.size w) (quad a1 b1 d1 f1) 28) (quad a2 b2 d2 f2) 28)
  rw [World.size_alloc] at HR0
  go_enter Try.func18, Try.ntmps18
  go_upto_region 1 with fail
  obtain ⟨W0, hW0⟩ : ∃ W, ((w.alloc (.cells (quad a1 b1 d1 f1) 28)).alloc (.cells (quad a2 b2 d2 f2) 28)) = W := ⟨_, rfl⟩
  obtain ⟨g0, hg0⟩ : ∃ g, w.heap.size = g := ⟨_, rfl⟩
  rw [hW0] at HR0 HB0
  rw [hg0] at HR0
  rw [hW0, hg0]
  have HG0 := Lib.hid hg0
  clear hW0 hg0
  refine wp_region_noPanic ?_
  refine wp_region_held_tail (S := fun W => Below W0.heap.size W0 W) 4 (by kernel_rfl) ⟨by kernel_rfl, by kernel_rfl, by kernel_rfl, by kernel_rfl⟩ (by exact (Below.refl _ _).drew) (fun hT inv hS => ?_)
  refine' take_atT 0 hT inv rfl (by omega) (by kernel_rfl) (by kernel_rfl) (fun _ _ _ h => h) (by rfl) hS ?_ ?_ ?_
  rotate_left 2
  · intro W hSW; exact run_loadR rfl rfl (HR0.out.below hSW).tail.head Try.underlying28 rfl (pp_info C.base Ra1.out Rb1.out Rd1.out Rf1.out)
  · simp only [List.set_cons_succ, List.set_cons_zero]; rfl
  intro inv
  refine' take_atT 2 hT inv rfl (by omega) (by kernel_rfl) (by kernel_rfl) (fun _ _ _ h => h) (by rfl) hS ?_ ?_ ?_
  rotate_left 2
  · intro W hSW; exact run_loadR rfl rfl (HR0.out.below hSW).head Try.underlying28 rfl (pp_info C.base Ra2.out Rb2.out Rd2.out Rf2.out)
  · simp only [List.set_cons_succ, List.set_cons_zero]; rfl
  intro inv
  refine call_atT 1 inv rfl (by omega) (by kernel_rfl) (by rfl) (fun K hK => ?_)
  go_simp
  have kq1 := fun W : World => (ptfilled_any C Ra1.out Rb1.out Rd1.out Rf1.out HP1.out) W
  have Kq1 := Lib.hid kq1
  clear kq1
  with_reducible refine (Kq1.out _).mono ?_
  rintro e vq1 ⟨aq1, bq1, dq1, fq1, Xq1, Yq1, Zq1, Tq1, rfl, hRaq1, hRbq1, hRdq1, hRfq1, hCq1, hbq1⟩
  have Raq1 := Lib.hid hRaq1
  have Rbq1 := Lib.hid hRbq1
  have Rdq1 := Lib.hid hRdq1
  have Rfq1 := Lib.hid hRfq1
  clear hRaq1 hRbq1 hRdq1 hRfq1
  have HCq1 := Lib.hid hCq1
  clear hCq1
  have kbq1 := below_next hS hbq1
  clear hS hbq1
  refine hK.out _ _ (by exact kbq1) (fun inv hS => ?_)
  clear hK K
  refine call_atT 3 inv rfl (by omega) (by kernel_rfl) (by rfl) (fun K hK => ?_)
  go_simp
  have kq2 := fun W : World => (ptfilled_any C Ra2.out Rb2.out Rd2.out Rf2.out HP2.out) W
  have Kq2 := Lib.hid kq2
  clear kq2
  with_reducible refine (Kq2.out _).mono ?_
  rintro e vq2 ⟨aq2, bq2, dq2, fq2, Xq2, Yq2, Zq2, Tq2, rfl, hRaq2, hRbq2, hRdq2, hRfq2, hCq2, hbq2⟩
  have Raq2 := Lib.hid hRaq2
  have Rbq2 := Lib.hid hRbq2
  have Rdq2 := Lib.hid hRdq2
  have Rfq2 := Lib.hid hRfq2
  clear hRaq2 hRbq2 hRdq2 hRfq2
  have HCq2 := Lib.hid hCq2
  clear hCq2
  have kbq2 := below_next kbq1 hbq2
  clear hS hbq2
  refine hK.out _ _ (by exact kbq2) (fun inv hS => ?_)
  clear hK K
  refine done_atT (by kernel_rfl) ?_
  simp only [List.drop_succ_cons, List.drop_zero]
  clear hS
  (try simp only [Act.put])
  have HRq3 := Lib.hid (HR0.out.below kbq2)
  have HBq3 := Lib.hid (below_next HB0.out kbq2)
  have lsq4_0 := HRq3.out.tail.head
  have HRq4_0 : Hid (RowsW (vq2.setRow g0 (quad aq1 bq1 dq1 fq1)) [((g0 + 1), (quad a2 b2 d2 f2), 28), (g0, (quad aq1 bq1 dq1 fq1), 28)]) := Lib.hid ⟨(by rw [setRow_other _ _ _ _ (Ne.symm (by omega))]; exact HRq3.out.head), setRow_heap _ _ _ _ _ _ lsq4_0, trivial⟩
  have HBq4_0 := Lib.hid (below_row (g := g0) (cs := (quad aq1 bq1 dq1 fq1)) HBq3.out (by have := HG0.out; omega))
  have lsq4_1 := HRq4_0.out.head
  have HRq4_1 : Hid (RowsW ((vq2.setRow g0 (quad aq1 bq1 dq1 fq1)).setRow (g0 + 1) (quad aq2 bq2 dq2 fq2)) [((g0 + 1), (quad aq2 bq2 dq2 fq2), 28), (g0, (quad aq1 bq1 dq1 fq1), 28)]) := Lib.hid ⟨setRow_heap _ _ _ _ _ _ lsq4_1, (by rw [setRow_other _ _ _ _ (by omega)]; exact HRq4_0.out.tail.head), trivial⟩
  have HBq4_1 := Lib.hid (below_row (g := (g0 + 1)) (cs := (quad aq2 bq2 dq2 fq2)) HBq4_0.out (by have := HG0.out; omega))
  go_wp2_with (first
      | (refine wpList_store_row rfl 28 (.tmp 2) (.tmp 6) rfl g0 (quad aq1 bq1 dq1 fq1) rfl rfl 28 (quad a1 b1 d1 f1) lsq4_0 (pp_info C.base Raq1.out Rbq1.out Rdq1.out Rfq1.out) ((pp_size C.base Ra1.out Rb1.out Rd1.out Rf1.out).trans (pp_size C.base Raq1.out Rbq1.out Rdq1.out Rfq1.out).symm) (pp_one C.base Raq1.out Rbq1.out Rdq1.out Rfq1.out) ?_)
      | (refine wpList_store_row rfl 28 (.tmp 3) (.tmp 8) rfl (g0 + 1) (quad aq2 bq2 dq2 fq2) rfl rfl 28 (quad a2 b2 d2 f2) lsq4_1 (pp_info C.base Raq2.out Rbq2.out Rdq2.out Rfq2.out) ((pp_size C.base Ra2.out Rb2.out Rd2.out Rf2.out).trans (pp_size C.base Raq2.out Rbq2.out Rdq2.out Rfq2.out).symm) (pp_one C.base Raq2.out Rbq2.out Rdq2.out Rfq2.out) ?_))
  obtain ⟨Wq4, hWq4⟩ : ∃ W, ((vq2.setRow g0 (quad aq1 bq1 dq1 fq1)).setRow (g0 + 1) (quad aq2 bq2 dq2 fq2)) = W := ⟨_, rfl⟩
  rw [hWq4] at HRq4_1 HBq4_1
  (try rw [hWq4])
  clear hWq4 lsq4_0 lsq4_1
  refine NoPanic.normal ?_
  go_upto_region 2 with fail
  obtain ⟨n5, hn5⟩ : ∃ x_ : Nat, (Xq1 * Zq2) % PP = x_ := ⟨_, rfl⟩
  have Hn5 := Lib.hid hn5
  have HLn5 : Hid (n5 < PP) := Lib.hid (by rw [← hn5]; exact Nat.mod_lt _ (by decide))
  clear hn5
  obtain ⟨n6, hn6⟩ : ∃ x_ : Nat, (Xq2 * Zq1) % PP = x_ := ⟨_, rfl⟩
  have Hn6 := Lib.hid hn6
  have HLn6 : Hid (n6 < PP) := Lib.hid (by rw [← hn6]; exact Nat.mod_lt _ (by decide))
  clear hn6
  obtain ⟨n7, hn7⟩ : ∃ x_ : Nat, (Yq1 * Zq2) % PP = x_ := ⟨_, rfl⟩
  have Hn7 := Lib.hid hn7
  have HLn7 : Hid (n7 < PP) := Lib.hid (by rw [← hn7]; exact Nat.mod_lt _ (by decide))
  clear hn7
  obtain ⟨n8, hn8⟩ : ∃ x_ : Nat, (Yq2 * Zq1) % PP = x_ := ⟨_, rfl⟩
  have Hn8 := Lib.hid hn8
  have HLn8 : Hid (n8 < PP) := Lib.hid (by rw [← hn8]; exact Nat.mod_lt _ (by decide))
  clear hn8
  by_cases h1 : n5 = n6
  · have HA := Lib.hid h1
    clear h1
    by_cases h2 : n7 = n8
    · have HD := Lib.hid h2
      clear h2
      refine wp_region_noPanic ?_
      refine wp_region_held_drew (S := fun W => Below Wq4.heap.size Wq4 W) (by kernel_rfl) (by exact (Below.refl _ _).drew) (fun hS => ?_)
      refine' take_at 0 rfl (by kernel_rfl) (by kernel_rfl) (by kernel_rfl) (fun _ _ _ h => h) (by rfl) hS ?_ ?_ ?_
      rotate_left 2
      · intro W hSW; go_simp; try with_reducible rfl
      · simp only [List.set_cons_succ, List.set_cons_zero]; rfl
      refine' take_at 1 rfl (by kernel_rfl) (by kernel_rfl) (by kernel_rfl) (fun _ _ _ h => h) (by rfl) hS ?_ ?_ ?_
      rotate_left 2
      · intro W hSW; exact run_loadP rfl rfl (HRq4_1.out.below hSW).tail.head Try.underlying26 rfl (C.base.info Raq1.out) pp_0
      · simp only [List.set_cons_succ, List.set_cons_zero]; rfl
      refine' take_at 2 rfl (by kernel_rfl) (by kernel_rfl) (by kernel_rfl) (fun _ _ _ h => h) (by rfl) hS ?_ ?_ ?_
      rotate_left 2
      · intro W hSW; go_simp; try with_reducible rfl
      · simp only [List.set_cons_succ, List.set_cons_zero]; rfl
      refine' take_at 3 rfl (by kernel_rfl) (by kernel_rfl) (by kernel_rfl) (fun _ _ _ h => h) (by rfl) hS ?_ ?_ ?_
      rotate_left 2
      · intro W hSW; exact run_loadP rfl rfl (HRq4_1.out.below hSW).head Try.underlying26 rfl (C.base.info Rdq2.out) (pp_2 (fe5 C.base Raq2.out) (fe5 C.base Rbq2.out))
      · simp only [List.set_cons_succ, List.set_cons_zero]; rfl
      refine' take_at 5 rfl (by kernel_rfl) (by kernel_rfl) (by kernel_rfl) (fun _ _ _ h => h) (by rfl) hS ?_ ?_ ?_
      rotate_left 2
      · intro W hSW; go_simp; try with_reducible rfl
      · simp only [List.set_cons_succ, List.set_cons_zero]; rfl
      refine' take_at 6 rfl (by kernel_rfl) (by kernel_rfl) (by kernel_rfl) (fun _ _ _ h => h) (by rfl) hS ?_ ?_ ?_
      rotate_left 2
      · intro W hSW; exact run_loadP rfl rfl (HRq4_1.out.below hSW).head Try.underlying26 rfl (C.base.info Raq2.out) pp_0
      · simp only [List.set_cons_succ, List.set_cons_zero]; rfl
      refine' take_at 7 rfl (by kernel_rfl) (by kernel_rfl) (by kernel_rfl) (fun _ _ _ h => h) (by rfl) hS ?_ ?_ ?_
      rotate_left 2
      · intro W hSW; go_simp; try with_reducible rfl
      · simp only [List.set_cons_succ, List.set_cons_zero]; rfl
      refine' take_at 8 rfl (by kernel_rfl) (by kernel_rfl) (by kernel_rfl) (fun _ _ _ h => h) (by rfl) hS ?_ ?_ ?_
      rotate_left 2
      · intro W hSW; exact run_loadP rfl rfl (HRq4_1.out.below hSW).tail.head Try.underlying26 rfl (C.base.info Rdq1.out) (pp_2 (fe5 C.base Raq1.out) (fe5 C.base Rbq1.out))
      · simp only [List.set_cons_succ, List.set_cons_zero]; rfl
      refine call_at 4 rfl (by kernel_rfl) (by rfl) (fun K hK => ?_)
      go_simp
      with_reducible refine ((C.mul Raq1.out Rdq2.out) _).mono ?_
      rintro e vq9 ⟨cq9, rfl, rq9, hbq9⟩
      rw [Hn5.out] at rq9
      have Rq9 := Lib.hid rq9
      clear rq9
      have kbq9 := below_next hS hbq9
      clear hS hbq9
      refine hK.out _ _ (by exact kbq9) (fun hS => ?_)
      clear hK K
      refine call_at 9 rfl (by kernel_rfl) (by rfl) (fun K hK => ?_)
      go_simp
      with_reducible refine ((C.mul Raq2.out Rdq1.out) _).mono ?_
      rintro e vq10 ⟨cq10, rfl, rq10, hbq10⟩
      rw [Hn6.out] at rq10
      have Rq10 := Lib.hid rq10
      clear rq10
      have kbq10 := below_next kbq9 hbq10
      clear hS hbq10
      refine hK.out _ _ (by exact kbq10) (fun hS => ?_)
      clear hK K
      refine call_at 10 rfl (by kernel_rfl) (by rfl) (fun K hK => ?_)
      go_simp
      have kq11 := fun W : World => (C.equal Rq9.out Rq10.out) W
      rw [decide_eq_true (show n5 = n6 from HA.out)] at kq11
      have Kq11 := Lib.hid kq11
      clear kq11
      with_reducible refine (Kq11.out _).mono ?_
      rintro e vq11 ⟨rfl, hbq11⟩
      have kbq11 := below_next kbq10 hbq11
      clear hS hbq11
      refine hK.out _ _ (by exact kbq11) (fun hS => ?_)
      clear hK K
      refine' take_at 11 rfl (by kernel_rfl) (by kernel_rfl) (by kernel_rfl) (fun _ _ _ h => h) (by rfl) hS ?_ ?_ ?_
      rotate_left 2
      · intro W hSW; go_simp; try with_reducible rfl
      · simp only [List.set_cons_succ, List.set_cons_zero]; rfl
      refine' take_at 12 rfl (by kernel_rfl) (by kernel_rfl) (by kernel_rfl) (fun _ _ _ h => h) (by rfl) hS ?_ ?_ ?_
      rotate_left 2
      · intro W hSW; go_simp; try with_reducible rfl
      · simp only [List.set_cons_succ, List.set_cons_zero]; rfl
      refine' take_at 13 rfl (by kernel_rfl) (by kernel_rfl) (by kernel_rfl) (fun _ _ _ h => h) (by rfl) hS ?_ ?_ ?_
      rotate_left 2
      · intro W hSW; exact run_loadP rfl rfl (HRq4_1.out.below hSW).tail.head Try.underlying26 rfl (C.base.info Rbq1.out) (pp_1 (fe5 C.base Raq1.out))
      · simp only [List.set_cons_succ, List.set_cons_zero]; rfl
      refine' take_at 14 rfl (by kernel_rfl) (by kernel_rfl) (by kernel_rfl) (fun _ _ _ h => h) (by rfl) hS ?_ ?_ ?_
      rotate_left 2
      · intro W hSW; go_simp; try with_reducible rfl
      · simp only [List.set_cons_succ, List.set_cons_zero]; rfl
      refine' take_at 15 rfl (by kernel_rfl) (by kernel_rfl) (by kernel_rfl) (fun _ _ _ h => h) (by rfl) hS ?_ ?_ ?_
      rotate_left 2
      · intro W hSW; exact run_loadP rfl rfl (HRq4_1.out.below hSW).head Try.underlying26 rfl (C.base.info Rdq2.out) (pp_2 (fe5 C.base Raq2.out) (fe5 C.base Rbq2.out))
      · simp only [List.set_cons_succ, List.set_cons_zero]; rfl
      refine' take_at 17 rfl (by kernel_rfl) (by kernel_rfl) (by kernel_rfl) (fun _ _ _ h => h) (by rfl) hS ?_ ?_ ?_
      rotate_left 2
      · intro W hSW; go_simp; try with_reducible rfl
      · simp only [List.set_cons_succ, List.set_cons_zero]; rfl
      refine' take_at 18 rfl (by kernel_rfl) (by kernel_rfl) (by kernel_rfl) (fun _ _ _ h => h) (by rfl) hS ?_ ?_ ?_
      rotate_left 2
      · intro W hSW; exact run_loadP rfl rfl (HRq4_1.out.below hSW).head Try.underlying26 rfl (C.base.info Rbq2.out) (pp_1 (fe5 C.base Raq2.out))
      · simp only [List.set_cons_succ, List.set_cons_zero]; rfl
      refine' take_at 19 rfl (by kernel_rfl) (by kernel_rfl) (by kernel_rfl) (fun _ _ _ h => h) (by rfl) hS ?_ ?_ ?_
      rotate_left 2
      · intro W hSW; go_simp; try with_reducible rfl
      · simp only [List.set_cons_succ, List.set_cons_zero]; rfl
      refine' take_at 20 rfl (by kernel_rfl) (by kernel_rfl) (by kernel_rfl) (fun _ _ _ h => h) (by rfl) hS ?_ ?_ ?_
      rotate_left 2
      · intro W hSW; exact run_loadP rfl rfl (HRq4_1.out.below hSW).tail.head Try.underlying26 rfl (C.base.info Rdq1.out) (pp_2 (fe5 C.base Raq1.out) (fe5 C.base Rbq1.out))
      · simp only [List.set_cons_succ, List.set_cons_zero]; rfl
      refine call_at 16 rfl (by kernel_rfl) (by rfl) (fun K hK => ?_)
      go_simp
      with_reducible refine ((C.mul Rbq1.out Rdq2.out) _).mono ?_
      rintro e vq12 ⟨cq12, rfl, rq12, hbq12⟩
      rw [Hn7.out] at rq12
      have Rq12 := Lib.hid rq12
      clear rq12
      have kbq12 := below_next kbq11 hbq12
      clear hS hbq12
      refine hK.out _ _ (by exact kbq12) (fun hS => ?_)
      clear hK K
      refine call_at 21 rfl (by kernel_rfl) (by rfl) (fun K hK => ?_)
      go_simp
      with_reducible refine ((C.mul Rbq2.out Rdq1.out) _).mono ?_
      rintro e vq13 ⟨cq13, rfl, rq13, hbq13⟩
      rw [Hn8.out] at rq13
      have Rq13 := Lib.hid rq13
      clear rq13
      have kbq13 := below_next kbq12 hbq13
      clear hS hbq13
      refine hK.out _ _ (by exact kbq13) (fun hS => ?_)
      clear hK K
      refine call_at 22 rfl (by kernel_rfl) (by rfl) (fun K hK => ?_)
      go_simp
      have kq14 := fun W : World => (C.equal Rq12.out Rq13.out) W
      rw [decide_eq_true (show n7 = n8 from HD.out)] at kq14
      have Kq14 := Lib.hid kq14
      clear kq14
      with_reducible refine (Kq14.out _).mono ?_
      rintro e vq14 ⟨rfl, hbq14⟩
      have kbq14 := below_next kbq13 hbq14
      clear hS hbq14
      refine hK.out _ _ (by exact kbq14) (fun hS => ?_)
      clear hK K
      refine' take_at 23 rfl (by kernel_rfl) (by kernel_rfl) (by kernel_rfl) (fun _ _ _ h => h) (by rfl) hS ?_ ?_ ?_
      rotate_left 2
      · intro W hSW; go_simp; try with_reducible rfl
      · simp only [List.set_cons_succ, List.set_cons_zero]; rfl
      refine' take_at 24 rfl (by kernel_rfl) (by kernel_rfl) (by kernel_rfl) (fun _ _ _ h => h) (by rfl) hS ?_ ?_ ?_
      rotate_left 2
      · intro W hSW; go_simp; try with_reducible rfl
      · simp only [List.set_cons_succ, List.set_cons_zero]; rfl
      refine wpAnyH_done (by kernel_rfl) ?_ _
      refine NoPanic.normal ?_
      clear hS
      (try simp only [Act.put])
      have HRq15 := Lib.hid (HRq4_1.out.below kbq14)
      have HBq15 := Lib.hid (below_next HBq4_1.out kbq14)
      have HE := co_alike HCq1.out HCq2.out (by rw [Hn5.out, Hn6.out]; exact HA.out) (by rw [Hn7.out, Hn8.out]; exact HD.out)
      go_wp2_with fail
      go_ret
      exact ⟨by rw [HE] <;> rfl, HBq15.out⟩
    · have HD := Lib.hid h2
      clear h2
      refine wp_region_noPanic ?_
      refine wp_region_held_drew (S := fun W => Below Wq4.heap.size Wq4 W) (by kernel_rfl) (by exact (Below.refl _ _).drew) (fun hS => ?_)
      refine' take_at 0 rfl (by kernel_rfl) (by kernel_rfl) (by kernel_rfl) (fun _ _ _ h => h) (by rfl) hS ?_ ?_ ?_
      rotate_left 2
      · intro W hSW; go_simp; try with_reducible rfl
      · simp only [List.set_cons_succ, List.set_cons_zero]; rfl
      refine' take_at 1 rfl (by kernel_rfl) (by kernel_rfl) (by kernel_rfl) (fun _ _ _ h => h) (by rfl) hS ?_ ?_ ?_
      rotate_left 2
      · intro W hSW; exact run_loadP rfl rfl (HRq4_1.out.below hSW).tail.head Try.underlying26 rfl (C.base.info Raq1.out) pp_0
      · simp only [List.set_cons_succ, List.set_cons_zero]; rfl
      refine' take_at 2 rfl (by kernel_rfl) (by kernel_rfl) (by kernel_rfl) (fun _ _ _ h => h) (by rfl) hS ?_ ?_ ?_
      rotate_left 2
      · intro W hSW; go_simp; try with_reducible rfl
      · simp only [List.set_cons_succ, List.set_cons_zero]; rfl
      refine' take_at 3 rfl (by kernel_rfl) (by kernel_rfl) (by kernel_rfl) (fun _ _ _ h => h) (by rfl) hS ?_ ?_ ?_
      rotate_left 2
      · intro W hSW; exact run_loadP rfl rfl (HRq4_1.out.below hSW).head Try.underlying26 rfl (C.base.info Rdq2.out) (pp_2 (fe5 C.base Raq2.out) (fe5 C.base Rbq2.out))
      · simp only [List.set_cons_succ, List.set_cons_zero]; rfl
      refine' take_at 5 rfl (by kernel_rfl) (by kernel_rfl) (by kernel_rfl) (fun _ _ _ h => h) (by rfl) hS ?_ ?_ ?_
      rotate_left 2
      · intro W hSW; go_simp; try with_reducible rfl
      · simp only [List.set_cons_succ, List.set_cons_zero]; rfl
      refine' take_at 6 rfl (by kernel_rfl) (by kernel_rfl) (by kernel_rfl) (fun _ _ _ h => h) (by rfl) hS ?_ ?_ ?_
      rotate_left 2
      · intro W hSW; exact run_loadP rfl rfl (HRq4_1.out.below hSW).head Try.underlying26 rfl (C.base.info Raq2.out) pp_0
      · simp only [List.set_cons_succ, List.set_cons_zero]; rfl
      refine' take_at 7 rfl (by kernel_rfl) (by kernel_rfl) (by kernel_rfl) (fun _ _ _ h => h) (by rfl) hS ?_ ?_ ?_
      rotate_left 2
      · intro W hSW; go_simp; try with_reducible rfl
      · simp only [List.set_cons_succ, List.set_cons_zero]; rfl
      refine' take_at 8 rfl (by kernel_rfl) (by kernel_rfl) (by kernel_rfl) (fun _ _ _ h => h) (by rfl) hS ?_ ?_ ?_
      rotate_left 2
      · intro W hSW; exact run_loadP rfl rfl (HRq4_1.out.below hSW).tail.head Try.underlying26 rfl (C.base.info Rdq1.out) (pp_2 (fe5 C.base Raq1.out) (fe5 C.base Rbq1.out))
      · simp only [List.set_cons_succ, List.set_cons_zero]; rfl
      refine call_at 4 rfl (by kernel_rfl) (by rfl) (fun K hK => ?_)
      go_simp
      with_reducible refine ((C.mul Raq1.out Rdq2.out) _).mono ?_
      rintro e vq16 ⟨cq16, rfl, rq16, hbq16⟩
      rw [Hn5.out] at rq16
      have Rq16 := Lib.hid rq16
      clear rq16
      have kbq16 := below_next hS hbq16
      clear hS hbq16
      refine hK.out _ _ (by exact kbq16) (fun hS => ?_)
      clear hK K
      refine call_at 9 rfl (by kernel_rfl) (by rfl) (fun K hK => ?_)
      go_simp
      with_reducible refine ((C.mul Raq2.out Rdq1.out) _).mono ?_
      rintro e vq17 ⟨cq17, rfl, rq17, hbq17⟩
      rw [Hn6.out] at rq17
      have Rq17 := Lib.hid rq17
      clear rq17
      have kbq17 := below_next kbq16 hbq17
      clear hS hbq17
      refine hK.out _ _ (by exact kbq17) (fun hS => ?_)
      clear hK K
      refine call_at 10 rfl (by kernel_rfl) (by rfl) (fun K hK => ?_)
      go_simp
      have kq18 := fun W : World => (C.equal Rq16.out Rq17.out) W
      rw [decide_eq_true (show n5 = n6 from HA.out)] at kq18
      have Kq18 := Lib.hid kq18
      clear kq18
      with_reducible refine (Kq18.out _).mono ?_
      rintro e vq18 ⟨rfl, hbq18⟩
      have kbq18 := below_next kbq17 hbq18
      clear hS hbq18
      refine hK.out _ _ (by exact kbq18) (fun hS => ?_)
      clear hK K
      refine' take_at 11 rfl (by kernel_rfl) (by kernel_rfl) (by kernel_rfl) (fun _ _ _ h => h) (by rfl) hS ?_ ?_ ?_
      rotate_left 2
      · intro W hSW; go_simp; try with_reducible rfl
      · simp only [List.set_cons_succ, List.set_cons_zero]; rfl
      refine' take_at 12 rfl (by kernel_rfl) (by kernel_rfl) (by kernel_rfl) (fun _ _ _ h => h) (by rfl) hS ?_ ?_ ?_
      rotate_left 2
      · intro W hSW; go_simp; try with_reducible rfl
      · simp only [List.set_cons_succ, List.set_cons_zero]; rfl
      refine' take_at 13 rfl (by kernel_rfl) (by kernel_rfl) (by kernel_rfl) (fun _ _ _ h => h) (by rfl) hS ?_ ?_ ?_
      rotate_left 2
      · intro W hSW; exact run_loadP rfl rfl (HRq4_1.out.below hSW).tail.head Try.underlying26 rfl (C.base.info Rbq1.out) (pp_1 (fe5 C.base Raq1.out))
      · simp only [List.set_cons_succ, List.set_cons_zero]; rfl
      refine' take_at 14 rfl (by kernel_rfl) (by kernel_rfl) (by kernel_rfl) (fun _ _ _ h => h) (by rfl) hS ?_ ?_ ?_
      rotate_left 2
      · intro W hSW; go_simp; try with_reducible rfl
      · simp only [List.set_cons_succ, List.set_cons_zero]; rfl
      refine' take_at 15 rfl (by kernel_rfl) (by kernel_rfl) (by kernel_rfl) (fun _ _ _ h => h) (by rfl) hS ?_ ?_ ?_
      rotate_left 2
      · intro W hSW; exact run_loadP rfl rfl (HRq4_1.out.below hSW).head Try.underlying26 rfl (C.base.info Rdq2.out) (pp_2 (fe5 C.base Raq2.out) (fe5 C.base Rbq2.out))
      · simp only [List.set_cons_succ, List.set_cons_zero]; rfl
      refine' take_at 17 rfl (by kernel_rfl) (by kernel_rfl) (by kernel_rfl) (fun _ _ _ h => h) (by rfl) hS ?_ ?_ ?_
      rotate_left 2
      · intro W hSW; go_simp; try with_reducible rfl
      · simp only [List.set_cons_succ, List.set_cons_zero]; rfl
      refine' take_at 18 rfl (by kernel_rfl) (by kernel_rfl) (by kernel_rfl) (fun _ _ _ h => h) (by rfl) hS ?_ ?_ ?_
      rotate_left 2
      · intro W hSW; exact run_loadP rfl rfl (HRq4_1.out.below hSW).head Try.underlying26 rfl (C.base.info Rbq2.out) (pp_1 (fe5 C.base Raq2.out))
      · simp only [List.set_cons_succ, List.set_cons_zero]; rfl
      refine' take_at 19 rfl (by kernel_rfl) (by kernel_rfl) (by kernel_rfl) (fun _ _ _ h => h) (by rfl) hS ?_ ?_ ?_
      rotate_left 2
      · intro W hSW; go_simp; try with_reducible rfl
      · simp only [List.set_cons_succ, List.set_cons_zero]; rfl
      refine' take_at 20 rfl (by kernel_rfl) (by kernel_rfl) (by kernel_rfl) (fun _ _ _ h => h) (by rfl) hS ?_ ?_ ?_
      rotate_left 2
      · intro W hSW; exact run_loadP rfl rfl (HRq4_1.out.below hSW).tail.head Try.underlying26 rfl (C.base.info Rdq1.out) (pp_2 (fe5 C.base Raq1.out) (fe5 C.base Rbq1.out))
      · simp only [List.set_cons_succ, List.set_cons_zero]; rfl
      refine call_at 16 rfl (by kernel_rfl) (by rfl) (fun K hK => ?_)
      go_simp
      with_reducible refine ((C.mul Rbq1.out Rdq2.out) _).mono ?_
      rintro e vq19 ⟨cq19, rfl, rq19, hbq19⟩
      rw [Hn7.out] at rq19
      have Rq19 := Lib.hid rq19
      clear rq19
      have kbq19 := below_next kbq18 hbq19
      clear hS hbq19
      refine hK.out _ _ (by exact kbq19) (fun hS => ?_)
      clear hK K
      refine call_at 21 rfl (by kernel_rfl) (by rfl) (fun K hK => ?_)
      go_simp
      with_reducible refine ((C.mul Rbq2.out Rdq1.out) _).mono ?_
      rintro e vq20 ⟨cq20, rfl, rq20, hbq20⟩
      rw [Hn8.out] at rq20
      have Rq20 := Lib.hid rq20
      clear rq20
      have kbq20 := below_next kbq19 hbq20
      clear hS hbq20
      refine hK.out _ _ (by exact kbq20) (fun hS => ?_)
      clear hK K
      refine call_at 22 rfl (by kernel_rfl) (by rfl) (fun K hK => ?_)
      go_simp
      have kq21 := fun W : World => (C.equal Rq19.out Rq20.out) W
      rw [decide_eq_false (show ¬ n7 = n8 from HD.out)] at kq21
      have Kq21 := Lib.hid kq21
      clear kq21
      with_reducible refine (Kq21.out _).mono ?_
      rintro e vq21 ⟨rfl, hbq21⟩
      have kbq21 := below_next kbq20 hbq21
      clear hS hbq21
      refine hK.out _ _ (by exact kbq21) (fun hS => ?_)
      clear hK K
      refine' take_at 23 rfl (by kernel_rfl) (by kernel_rfl) (by kernel_rfl) (fun _ _ _ h => h) (by rfl) hS ?_ ?_ ?_
      rotate_left 2
      · intro W hSW; go_simp; try with_reducible rfl
      · simp only [List.set_cons_succ, List.set_cons_zero]; rfl
      refine' take_at 24 rfl (by kernel_rfl) (by kernel_rfl) (by kernel_rfl) (fun _ _ _ h => h) (by rfl) hS ?_ ?_ ?_
      rotate_left 2
      · intro W hSW; go_simp; try with_reducible rfl
      · simp only [List.set_cons_succ, List.set_cons_zero]; rfl
      refine wpAnyH_done (by kernel_rfl) ?_ _
      refine NoPanic.normal ?_
      clear hS
      (try simp only [Act.put])
      have HRq22 := Lib.hid (HRq4_1.out.below kbq21)
      have HBq22 := Lib.hid (below_next HBq4_1.out kbq21)
      have HE := co_alikeY HCq1.out HCq2.out (by rw [Hn7.out, Hn8.out]; exact HD.out)
      go_wp2_with fail
      go_ret
      exact ⟨by rw [HE] <;> rfl, HBq22.out⟩
  · have HA := Lib.hid h1
    clear h1
    refine wp_region_noPanic ?_
    refine wp_region_held_drew (S := fun W => Below Wq4.heap.size Wq4 W) (by kernel_rfl) (by exact (Below.refl _ _).drew) (fun hS => ?_)
    refine' take_at 0 rfl (by kernel_rfl) (by kernel_rfl) (by kernel_rfl) (fun _ _ _ h => h) (by rfl) hS ?_ ?_ ?_
    rotate_left 2
    · intro W hSW; go_simp; try with_reducible rfl
    · simp only [List.set_cons_succ, List.set_cons_zero]; rfl
    refine' take_at 1 rfl (by kernel_rfl) (by kernel_rfl) (by kernel_rfl) (fun _ _ _ h => h) (by rfl) hS ?_ ?_ ?_
    rotate_left 2
    · intro W hSW; exact run_loadP rfl rfl (HRq4_1.out.below hSW).tail.head Try.underlying26 rfl (C.base.info Raq1.out) pp_0
    · simp only [List.set_cons_succ, List.set_cons_zero]; rfl
    refine' take_at 2 rfl (by kernel_rfl) (by kernel_rfl) (by kernel_rfl) (fun _ _ _ h => h) (by rfl) hS ?_ ?_ ?_
    rotate_left 2
    · intro W hSW; go_simp; try with_reducible rfl
    · simp only [List.set_cons_succ, List.set_cons_zero]; rfl
    refine' take_at 3 rfl (by kernel_rfl) (by kernel_rfl) (by kernel_rfl) (fun _ _ _ h => h) (by rfl) hS ?_ ?_ ?_
    rotate_left 2
    · intro W hSW; exact run_loadP rfl rfl (HRq4_1.out.below hSW).head Try.underlying26 rfl (C.base.info Rdq2.out) (pp_2 (fe5 C.base Raq2.out) (fe5 C.base Rbq2.out))
    · simp only [List.set_cons_succ, List.set_cons_zero]; rfl
    refine' take_at 5 rfl (by kernel_rfl) (by kernel_rfl) (by kernel_rfl) (fun _ _ _ h => h) (by rfl) hS ?_ ?_ ?_
    rotate_left 2
    · intro W hSW; go_simp; try with_reducible rfl
    · simp only [List.set_cons_succ, List.set_cons_zero]; rfl
    refine' take_at 6 rfl (by kernel_rfl) (by kernel_rfl) (by kernel_rfl) (fun _ _ _ h => h) (by rfl) hS ?_ ?_ ?_
    rotate_left 2
    · intro W hSW; exact run_loadP rfl rfl (HRq4_1.out.below hSW).head Try.underlying26 rfl (C.base.info Raq2.out) pp_0
    · simp only [List.set_cons_succ, List.set_cons_zero]; rfl
    refine' take_at 7 rfl (by kernel_rfl) (by kernel_rfl) (by kernel_rfl) (fun _ _ _ h => h) (by rfl) hS ?_ ?_ ?_
    rotate_left 2
    · intro W hSW; go_simp; try with_reducible rfl
    · simp only [List.set_cons_succ, List.set_cons_zero]; rfl
    refine' take_at 8 rfl (by kernel_rfl) (by kernel_rfl) (by kernel_rfl) (fun _ _ _ h => h) (by rfl) hS ?_ ?_ ?_
    rotate_left 2
    · intro W hSW; exact run_loadP rfl rfl (HRq4_1.out.below hSW).tail.head Try.underlying26 rfl (C.base.info Rdq1.out) (pp_2 (fe5 C.base Raq1.out) (fe5 C.base Rbq1.out))
    · simp only [List.set_cons_succ, List.set_cons_zero]; rfl
    refine call_at 4 rfl (by kernel_rfl) (by rfl) (fun K hK => ?_)
    go_simp
    with_reducible refine ((C.mul Raq1.out Rdq2.out) _).mono ?_
    rintro e vq23 ⟨cq23, rfl, rq23, hbq23⟩
    rw [Hn5.out] at rq23
    have Rq23 := Lib.hid rq23
    clear rq23
    have kbq23 := below_next hS hbq23
    clear hS hbq23
    refine hK.out _ _ (by exact kbq23) (fun hS => ?_)
    clear hK K
    refine call_at 9 rfl (by kernel_rfl) (by rfl) (fun K hK => ?_)
    go_simp
    with_reducible refine ((C.mul Raq2.out Rdq1.out) _).mono ?_
    rintro e vq24 ⟨cq24, rfl, rq24, hbq24⟩
    rw [Hn6.out] at rq24
    have Rq24 := Lib.hid rq24
    clear rq24
    have kbq24 := below_next kbq23 hbq24
    clear hS hbq24
    refine hK.out _ _ (by exact kbq24) (fun hS => ?_)
    clear hK K
    refine call_at 10 rfl (by kernel_rfl) (by rfl) (fun K hK => ?_)
    go_simp
    have kq25 := fun W : World => (C.equal Rq23.out Rq24.out) W
    rw [decide_eq_false (show ¬ n5 = n6 from HA.out)] at kq25
    have Kq25 := Lib.hid kq25
    clear kq25
    with_reducible refine (Kq25.out _).mono ?_
    rintro e vq25 ⟨rfl, hbq25⟩
    have kbq25 := below_next kbq24 hbq25
    clear hS hbq25
    refine hK.out _ _ (by exact kbq25) (fun hS => ?_)
    clear hK K
    refine' take_at 11 rfl (by kernel_rfl) (by kernel_rfl) (by kernel_rfl) (fun _ _ _ h => h) (by rfl) hS ?_ ?_ ?_
    rotate_left 2
    · intro W hSW; go_simp; try with_reducible rfl
    · simp only [List.set_cons_succ, List.set_cons_zero]; rfl
    refine' skip_at 12 rfl (by kernel_rfl) (by kernel_rfl) (by kernel_rfl) (fun _ _ _ h => h) (by rfl) hS ?_ ?_
    rotate_left 1
    · simp only [List.set_cons_succ, List.set_cons_zero]; rfl
    refine' skip_at 13 rfl (by kernel_rfl) (by kernel_rfl) (by kernel_rfl) (fun _ _ _ h => h) (by rfl) hS ?_ ?_
    rotate_left 1
    · simp only [List.set_cons_succ, List.set_cons_zero]; rfl
    refine' skip_at 14 rfl (by kernel_rfl) (by kernel_rfl) (by kernel_rfl) (fun _ _ _ h => h) (by rfl) hS ?_ ?_
    rotate_left 1
    · simp only [List.set_cons_succ, List.set_cons_zero]; rfl
    refine' skip_at 15 rfl (by kernel_rfl) (by kernel_rfl) (by kernel_rfl) (fun _ _ _ h => h) (by rfl) hS ?_ ?_
    rotate_left 1
    · simp only [List.set_cons_succ, List.set_cons_zero]; rfl
    refine' skip_at 16 rfl (by kernel_rfl) (by kernel_rfl) (by kernel_rfl) (fun _ _ _ h => h) (by rfl) hS ?_ ?_
    rotate_left 1
    · simp only [List.set_cons_succ, List.set_cons_zero]; rfl
    refine' skip_at 17 rfl (by kernel_rfl) (by kernel_rfl) (by kernel_rfl) (fun _ _ _ h => h) (by rfl) hS ?_ ?_
    rotate_left 1
    · simp only [List.set_cons_succ, List.set_cons_zero]; rfl
    refine' skip_at 18 rfl (by kernel_rfl) (by kernel_rfl) (by kernel_rfl) (fun _ _ _ h => h) (by rfl) hS ?_ ?_
    rotate_left 1
    · simp only [List.set_cons_succ, List.set_cons_zero]; rfl
    refine' skip_at 19 rfl (by kernel_rfl) (by kernel_rfl) (by kernel_rfl) (fun _ _ _ h => h) (by rfl) hS ?_ ?_
    rotate_left 1
    · simp only [List.set_cons_succ, List.set_cons_zero]; rfl
    refine' skip_at 20 rfl (by kernel_rfl) (by kernel_rfl) (by kernel_rfl) (fun _ _ _ h => h) (by rfl) hS ?_ ?_
    rotate_left 1
    · simp only [List.set_cons_succ, List.set_cons_zero]; rfl
    refine' skip_at 21 rfl (by kernel_rfl) (by kernel_rfl) (by kernel_rfl) (fun _ _ _ h => h) (by rfl) hS ?_ ?_
    rotate_left 1
    · simp only [List.set_cons_succ, List.set_cons_zero]; rfl
    refine' skip_at 22 rfl (by kernel_rfl) (by kernel_rfl) (by kernel_rfl) (fun _ _ _ h => h) (by rfl) hS ?_ ?_
    rotate_left 1
    · simp only [List.set_cons_succ, List.set_cons_zero]; rfl
    refine' take_at 23 rfl (by kernel_rfl) (by kernel_rfl) (by kernel_rfl) (fun _ _ _ h => h) (by rfl) hS ?_ ?_ ?_
    rotate_left 2
    · intro W hSW; go_simp; try with_reducible rfl
    · simp only [List.set_cons_succ, List.set_cons_zero]; rfl
    refine' take_at 24 rfl (by kernel_rfl) (by kernel_rfl) (by kernel_rfl) (fun _ _ _ h => h) (by rfl) hS ?_ ?_ ?_
    rotate_left 2
    · intro W hSW; go_simp; try with_reducible rfl
    · simp only [List.set_cons_succ, List.set_cons_zero]; rfl
    refine wpAnyH_done (by kernel_rfl) ?_ _
    refine NoPanic.normal ?_
    clear hS
    (try simp only [Act.put])
    have HRq26 := Lib.hid (HRq4_1.out.below kbq25)
    have HBq26 := Lib.hid (below_next HBq4_1.out kbq25)
    have HE := co_alikeX HCq1.out HCq2.out (by rw [Hn5.out, Hn6.out]; exact HA.out)
    go_wp2_with fail
    go_ret
    exact ⟨by rw [HE] <;> rfl, HBq26.out⟩
end Go.Proofs.Ytfejabfmhddepaa

