/- The landed package mult: a product's cells; one digit's multiple (part). -/
import Derived.Test.YtfejabfmhddepaaPointA
import Derived.Test.YtfejabfmhddepaaProd
import Derived.Test.YtfejabfmhddepaaLaw13Spec
namespace Go.Proofs.Ytfejabfmhddepaa
open Go.RowKit
set_option linter.unusedVariables false
set_option maxRecDepth 100000

theorem pt20_info : (Try.prog.info? 28).map (·.size) = some 20 := by kernel_rfl
theorem pt20 {R : Array Value → PtD → Prop} (C : PtB R) {c : Array Value} {p : PtD} (h : R c p) : c.size = 20 := by
  have k := C.info h
  rw [pt20_info] at k
  injection k with k
  exact k.symm
/-- the zero value of a point -/
abbrev z20 : Array Value := quad z5 z5 z5 z5
theorem z20_size : z20.size = 20 := rfl
/-- sixteen multiples -/
structure Mup (R : Array Value → PtD → Prop) (p : PtD) (k : Nat) (ms : List (Array Value)) : Prop where
  len : ms.length = 16
  is : ∀ (i : Nat) (h : i < ms.length), R ms[i] (if i ≤ k then pmul i p else pzero)
theorem Mup.size {R : Array Value → PtD → Prop} {p : PtD} {k : Nat} {ms : List (Array Value)} (C : PtB R) (h : Mup R p k ms) : ∀ m ∈ ms, m.size = 20 := by
  intro m hm
  obtain ⟨i, hi, rfl⟩ := List.getElem_of_mem hm
  exact pt20 C (h.is i hi)
theorem Mup.one {R : Array Value → PtD → Prop} {p : PtD} {k : Nat} {ms : List (Array Value)} (C : PtB R) (h : Mup R p k ms) : ∀ m ∈ ms, m.all (·.oneCell') = true := by
  intro m hm
  obtain ⟨i, hi, rfl⟩ := List.getElem_of_mem hm
  exact C.one (h.is i hi)
theorem Mup.zero {R : Array Value → PtD → Prop} (hz : R z20 pzero) (p : PtD) : Mup R p 0 (List.replicate 16 z20) := by
  refine ⟨by simp, fun i h => ?_⟩
  rw [List.getElem_replicate]
  by_cases h0 : i ≤ 0
  · rw [if_pos h0, show i = 0 by omega, pmul_zero]; exact hz
  · rw [if_neg h0]; exact hz
theorem Mup.set {R : Array Value → PtD → Prop} {p : PtD} {k : Nat} {ms : List (Array Value)} (h : Mup R p k ms) {v : Array Value} (hv : R v (pmul (k + 1) p)) : Mup R p (k + 1) (ms.set (k + 1) v) := by
  refine ⟨by rw [List.length_set, h.len], fun i hi => ?_⟩
  rw [List.getElem_set]
  by_cases e : k + 1 = i
  · subst e
    rw [if_pos rfl, if_pos (by omega)]; exact hv
  · rw [if_neg e]
    have := h.is i (by simpa using hi)
    by_cases h0 : i ≤ k
    · rw [if_pos h0] at this; rw [if_pos (by omega)]; exact this
    · rw [if_neg h0] at this; rw [if_neg (by omega)]; exact this
/-- the cells of a product -/
def prC (l : List UInt8) (ms : List (Array Value)) : Array Value := arrB l ++ flatC ms
theorem prC_size {l : List UInt8} {ms : List (Array Value)} (hl : l.length = 32) (h : ∀ m ∈ ms, m.size = 20) (hn : ms.length = 16) : (prC l ms).size = 352 := by
  unfold prC
  rw [Array.size_append, flatC_size ms h, hn, arrB_size, hl]
theorem prod_info : (Try.prog.info? 64).map (·.size) = some 352 := by kernel_rfl
/-- a point comes back that is so many times another, or a sum: the cells by name -/
def RetAgg (W : World) (c : Array Value) (e : Ending) (w' : World) : Prop := e = .returned (.agg c) ∧ Below W.heap.size W w'
theorem still_runs {P : Program} {o : Oper} {a : Act} {w : World} {K : Act → Prop} {v : Value} (hr : (execOp (Act.eval a) o).run P w = .ok (.value v) w) (h : K (a.put o.dst v)) : o.still P a w K := by
  unfold Oper.still
  rw [hr, Oper.stillUpon_value]
  exact h
set_option maxHeartbeats 1600000 in
theorem mpart_any {W : World} {g o : Nat} {cs : Array Value} {t : TypeId} {fr : Nat × Nat} (hg : W.heap[g]? = some (.cells cs t fr)) {l : List UInt8} (hl : l.length = 32) {ms : List (Array Value)} (hn : ms.length = 16)
    (hb : ∀ j, j < 32 → cs[o + j]? = some (.int .u8 ((l.getD j 0).toNat : Int))) (hm : ∀ d (hd : d < ms.length) j, j < 20 → cs[o + 32 + d * 20 + j]? = ms[d][j]?) (hs : ∀ m ∈ ms, m.size = 20) (h1 : ∀ m ∈ ms, m.all (·.oneCell') = true) {i : Nat} (hi : i < 64) :
    Calls Try.prog 79 #[.pointer (some ⟨g, o, none⟩), .int .i64 (i : Int)] W (RetAgg W (ms.getD (dgP i (leN l)) #[])) := by
  obtain ⟨d, hd⟩ : ∃ d, dgP i (leN l) = d := ⟨_, rfl⟩
  have hd16 : d < 16 := by rw [← hd]; exact Nat.mod_lt _ (by omega)
  have hdb := dgP_byte l i
  rw [hd] at hdb
  have hdl : d < ms.length := by omega
  obtain ⟨b, hbv⟩ : ∃ b, (l.getD (i / 2) 0).toNat = b := ⟨_, rfl⟩
  have hbl : b < 256 := by rw [← hbv]; exact (l.getD _ 0).toNat_lt
  have cb := hb (i / 2) (by omega)
  rw [hbv] at cb hdb
  have ec : ms.getD d #[] = ms[d] := by simp [List.getD, hdl]
  have hcs := hm d hdl
  have hv20 := hs _ (List.getElem_mem hdl)
  have hv1 := h1 _ (List.getElem_mem hdl)
  rw [hd, ec]
  generalize ms[d] = v at *
  obtain ⟨q, hq⟩ : ∃ q, i / 2 = q := ⟨_, rfl⟩
  obtain ⟨r, hr⟩ : ∃ r, i % 2 = r := ⟨_, rfl⟩
  obtain ⟨e, he⟩ : ∃ e, r * 4 = e := ⟨_, rfl⟩
  rw [hq] at cb
  rw [hr, he] at hdb
  have hz20 : ∀ u, (zeroValue 28).run Try.prog u = .ok (.agg z20) u := zp_zero
  obtain ⟨Z, hZ⟩ : ∃ Z, z20 = Z := ⟨_, rfl⟩
  have hZs : Z.size = v.size := by rw [← hZ, hv20]; rfl
  rw [hZ] at hz20
  have hglt : g < W.heap.size := (Array.getElem?_eq_some_iff.1 hg).1
  have hg1 : (W.alloc (.cells Z 28)).heap[g]? = some (.cells cs t fr) := by
    have := (Below.refl W.heap.size W).alloc (Nat.le_refl _) (.cells Z 28)
    rw [this.block g hglt]; exact hg
  have hZr : (W.alloc (.cells Z 28)).heap[W.heap.size]? = some (.cells Z 28 (0, 0)) := heap_alloc_new _ _
  have cx : (W.alloc (.cells Z 28)).cell? ⟨g, o + q, none⟩ = some (.int .u8 (b : Int)) := by rw [cell_of_row _ _ _ _ _ _ hg1, cb]
  have f1 : (i : Int).tdiv 2 = (q : Int) := by rw [Int.tdiv_eq_ediv_of_nonneg (by omega)]; omega
  have f1' : (i : Int) / 2 = (q : Int) := by omega
  have f2 : IntKind.i64.wrap (q : Int) = (q : Int) := by rw [IntKind.wrap_i64]; omega
  have f3 : (i : Int).tmod 2 = (r : Int) := by rw [Int.tmod_eq_emod_of_nonneg (by omega)]; omega
  have f3' : (i : Int) % 2 = (r : Int) := by omega
  have f4 : (r : Int) * 4 = (e : Int) := by omega
  have f5 : IntKind.i64.wrap (e : Int) = (e : Int) := by rw [IntKind.wrap_i64]; omega
  have f5' : IntKind.i64.wrap (r : Int) = (r : Int) := by rw [IntKind.wrap_i64]; omega
  obtain ⟨s, hs⟩ : ∃ s, b / 2 ^ e = s := ⟨_, rfl⟩
  rw [hs] at hdb
  have hsl : s < 256 := by rw [← hs]; exact Nat.lt_of_le_of_lt (Nat.div_le_self _ _) hbl
  have f6 : (b : Int) / 2 ^ e = (s : Int) := by rw [← hs, Int.natCast_ediv]; simp
  have f7 : bits .and .u8 (s : Int) 15 = (d : Int) := by
    have h := u8_and' (UInt8.ofNat s) 15
    have e1 : (UInt8.ofNat s).toNat = s := by simp; omega
    rw [show ((15 : UInt8).toNat : Int) = 15 from rfl, e1] at h
    rw [h, UInt8.toNat_and, show (15 : UInt8).toNat = 2 ^ 4 - 1 from rfl, Nat.and_two_pow_sub_one_eq_mod, e1]
    omega
  have b1 : 0 ≤ (q : Int) := by omega
  have b2 : (q : Int) < 32 := by omega
  have b3 : 0 ≤ (e : Int) := by omega
  have b4 : 0 ≤ (d : Int) := by omega
  have b5 : (d : Int) < 16 := by omega
  have HCS := Lib.hid hcs
  have HV20 := Lib.hid hv20
  have HV1 := Lib.hid hv1
  have HZS := Lib.hid hZs
  have HG1 := Lib.hid hg1
  have HZR := Lib.hid hZr
  have HB : Hid (Below W.heap.size W ((W.alloc (.cells Z 28)).setRow W.heap.size v)) := Lib.hid (below_new (Below.refl _ _) _ _ _)
  clear hb hm hs h1 hsl hdb hd hbv cb hcs hv20 hv1 hq hr he hZ hZs hg hg1 hZr hn hdl hi hl ec
  go_enter Try.func79, Try.ntmps79
  go_wp2_with fail
  obtain ⟨W1, hW1⟩ : ∃ X, W.alloc (.cells Z 28) = X := ⟨_, rfl⟩
  rw [hW1] at cx HG1 HZR HB
  rw [hW1]
  clear hW1
  refine wp_region_still_tail 17 (by kernel_rfl) (by kernel_rfl) ?_
  simp only [List.take_succ_cons, List.take_zero, List.drop_succ_cons, List.drop_zero]
  iterate 16 still_step
  refine wpStill_step (fun K hK => ?_)
  refine (if_pos (by kernel_rfl)).mpr ?_
  refine still_runs (run_loadP rfl rfl HG1.out Try.underlying28 rfl (by rw [HV20.out]; exact pt20_info) (fun j hj => HCS.out j (by rw [HV20.out] at hj; exact hj))) ?_
  refine hK _ ?_
  clear hK K
  refine wpStill_nil ?_
  go_wp2_with (refine wpList_store_row rfl 28 (.tmp 4) (.tmp 21) rfl W.heap.size v rfl rfl 28 Z HZR.out (by rw [HV20.out]; exact pt20_info) HZS.out HV1.out ?_)
  have hf : (W1.drew.setRow W.heap.size v).heap[W.heap.size]? = some (.cells v 28 (0, 0)) := setRow_heap _ _ _ _ _ _ HZR.out
  refine bodyPost_ret (results_cell_row rfl _ _ W.heap.size _ v _ _ rfl hf Try.underlying28 rfl (by rw [HV20.out]; exact pt20_info)) rfl ?_
  exact ⟨rfl, HB.out.drew⟩
end Go.Proofs.Ytfejabfmhddepaa

