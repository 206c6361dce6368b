/- The landed package mult, whole: Mult, Base, Two. -/
import Derived.Test.YtfejabfmhddepaaMultC
import Derived.Test.YtfejabfmhddepaaPointE
namespace Go.Proofs.Ytfejabfmhddepaa
open Go.RowKit
set_option linter.unusedVariables false
set_option maxRecDepth 100000

/-- a slice built of products -/
theorem run_bldSlice (w : World) (len : Nat) (parts : Array (Nat × Value)) (cells : Array Value) (h0 : len * 352 ≠ 0) (h1 : len * 352 ≤ 2 ^ 24)
    (hf : Instr.fill (fun i => some (i * 352, 352)) ((Array.range (len * 352)).map (zProd[· % zProd.size]!)) parts.toList = some cells) :
    (Instr.buildSlice 95 len parts).run Try.prog w = .ok (.slice (some ⟨w.heap.size, 0, none⟩) len len) (w.alloc (.cells cells 64)) := by
  have hs : (sizeOf 64).run Try.prog w = .ok 352 w := by kernel_rfl
  have hzv := zProd_zero w
  unfold Instr.buildSlice
  simp only [Sem.run_bind, run_underlying Try.underlying95 w, Result.andThen_ok, hs]
  rw [if_neg (by omega), if_neg h0]
  simp only [Sem.run_bind, Sem.run_pure, Result.andThen_ok, hzv]
  have hc : (Value.agg zProd).cells = zProd := rfl
  rw [hc, hf]
  simp only [newRow, Sem.run_bind, Sem.run_pure, Result.andThen_ok, run_newObj_alloc]
theorem lay_one {z v : Array Value} (hs : z.size = v.size) : v.zipIdx.foldl (fun cs (p : Value × Nat) => cs.setIfInBounds (0 + p.2) p.1) z = v := by
  have h := lay_mid (x := #[]) (y := z) (z := #[]) (v := v) (off := 0) rfl hs
  simpa using h
theorem lay_fst {z v : Array Value} {n : Nat} (hz : z.size = n + n) (hv : v.size = n) : v.zipIdx.foldl (fun cs (p : Value × Nat) => cs.setIfInBounds (0 + p.2) p.1) z = v ++ z.extract n z.size := by
  rw [lay_part v 0 z (by omega), Nat.zero_add, hv]
  simp
theorem run_bld1 (w : World) {a : Array Value} (ha : a.size = 352) : (Instr.buildSlice 95 1 #[(0, .agg a)]).run Try.prog w = .ok (.slice (some ⟨w.heap.size, 0, none⟩) 1 1) (w.alloc (.cells (flatC [a]) 64)) := by
  refine run_bldSlice w 1 _ _ (by omega) (by omega) ?_
  have hz : ((Array.range (1 * 352)).map (zProd[· % zProd.size]!)).size = 352 := by simp
  generalize (Array.range (1 * 352)).map (zProd[· % zProd.size]!) = z at *
  rw [show (#[(0, Value.agg a)] : Array (Nat × Value)).toList = [(0, Value.agg a)] from rfl, fill_part (off := 0) (cs' := a) (by rw [ha]) (by omega) (lay_one (by omega))]
  show some a = some (flatC [a])
  simp [flatC]
theorem run_bld2 (w : World) {a b : Array Value} (ha : a.size = 352) (hb : b.size = 352) : (Instr.buildSlice 95 2 #[(0, .agg a), (1, .agg b)]).run Try.prog w = .ok (.slice (some ⟨w.heap.size, 0, none⟩) 2 2) (w.alloc (.cells (flatC [a, b]) 64)) := by
  refine run_bldSlice w 2 _ _ (by omega) (by omega) ?_
  have hz : ((Array.range (2 * 352)).map (zProd[· % zProd.size]!)).size = 352 + 352 := by simp
  generalize (Array.range (2 * 352)).map (zProd[· % zProd.size]!) = z at *
  have h2 := lay_mid (x := a) (y := z.extract 352 z.size) (z := #[]) (v := b) (off := 352) ha (by simp; omega)
  rw [Array.append_empty, Array.append_empty] at h2
  rw [show (#[(0, Value.agg a), (1, Value.agg b)] : Array (Nat × Value)).toList = [(0, Value.agg a), (1, Value.agg b)] from rfl, fill_part (off := 0) (cs' := a ++ z.extract 352 z.size) (by rw [ha]) (by omega) (lay_fst hz ha), fill_part (off := 352) (cs' := a ++ b) (by rw [hb]) (by simp; omega) h2]
  show some (a ++ b) = some (flatC [a, b])
  simp [flatC]
theorem wp_bld2 {o : Oper} {a : Act} {w : World} {K : Act → World → Prop} {Q : Exit → Act → World → Prop} {x y : Operand} (ho : o.op = .buildSlice 95 2 #[(0, x), (1, y)]) {A B : Array Value}
    (hx : a.eval x = .agg A) (hy : a.eval y = .agg B) (sA : A.size = 352) (sB : B.size = 352) (h : K (a.put o.dst (.slice (some ⟨w.heap.size, 0, none⟩) 2 2)) (w.alloc (.cells (flatC [A, B]) 64))) : o.wp Try.prog a w K Q := by
  unfold Oper.wp execOp
  simp only [ho, List.map_toArray, List.map_cons, List.map_nil, hx, hy, Sem.run_bind, run_bld2 w sA sB, Result.andThen_ok]
  exact h
theorem wpList_bld1 {ops : Array Oper} {rest : List Oper} {o : Oper} {a : Act} {w : World} {Q : Exit → Act → World → Prop} {x : Operand} (hgd : o.guard = none) (ho : o.op = .buildSlice 95 1 #[(0, x)]) {A : Array Value}
    (hx : a.eval x = .agg A) (sA : A.size = 352) (h : wpList Try.prog ops Q rest (a.put o.dst (.slice (some ⟨w.heap.size, 0, none⟩) 1 1)) (w.alloc (.cells (flatC [A]) 64))) : wpList Try.prog ops Q (o :: rest) a w := by
  refine wpList_plain hgd fun K hK => ?_
  unfold Oper.wp execOp
  simp only [ho, List.map_toArray, List.map_cons, List.map_nil, hx, Sem.run_bind, run_bld1 w sA, Result.andThen_ok]
  exact hK _ _ h
theorem prL1 {R : Array Value → PtD → Prop} {l : List UInt8} (hl : l.length = 32) {ms : List (Array Value)} {p : PtD} (h : Mup R p 15 ms) : PrL R [(l, ms, p)] := by
  intro q hq
  rw [List.mem_singleton] at hq
  subst hq
  exact ⟨hl, h⟩
theorem prL2 {R : Array Value → PtD → Prop} {l m : List UInt8} (hl : l.length = 32) (hm : m.length = 32) {ms ns : List (Array Value)} {p q : PtD} (h : Mup R p 15 ms) (k : Mup R q 15 ns) : PrL R [(l, ms, p), (m, ns, q)] := by
  intro x hx
  rcases List.mem_cons.1 hx with rfl | hx
  · exact ⟨hl, h⟩
  · rw [List.mem_singleton] at hx
    subst hx
    exact ⟨hm, k⟩
theorem sumP1 (l : List UInt8) (ms : List (Array Value)) (p : PtD) : sumP (fun n => n) ([(l, ms, p)].map numP) = pmul (leN l) p := by
  show padd (pmul (leN l) p) pzero = _
  rw [padd_z]
theorem sumP2 (l m : List UInt8) (ms ns : List (Array Value)) (p q : PtD) : sumP (fun n => n) ([(l, ms, p), (m, ns, q)].map numP) = padd (pmul (leN l) p) (pmul (leN m) q) := by
  show padd (pmul (leN l) p) (padd (pmul (leN m) q) pzero) = _
  rw [padd_z]
set_option maxHeartbeats 1600000 in
theorem mmult_any {R : Array Value → PtD → Prop} (C : PtC R) (hz : R z20 pzero) {l : List UInt8} (hl : l.length = 32) {c : Array Value} {p : PtD} (hc : R c p) (w : World) :
    Calls Try.prog 12 #[.agg (arrB l), .agg c] w (RetPt R w (pmul (leN l) p)) := by
  have HL := Lib.hid hl
  have HC := Lib.hid hc
  have hBB : (Try.prog.info? 22).map (·.size) = some (arrB l).size := by rw [arrB_size, hl]; kernel_rfl
  have HBB := Lib.hid hBB
  clear hl hc hBB
  have hz20 : ∀ u, (zeroValue 28).run Try.prog u = .ok (.agg z20) u := zp_zero
  have hzs := z20_size
  obtain ⟨Z, hZ⟩ : ∃ Z, z20 = Z := ⟨_, rfl⟩
  have hz' := hz
  rw [hZ] at hz20 hzs hz'
  have HZS := Lib.hid hzs
  clear hzs hz' hZ
  have HR0 := Lib.hid ((((RowsW.nil w).box (arrB l) 22).box c 28).box Z 28)
  have HB0 := Lib.hid (below_box (below_box (below_box (Below.refl w.heap.size w) (arrB l) 22) c 28) Z 28)
  rw [World.size_alloc] at HR0
  rw [World.size_alloc] at HR0
  go_enter Try.func12, Try.ntmps12
  go_upto_region 1 with fail
  obtain ⟨W0, hW0⟩ : ∃ W, (((w.alloc (.cells (arrB l) 22)).alloc (.cells c 28)).alloc (.cells Z 28)) = W := ⟨_, rfl⟩
  obtain ⟨g0, hg0⟩ : ∃ g, w.heap.size = g := ⟨_, rfl⟩
  rw [hW0] at HR0 HB0
  rw [hg0] at HR0
  rw [hW0]
  (try rw [hg0])
  have HG0 := Lib.hid hg0
  clear hW0 hg0
  have l1 := HR0.out.tail.tail.head
  have l2 := HR0.out.tail.head
  go_wp2_with (first
    | (refine wpList_load_row rfl 22 (.tmp 2) rfl g0 rfl 22 (arrB l) (0, 0) _ l1 Try.underlying22 rfl HBB.out ?_)
    | (refine wpList_load_row rfl 28 (.tmp 3) rfl (g0 + 1) rfl 28 c (0, 0) _ l2 Try.underlying28 rfl (C.base.info HC.out) ?_))
  with_reducible refine (mtimes_any C hz HL.out HC.out _).mono ?_
  rintro e v2 ⟨ms, rfl, r2, hv2⟩
  have HSA : Hid ((prC l ms).size = 352) := Lib.hid (prC_size HL.out (r2.size C.base) r2.len)
  have hb6 : Below W0.heap.size W0 (v2.alloc (.cells (flatC [prC l ms]) 64)) := hv2.alloc hv2.size _
  have hg6 : (v2.alloc (.cells (flatC [prC l ms]) 64)).heap[v2.heap.size]? = some (.cells (flatC [prC l ms]) 64 (0, 0)) := heap_alloc_new _ _
  have hsum := msum_any C hz (L := [(l, ms, p)]) (n := 1) (cap := 1) (prL1 HL.out r2) hg6 rfl (by omega)
  rw [sumP1] at hsum
  have HSM := Lib.hid hsum
  clear hsum hg6 r2 l1 l2
  go_wp2_with (refine wpList_bld1 rfl rfl rfl HSA.out ?_)
  with_reducible refine HSM.out.mono ?_
  rintro e v7 ⟨c7, rfl, r7, hv7⟩
  have R7 := Lib.hid r7
  have hb7 := below_next hb6 hv7
  clear r7 hv7 hb6 hv2 HSM
  have hst := (HR0.out.below hb7).head
  have hf : (v7.setRow (g0 + 1 + 1) c7).heap[(g0 + 1 + 1)]? = some (.cells c7 28 (0, 0)) := setRow_heap _ _ _ _ _ _ hst
  have hB9 : Below w.heap.size w (v7.setRow (g0 + 1 + 1) c7) := below_row (below_then HB0.out hb7) (by have := HG0.out; omega)
  go_wp2_with (refine wpList_store_row rfl 28 (.tmp 4) (.tmp 9) rfl (g0 + 1 + 1) c7 rfl rfl 28 Z hst (C.base.info R7.out) (by rw [HZS.out, pt20 C.base R7.out]) (C.base.one R7.out) ?_)
  (try simp only [Exit.inBlock, Exit.then])
  refine bodyPost_ret (results_cell_row rfl _ _ (g0 + 1 + 1) _ c7 _ _ rfl hf Try.underlying28 rfl (C.base.info R7.out)) rfl ?_
  exact ⟨c7, rfl, R7.out, hB9⟩
set_option maxHeartbeats 1600000 in
theorem mbase_any {R : Array Value → PtD → Prop} (C : PtC R) (hz : R z20 pzero) {l : List UInt8} (hl : l.length = 32) (w : World) :
    Calls Try.prog 15 #[.agg (arrB l)] w (RetPt R w (pmul (leN l) F25519.base)) := by
  have HL := Lib.hid hl
  have hBB : (Try.prog.info? 22).map (·.size) = some (arrB l).size := by rw [arrB_size, hl]; kernel_rfl
  have HBB := Lib.hid hBB
  clear hl hBB
  have hz20 : ∀ u, (zeroValue 28).run Try.prog u = .ok (.agg z20) u := zp_zero
  have hzs := z20_size
  obtain ⟨Z, hZ⟩ : ∃ Z, z20 = Z := ⟨_, rfl⟩
  have hz' := hz
  rw [hZ] at hz20 hzs hz'
  have HZS := Lib.hid hzs
  clear hzs hz' hZ
  have HR0 := Lib.hid (((RowsW.nil w).box (arrB l) 22).box Z 28)
  have HB0 := Lib.hid (below_box (below_box (Below.refl w.heap.size w) (arrB l) 22) Z 28)
  rw [World.size_alloc] at HR0
  go_enter Try.func15, Try.ntmps15
  go_upto_region 1 with fail
  obtain ⟨W0, hW0⟩ : ∃ W, ((w.alloc (.cells (arrB l) 22)).alloc (.cells Z 28)) = W := ⟨_, rfl⟩
  obtain ⟨g0, hg0⟩ : ∃ g, w.heap.size = g := ⟨_, rfl⟩
  rw [hW0] at HR0 HB0
  rw [hg0] at HR0
  rw [hW0]
  (try rw [hg0])
  have HG0 := Lib.hid hg0
  clear hW0 hg0
  refine wp_region_noPanic ?_
  refine wp_region_held_tail (S := fun W => Below W0.heap.size W0 W) 3 (by kernel_rfl) ⟨by kernel_rfl, by kernel_rfl, by kernel_rfl, by kernel_rfl⟩ (by exact (Below.refl _ _).drew) (fun hT inv hS => ?_)
  refine' take_atT 0 hT inv rfl (by omega) (by kernel_rfl) (by kernel_rfl) (fun _ _ _ h => h) (by rfl) hS ?_ ?_ ?_
  rotate_left 2
  · intro W hSW; exact run_loadR rfl rfl (HR0.out.below hSW).tail.head Try.underlying22 rfl HBB.out
  · simp only [List.set_cons_succ, List.set_cons_zero]; rfl
  intro inv
  refine call_atT 1 inv rfl (by omega) (by kernel_rfl) (by rfl) (fun K hK => ?_)
  go_simp
  with_reducible refine (C.basep _).mono ?_
  rintro e v1 ⟨c1, rfl, r1, hv1⟩
  have R1 := Lib.hid r1
  clear r1
  have hb1 := below_next hS hv1
  clear hS hv1
  refine hK.out _ _ (by exact hb1) (fun inv hS => ?_)
  clear hK K
  refine call_atT 2 inv rfl (by omega) (by kernel_rfl) (by rfl) (fun K hK => ?_)
  go_simp
  with_reducible refine (mmult_any C hz HL.out R1.out _).mono ?_
  rintro e v2 ⟨c2, rfl, r2, hv2⟩
  have R2 := Lib.hid r2
  clear r2
  have hb2 := below_next hS hv2
  clear hS hv2
  refine hK.out _ _ (by exact hb2) (fun inv hS => ?_)
  clear hK K
  refine done_atT (by kernel_rfl) ?_
  simp only [List.drop_succ_cons, List.drop_zero]
  have hst := (HR0.out.below hb2).head
  have hf : (v2.setRow (g0 + 1) c2).heap[(g0 + 1)]? = some (.cells c2 28 (0, 0)) := setRow_heap _ _ _ _ _ _ hst
  have hB9 : Below w.heap.size w (v2.setRow (g0 + 1) c2) := below_row (below_then HB0.out hb2) (by have := HG0.out; omega)
  go_wp2_with (refine wpList_store_row rfl 28 (.tmp 2) (.tmp 5) rfl (g0 + 1) c2 rfl rfl 28 Z hst (C.base.info R2.out) (by rw [HZS.out, pt20 C.base R2.out]) (C.base.one R2.out) ?_)
  refine NoPanic.normal ?_
  go_wp2_with fail
  (try simp only [Exit.inBlock, Exit.then])
  refine bodyPost_ret (results_cell_row rfl _ _ (g0 + 1) _ c2 _ _ rfl hf Try.underlying28 rfl (C.base.info R2.out)) rfl ?_
  exact ⟨c2, rfl, R2.out, hB9⟩
set_option maxHeartbeats 1600000 in
theorem mtwo_any {R : Array Value → PtD → Prop} (C : PtC R) (hz : R z20 pzero) {l m : List UInt8} (hl : l.length = 32) (hm : m.length = 32) {c : Array Value} {p : PtD} (hc : R c p) (w : World) :
    Calls Try.prog 26 #[.agg (arrB l), .agg c, .agg (arrB m)] w (RetPt R w (padd (pmul (leN l) p) (pmul (leN m) F25519.base))) := by
  have HL := Lib.hid hl
  have HM := Lib.hid hm
  have HC := Lib.hid hc
  have hBB : (Try.prog.info? 22).map (·.size) = some (arrB l).size := by rw [arrB_size, hl]; kernel_rfl
  have hMM : (Try.prog.info? 22).map (·.size) = some (arrB m).size := by rw [arrB_size, hm]; kernel_rfl
  have HBB := Lib.hid hBB
  have HMM := Lib.hid hMM
  clear hl hc hm hBB hMM
  have hz20 : ∀ u, (zeroValue 28).run Try.prog u = .ok (.agg z20) u := zp_zero
  have hzs := z20_size
  obtain ⟨Z, hZ⟩ : ∃ Z, z20 = Z := ⟨_, rfl⟩
  have hz' := hz
  rw [hZ] at hz20 hzs hz'
  have HZS := Lib.hid hzs
  clear hzs hz' hZ
  have HR0 := Lib.hid (((((RowsW.nil w).box (arrB l) 22).box c 28).box (arrB m) 22).box Z 28)
  have HB0 := Lib.hid (below_box (below_box (below_box (below_box (Below.refl w.heap.size w) (arrB l) 22) c 28) (arrB m) 22) Z 28)
  rw [World.size_alloc] at HR0
  rw [World.size_alloc] at HR0
  rw [World.size_alloc] at HR0
  go_enter Try.func26, Try.ntmps26
  go_upto_region 1 with fail
  obtain ⟨W0, hW0⟩ : ∃ W, ((((w.alloc (.cells (arrB l) 22)).alloc (.cells c 28)).alloc (.cells (arrB m) 22)).alloc (.cells Z 28)) = W := ⟨_, rfl⟩
  obtain ⟨g0, hg0⟩ : ∃ g, w.heap.size = g := ⟨_, rfl⟩
  rw [hW0] at HR0 HB0
  rw [hg0] at HR0
  rw [hW0]
  (try rw [hg0])
  have HG0 := Lib.hid hg0
  clear hW0 hg0
  refine wp_region_noPanic ?_
  refine wp_region_held_tail (S := fun W => Below W0.heap.size W0 W) 8 (by kernel_rfl) ⟨by kernel_rfl, by kernel_rfl, by kernel_rfl, by kernel_rfl⟩ (by exact (Below.refl _ _).drew) (fun hT inv hS => ?_)
  refine' take_atT 0 hT inv rfl (by omega) (by kernel_rfl) (by kernel_rfl) (fun _ _ _ h => h) (by rfl) hS ?_ ?_ ?_
  rotate_left 2
  · intro W hSW; exact run_loadR rfl rfl (HR0.out.below hSW).tail.tail.tail.head Try.underlying22 rfl HBB.out
  · simp only [List.set_cons_succ, List.set_cons_zero]; rfl
  intro inv
  refine' take_atT 1 hT inv rfl (by omega) (by kernel_rfl) (by kernel_rfl) (fun _ _ _ h => h) (by rfl) hS ?_ ?_ ?_
  rotate_left 2
  · intro W hSW; exact run_loadR rfl rfl (HR0.out.below hSW).tail.tail.head Try.underlying28 rfl (C.base.info HC.out)
  · simp only [List.set_cons_succ, List.set_cons_zero]; rfl
  intro inv
  refine' take_atT 3 hT inv rfl (by omega) (by kernel_rfl) (by kernel_rfl) (fun _ _ _ h => h) (by rfl) hS ?_ ?_ ?_
  rotate_left 2
  · intro W hSW; exact run_loadR rfl rfl (HR0.out.below hSW).tail.head Try.underlying22 rfl HMM.out
  · simp only [List.set_cons_succ, List.set_cons_zero]; rfl
  intro inv
  refine call_atT 2 inv rfl (by omega) (by kernel_rfl) (by rfl) (fun K hK => ?_)
  go_simp
  with_reducible refine (mtimes_any C hz HL.out HC.out _).mono ?_
  rintro e v2 ⟨ms, rfl, r2, hv2⟩
  have R2 := Lib.hid r2
  clear r2
  have hb2 := below_next hS hv2
  clear hS hv2
  refine hK.out _ _ (by exact hb2) (fun inv hS => ?_)
  clear hK K
  refine call_atT 4 inv rfl (by omega) (by kernel_rfl) (by rfl) (fun K hK => ?_)
  go_simp
  with_reducible refine (C.basep _).mono ?_
  rintro e v4 ⟨c4, rfl, r4, hv4⟩
  have R4 := Lib.hid r4
  clear r4
  have hb4 := below_next hS hv4
  clear hS hv4
  refine hK.out _ _ (by exact hb4) (fun inv hS => ?_)
  clear hK K
  refine call_atT 5 inv rfl (by omega) (by kernel_rfl) (by rfl) (fun K hK => ?_)
  go_simp
  with_reducible refine (mtimes_any C hz HM.out R4.out _).mono ?_
  rintro e v5 ⟨ns, rfl, r5, hv5⟩
  have R5 := Lib.hid r5
  clear r5
  have hb5 := below_next hS hv5
  clear hS hv5
  have HSA : Hid ((prC l ms).size = 352) := Lib.hid (prC_size HL.out (R2.out.size C.base) R2.out.len)
  have HSB : Hid ((prC m ns).size = 352) := Lib.hid (prC_size HM.out (R5.out.size C.base) R5.out.len)
  refine hK.out _ _ (by exact hb5) (fun inv hS => ?_)
  clear hK K
  refine call_atT 6 inv rfl (by omega) (by kernel_rfl) (by rfl) (fun K hK => ?_)
  refine wp_bld2 rfl rfl rfl HSA.out HSB.out ?_
  have hb6 : Below W0.heap.size W0 (v5.alloc (.cells (flatC [prC l ms, prC m ns]) 64)) := hb5.alloc hb5.size _
  have hg6 : (v5.alloc (.cells (flatC [prC l ms, prC m ns]) 64)).heap[v5.heap.size]? = some (.cells (flatC [prC l ms, prC m ns]) 64 (0, 0)) := heap_alloc_new _ _
  refine hK.out _ _ (by exact hb6) (fun inv hS => ?_)
  clear hK K
  refine call_atT 7 inv rfl (by omega) (by kernel_rfl) (by rfl) (fun K hK => ?_)
  go_simp
  with_reducible refine (msum_any C hz (L := [(l, ms, p), (m, ns, F25519.base)]) (n := 2) (prL2 HL.out HM.out R2.out R5.out) hg6 rfl (by omega)).mono ?_
  rintro e v7 ⟨c7, rfl, r7, hv7⟩
  rw [sumP2] at r7
  have R7 := Lib.hid r7
  clear r7
  have hb7 := below_next hb6 hv7
  clear hS hv7
  refine hK.out _ _ (by exact hb7) (fun inv hS => ?_)
  clear hK K
  refine done_atT (by kernel_rfl) ?_
  simp only [List.drop_succ_cons, List.drop_zero]
  have hst := (HR0.out.below hb7).head
  have hf : (v7.setRow (g0 + 1 + 1 + 1) c7).heap[(g0 + 1 + 1 + 1)]? = some (.cells c7 28 (0, 0)) := setRow_heap _ _ _ _ _ _ hst
  have hB9 : Below w.heap.size w (v7.setRow (g0 + 1 + 1 + 1) c7) := below_row (below_then HB0.out hb7) (by have := HG0.out; omega)
  go_wp2_with (refine wpList_store_row rfl 28 (.tmp 6) (.tmp 14) rfl (g0 + 1 + 1 + 1) c7 rfl rfl 28 Z hst (C.base.info R7.out) (by rw [HZS.out, pt20 C.base R7.out]) (C.base.one R7.out) ?_)
  refine NoPanic.normal ?_
  go_wp2_with fail
  (try simp only [Exit.inBlock, Exit.then])
  refine bodyPost_ret (results_cell_row rfl _ _ (g0 + 1 + 1 + 1) _ c7 _ _ rfl hf Try.underlying28 rfl (C.base.info R7.out)) rfl ?_
  exact ⟨c7, rfl, R7.out, hB9⟩
/-- the zero value of the landed package's points stands for the neutral element -/
theorem ptR_zero : ptR z20 pzero := by
  obtain ⟨Z, hZ, rZ⟩ := feC.base.zero
  rw [z5_is hZ] at rZ
  exact ⟨z5, z5, z5, z5, 0, 0, 0, 0, rfl, rZ, rZ, rZ, rZ, .inr ⟨rfl, rfl, rfl, rfl, rfl⟩⟩
theorem muC : MuC ptR where
  mult := fun l hl {c p} hc W => mmult_any ptC ptR_zero hl hc W
  base := fun l hl W => mbase_any ptC ptR_zero hl W
  two := fun l m hl hm {c p} hc W => mtwo_any ptC ptR_zero hl hm hc W
end Go.Proofs.Ytfejabfmhddepaa

