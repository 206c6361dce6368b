/- The walk of FeRuns. Written by wip/tools/mk_law9.py. -/
import Derived.Test.YtlhnjdnkjgnooaaLaw9Alive
import Derived.Test.YtlhnjdnkjgnooaaFe9L
import Derived.Test.YtlhnjdnkjgnooaaRowsArg
namespace Go.Proofs.Ytlhnjdnkjgnooaa
open Go.RowKit
set_option linter.unusedVariables false
set_option maxRecDepth 100000

structure R4 (W : World) (gx gy gp gq : Nat) (X Y P Q : Array Value) : Prop where
  x : W.heap[gx]? = some (.cells X 26 (0, 0))
  y : W.heap[gy]? = some (.cells Y 26 (0, 0))
  p : W.heap[gp]? = some (.cells P 29 (0, 0))
  q : W.heap[gq]? = some (.cells Q 29 (0, 0))
section
variable {W W' : World} {gx gy gp gq : Nat} {X Y P Q : Array Value}
theorem R4.below (h : R4 W gx gy gp gq X Y P Q) (hb : Below W.heap.size W W') : R4 W' gx gy gp gq X Y P Q :=
  ⟨by rw [hb.block _ (Array.getElem?_eq_some_iff.1 h.x).1]; exact h.x, by rw [hb.block _ (Array.getElem?_eq_some_iff.1 h.y).1]; exact h.y, by rw [hb.block _ (Array.getElem?_eq_some_iff.1 h.p).1]; exact h.p, by rw [hb.block _ (Array.getElem?_eq_some_iff.1 h.q).1]; exact h.q⟩
theorem R4.setX (h : R4 W gx gy gp gq X Y P Q) (d : gx ≠ gy ∧ gx ≠ gp ∧ gx ≠ gq ∧ gy ≠ gp ∧ gy ≠ gq ∧ gp ≠ gq) (c : Array Value) : R4 (W.setRow gx c) gx gy gp gq c Y P Q :=
  ⟨setRow_heap _ _ _ _ _ _ h.x, by rw [setRow_other _ _ _ _ (by omega)]; exact h.y, by rw [setRow_other _ _ _ _ (by omega)]; exact h.p, by rw [setRow_other _ _ _ _ (by omega)]; exact h.q⟩
theorem R4.setY (h : R4 W gx gy gp gq X Y P Q) (d : gx ≠ gy ∧ gx ≠ gp ∧ gx ≠ gq ∧ gy ≠ gp ∧ gy ≠ gq ∧ gp ≠ gq) (c : Array Value) : R4 (W.setRow gy c) gx gy gp gq X c P Q :=
  ⟨by rw [setRow_other _ _ _ _ (by omega)]; exact h.x, setRow_heap _ _ _ _ _ _ h.y, by rw [setRow_other _ _ _ _ (by omega)]; exact h.p, by rw [setRow_other _ _ _ _ (by omega)]; exact h.q⟩
theorem R4.setP (h : R4 W gx gy gp gq X Y P Q) (d : gx ≠ gy ∧ gx ≠ gp ∧ gx ≠ gq ∧ gy ≠ gp ∧ gy ≠ gq ∧ gp ≠ gq) (c : Array Value) : R4 (W.setRow gp c) gx gy gp gq X Y c Q :=
  ⟨by rw [setRow_other _ _ _ _ (by omega)]; exact h.x, by rw [setRow_other _ _ _ _ (by omega)]; exact h.y, setRow_heap _ _ _ _ _ _ h.p, by rw [setRow_other _ _ _ _ (by omega)]; exact h.q⟩
theorem R4.setQ (h : R4 W gx gy gp gq X Y P Q) (d : gx ≠ gy ∧ gx ≠ gp ∧ gx ≠ gq ∧ gy ≠ gp ∧ gy ≠ gq ∧ gp ≠ gq) (c : Array Value) : R4 (W.setRow gq c) gx gy gp gq X Y P c :=
  ⟨by rw [setRow_other _ _ _ _ (by omega)]; exact h.x, by rw [setRow_other _ _ _ _ (by omega)]; exact h.y, by rw [setRow_other _ _ _ _ (by omega)]; exact h.p, setRow_heap _ _ _ _ _ _ h.q⟩
end

set_option maxHeartbeats 6400000 in
theorem law9Runs {R : Array Value → Nat → Prop} (C : FeC R) (w : World) (a : List UInt8) (ha : a.length = 32) (b : List UInt8) (hb : b.length = 32) (A : Option Addr) (L : List Int) (c : Nat) (hi : IntRow w A L) : Calls Try.prog 4 #[.agg (arrB a), .agg (arrB b), .slice A L.length c] w fun e w' => e = .returned (.bool true) ∧ Below w.heap.size w w' := by
  have HAL : Hid (∀ W : World, Calls Try.prog 9 #[] W fun e w' => e = .returned (.bool true) ∧ Below W.heap.size W w') := Lib.hid (fun W => alive9_any C W)
  obtain ⟨Z, hZ, RZ⟩ := C.base.zero
  have hzR := refT_zero
  have hz32 := zero32_zero
  have Ha := Lib.hid ha
  have Hb := Lib.hid hb
  clear ha hb
  obtain ⟨N, hN⟩ : ∃ N, L.length = N := ⟨_, rfl⟩
  have HI : Hid (IntRow w A L) := Lib.hid hi
  have HNL := Lib.hid hN
  rw [hN]
  clear hi hN
  by_cases g1 : 60 < N
  · have d1 : decide ((60 : Int) < (N : Int)) = true := decide_eq_true (by omega)
    clear g1
    go_enter Try.func4, Try.ntmps4
    go_wp2_with fail
    have HR0 := Lib.hid (((RowsW.nil w).box (arrB a) 22).box (arrB b) 22)
    have HB0 := Lib.hid (below_box (below_box (Below.refl w.heap.size w) (arrB a) 22) (arrB b) 22)
    rw [World.size_alloc] at HR0
    obtain ⟨W0, hW0⟩ : ∃ W, ((w.alloc (.cells (arrB a) 22)).alloc (.cells (arrB b) 22)) = W := ⟨_, rfl⟩
    obtain ⟨g0, hg0⟩ : ∃ g, w.heap.size = g := ⟨_, rfl⟩
    rw [hW0] at HR0 HB0
    rw [hg0] at HR0
    rw [hW0, hg0]
    have HG0 := Lib.hid hg0
    clear hW0 hg0
    with_reducible refine (HAL.out _).mono ?_
    rintro e v1 ⟨rfl, hb1⟩
    have HR1 := Lib.hid (HR0.out.below hb1)
    have HB1 := Lib.hid (below_next HB0.out hb1)
    clear hb1
    go_wp2_with fail
    go_ret
    exact ⟨rfl, HB1.out⟩
  have d1 : decide ((60 : Int) < (N : Int)) = false := decide_eq_false (by omega)
  go_enter Try.func4, Try.ntmps4
  go_wp2_with fail
  have HR0 := Lib.hid (((RowsW.nil w).box (arrB a) 22).box (arrB b) 22)
  have HB0 := Lib.hid (below_box (below_box (Below.refl w.heap.size w) (arrB a) 22) (arrB b) 22)
  rw [World.size_alloc] at HR0
  obtain ⟨W0, hW0⟩ : ∃ W, ((w.alloc (.cells (arrB a) 22)).alloc (.cells (arrB b) 22)) = W := ⟨_, rfl⟩
  obtain ⟨g0, hg0⟩ : ∃ g, w.heap.size = g := ⟨_, rfl⟩
  rw [hW0] at HR0 HB0
  rw [hg0] at HR0
  rw [hW0, hg0]
  have HG0 := Lib.hid hg0
  clear hW0 hg0
  with_reducible refine (HAL.out _).mono ?_
  rintro e v1 ⟨rfl, hb1⟩
  have HR1 := Lib.hid (HR0.out.below hb1)
  have HB1 := Lib.hid (below_next HB0.out hb1)
  clear hb1
  go_upto_region 4 with fail
  have l1 := HR1.out.tail.head
  go_wp2_with (refine wpList_load_row rfl 22 (.tmp 3) rfl g0 rfl 22 (arrB a) (0, 0) _ l1 Try.underlying22 rfl (arr32_info Ha.out) ?_)
  obtain ⟨n2, hn2⟩ : ∃ x : Nat, feN a = x := ⟨_, rfl⟩
  have Hn2 := Lib.hid hn2
  have HLn2 : Hid (n2 < PP) := Lib.hid (by rw [← hn2]; exact Nat.mod_lt _ (by decide))
  clear hn2
  with_reducible refine ((C.from_ a Ha.out) _).mono ?_
  rintro e vq3 ⟨cq3, rfl, rq3, hbq3⟩
  rw [Hn2.out] at rq3
  have Rq3 := Lib.hid rq3
  clear rq3
  have HRq3 := Lib.hid (HR1.out.below hbq3)
  have HBq3 := Lib.hid (below_next HB1.out hbq3)
  clear hbq3
  have h0q4 : (vq3.alloc (.cells Z 26)).heap[vq3.heap.size]? = some (.cells Z 26 (0, 0)) := heap_alloc_new _ _
  have HRq4 := Lib.hid (HRq3.out.new Z cq3 26)
  have HBq4 := Lib.hid (below_new HBq3.out Z cq3 26)
  have HNq4 := Lib.hid HRq3.out.ne
  have HGq4 := Lib.hid HBq3.out.size
  go_upto_region 5 with (refine wpList_store_row rfl 26 (.tmp 8) (.tmp 23) rfl vq3.heap.size cq3 rfl rfl 26 Z h0q4 (C.base.info Rq3.out) (C.base.size RZ Rq3.out) (C.base.one Rq3.out) ?_)
  obtain ⟨Wq4, hWq4⟩ : ∃ W, (vq3.alloc (.cells Z 26)).setRow vq3.heap.size cq3 = W := ⟨_, rfl⟩
  obtain ⟨gq4, hgq4⟩ : ∃ g, vq3.heap.size = g := ⟨_, rfl⟩
  rw [hWq4, hgq4] at HRq4
  rw [hWq4] at HBq4
  rw [hgq4] at HNq4 HGq4
  rw [hWq4, hgq4]
  clear hWq4 hgq4 h0q4
  have NEq4_0 : Hid (g0 ≠ gq4) := Lib.hid (HNq4.out (g0, (arrB a), 22) (by simp))
  have NEq4_1 : Hid ((g0 + 1) ≠ gq4) := Lib.hid (HNq4.out ((g0 + 1), (arrB b), 22) (by simp))
  have l5 := HRq4.out.tail.head
  go_wp2_with (refine wpList_load_row rfl 22 (.tmp 4) rfl (g0 + 1) rfl 22 (arrB b) (0, 0) _ l5 Try.underlying22 rfl (arr32_info Hb.out) ?_)
  obtain ⟨n6, hn6⟩ : ∃ x : Nat, feN b = x := ⟨_, rfl⟩
  have Hn6 := Lib.hid hn6
  have HLn6 : Hid (n6 < PP) := Lib.hid (by rw [← hn6]; exact Nat.mod_lt _ (by decide))
  clear hn6
  with_reducible refine ((C.from_ b Hb.out) _).mono ?_
  rintro e vq7 ⟨cq7, rfl, rq7, hbq7⟩
  rw [Hn6.out] at rq7
  have Rq7 := Lib.hid rq7
  clear rq7
  have HRq7 := Lib.hid (HRq4.out.below hbq7)
  have HBq7 := Lib.hid (below_next HBq4.out hbq7)
  clear hbq7
  have h0q8 : (vq7.alloc (.cells Z 26)).heap[vq7.heap.size]? = some (.cells Z 26 (0, 0)) := heap_alloc_new _ _
  have HRq8 := Lib.hid (HRq7.out.new Z cq7 26)
  have HBq8 := Lib.hid (below_new HBq7.out Z cq7 26)
  have HNq8 := Lib.hid HRq7.out.ne
  have HGq8 := Lib.hid HBq7.out.size
  go_upto_region 6 with (refine wpList_store_row rfl 26 (.tmp 9) (.tmp 25) rfl vq7.heap.size cq7 rfl rfl 26 Z h0q8 (C.base.info Rq7.out) (C.base.size RZ Rq7.out) (C.base.one Rq7.out) ?_)
  obtain ⟨Wq8, hWq8⟩ : ∃ W, (vq7.alloc (.cells Z 26)).setRow vq7.heap.size cq7 = W := ⟨_, rfl⟩
  obtain ⟨gq8, hgq8⟩ : ∃ g, vq7.heap.size = g := ⟨_, rfl⟩
  rw [hWq8, hgq8] at HRq8
  rw [hWq8] at HBq8
  rw [hgq8] at HNq8 HGq8
  rw [hWq8, hgq8]
  clear hWq8 hgq8 h0q8
  have NEq8_0 : Hid (g0 ≠ gq8) := Lib.hid (HNq8.out (g0, (arrB a), 22) (by simp))
  have NEq8_1 : Hid ((g0 + 1) ≠ gq8) := Lib.hid (HNq8.out ((g0 + 1), (arrB b), 22) (by simp))
  have NEq8_2 : Hid (gq4 ≠ gq8) := Lib.hid (HNq8.out (gq4, cq3, 26) (by simp))
  have l9 := HRq8.out.tail.tail.tail.head
  go_wp2_with (refine wpList_load_row rfl 22 (.tmp 3) rfl g0 rfl 22 (arrB a) (0, 0) _ l9 Try.underlying22 rfl (arr32_info Ha.out) ?_)
  have kq10 := fun W : World => (rfromN a Ha.out) W
  rw [Hn2.out] at kq10
  have Kq10 := Lib.hid kq10
  clear kq10
  with_reducible refine (Kq10.out _).mono ?_
  rintro e vq10 ⟨rfl, hbq10⟩
  have HRq10 := Lib.hid (HRq8.out.below hbq10)
  have HBq10 := Lib.hid (below_next HBq8.out hbq10)
  clear hbq10
  have h0q11 : (vq10.alloc (.cells (refT 0) 29)).heap[vq10.heap.size]? = some (.cells (refT 0) 29 (0, 0)) := heap_alloc_new _ _
  have HRq11 := Lib.hid (HRq10.out.new (refT 0) (refT n2) 29)
  have HBq11 := Lib.hid (below_new HBq10.out (refT 0) (refT n2) 29)
  have HNq11 := Lib.hid HRq10.out.ne
  have HGq11 := Lib.hid HBq10.out.size
  go_upto_region 7 with (refine wpList_store_row rfl 29 (.tmp 10) (.tmp 27) rfl vq10.heap.size (refT n2) rfl rfl 29 (refT 0) h0q11 (refT_info _) (refT_size _ _) (refT_one _) ?_)
  obtain ⟨Wq11, hWq11⟩ : ∃ W, (vq10.alloc (.cells (refT 0) 29)).setRow vq10.heap.size (refT n2) = W := ⟨_, rfl⟩
  obtain ⟨gq11, hgq11⟩ : ∃ g, vq10.heap.size = g := ⟨_, rfl⟩
  rw [hWq11, hgq11] at HRq11
  rw [hWq11] at HBq11
  rw [hgq11] at HNq11 HGq11
  rw [hWq11, hgq11]
  clear hWq11 hgq11 h0q11
  have NEq11_0 : Hid (g0 ≠ gq11) := Lib.hid (HNq11.out (g0, (arrB a), 22) (by simp))
  have NEq11_1 : Hid ((g0 + 1) ≠ gq11) := Lib.hid (HNq11.out ((g0 + 1), (arrB b), 22) (by simp))
  have NEq11_2 : Hid (gq4 ≠ gq11) := Lib.hid (HNq11.out (gq4, cq3, 26) (by simp))
  have NEq11_3 : Hid (gq8 ≠ gq11) := Lib.hid (HNq11.out (gq8, cq7, 26) (by simp))
  have l12 := HRq11.out.tail.tail.tail.head
  go_wp2_with (refine wpList_load_row rfl 22 (.tmp 4) rfl (g0 + 1) rfl 22 (arrB b) (0, 0) _ l12 Try.underlying22 rfl (arr32_info Hb.out) ?_)
  have kq13 := fun W : World => (rfromN b Hb.out) W
  rw [Hn6.out] at kq13
  have Kq13 := Lib.hid kq13
  clear kq13
  with_reducible refine (Kq13.out _).mono ?_
  rintro e vq13 ⟨rfl, hbq13⟩
  have HRq13 := Lib.hid (HRq11.out.below hbq13)
  have HBq13 := Lib.hid (below_next HBq11.out hbq13)
  clear hbq13
  have h0q14 : (vq13.alloc (.cells (refT 0) 29)).heap[vq13.heap.size]? = some (.cells (refT 0) 29 (0, 0)) := heap_alloc_new _ _
  have HRq14 := Lib.hid (HRq13.out.new (refT 0) (refT n6) 29)
  have HBq14 := Lib.hid (below_new HBq13.out (refT 0) (refT n6) 29)
  have HNq14 := Lib.hid HRq13.out.ne
  have HGq14 := Lib.hid HBq13.out.size
  go_upto_region 8 with (refine wpList_store_row rfl 29 (.tmp 11) (.tmp 29) rfl vq13.heap.size (refT n6) rfl rfl 29 (refT 0) h0q14 (refT_info _) (refT_size _ _) (refT_one _) ?_)
  obtain ⟨Wq14, hWq14⟩ : ∃ W, (vq13.alloc (.cells (refT 0) 29)).setRow vq13.heap.size (refT n6) = W := ⟨_, rfl⟩
  obtain ⟨gq14, hgq14⟩ : ∃ g, vq13.heap.size = g := ⟨_, rfl⟩
  rw [hWq14, hgq14] at HRq14
  rw [hWq14] at HBq14
  rw [hgq14] at HNq14 HGq14
  rw [hWq14, hgq14]
  clear hWq14 hgq14 h0q14
  have NEq14_0 : Hid (g0 ≠ gq14) := Lib.hid (HNq14.out (g0, (arrB a), 22) (by simp))
  have NEq14_1 : Hid ((g0 + 1) ≠ gq14) := Lib.hid (HNq14.out ((g0 + 1), (arrB b), 22) (by simp))
  have NEq14_2 : Hid (gq4 ≠ gq14) := Lib.hid (HNq14.out (gq4, cq3, 26) (by simp))
  have NEq14_3 : Hid (gq8 ≠ gq14) := Lib.hid (HNq14.out (gq8, cq7, 26) (by simp))
  have NEq14_4 : Hid (gq11 ≠ gq14) := Lib.hid (HNq14.out (gq11, (refT n2), 29) (by simp))
  have H4 : Hid (R4 Wq14 gq4 gq8 gq11 gq14 cq3 cq7 (refT n2) (refT n6)) := Lib.hid ⟨HRq14.out.tail.tail.tail.head, HRq14.out.tail.tail.head, HRq14.out.tail.head, HRq14.out.head⟩
  have HGX := HGq4
  have HD : Hid (gq4 ≠ gq8 ∧ gq4 ≠ gq11 ∧ gq4 ≠ gq14 ∧ gq8 ≠ gq11 ∧ gq8 ≠ gq14 ∧ gq11 ≠ gq14) := Lib.hid ⟨HNq8.out (gq4, cq3, 26) (by simp), HNq11.out (gq4, cq3, 26) (by simp), HNq14.out (gq4, cq3, 26) (by simp), HNq11.out (gq8, cq7, 26) (by simp), HNq14.out (gq8, cq7, 26) (by simp), HNq14.out (gq11, (refT n2), 29) (by simp)⟩
  have HGs : Hid (w.heap.size ≤ gq4 ∧ w.heap.size ≤ gq8 ∧ w.heap.size ≤ gq11 ∧ w.heap.size ≤ gq14) := Lib.hid ⟨HGq4.out, HGq8.out, HGq11.out, HGq14.out⟩
  have RX := Rq3
  have RY := Rq7
  have HB := HBq14
  go_wp2_with fail
  go_loopw [12] (fun i wr => ∃ (k : Nat) (cx cy : Array Value) (x y : Nat), k ≤ N ∧ i = .int .i64 (k : Int) ∧ Hid (R cx x) ∧ Hid (R cy y) ∧ Hid (R4 wr gq4 gq8 gq11 gq14 cx cy (refT x) (refT y)) ∧ Hid (Below w.heap.size w wr)) (fun i _ => N - (intOf i).toNat)
  case atStart => exact ⟨0, _, _, _, _, by omega, rfl, RX, RY, H4, HB⟩
  case round =>
    clear RX RY H4 HB
    obtain ⟨k, cx, cy, x, y, hk, rfl, RX, RY, H4, HB⟩ := hrel
    have iX := C.base.info RX.out
    have iY := C.base.info RY.out
    have HLX : Hid (x < PP) := Lib.hid (C.base.lt RX.out)
    have HLY : Hid (y < PP) := Lib.hid (C.base.lt RY.out)
    by_cases hlt : k < N
    · have HK := Lib.hid hlt
      obtain ⟨b0, o0, rfl, hcell⟩ := (HI.out.below HB.out) (by rw [HNL.out]; omega)
      obtain ⟨hck, hv1, hv2⟩ := hcell k (by rw [HNL.out]; exact hlt)
      obtain ⟨v, hv⟩ : ∃ v, L.getD k 0 = v := ⟨_, rfl⟩
      rw [hv] at hck hv1 hv2
      have p1 : (k : Int) < (N : Int) := by omega
      have p2 : 0 ≤ (k : Int) := by omega
      clear hcell hv
      by_cases h0 : v = 0
      · subst h0
        have hx := H4.out.x
        have hy := H4.out.y
        go_wp2_with (first | (refine wpList_load_row rfl 26 (.tmp 8) rfl gq4 rfl 26 cx (0, 0) _ hx Try.underlying26 rfl iX ?_) | (refine wpList_load_row rfl 26 (.tmp 9) rfl gq8 rfl 26 cy (0, 0) _ hy Try.underlying26 rfl iY ?_))
        clear hx hy
        with_reducible refine (C.add RX.out RY.out _).mono ?_
        rintro e v5 ⟨c5, rfl, r5, hb5⟩
        obtain ⟨n5, hn5⟩ : ∃ n, (x + y) % PP = n := ⟨_, rfl⟩
        rw [hn5] at r5
        have R5 := Lib.hid r5
        have H5 := H4.out.below hb5
        have hs5 := H5.x
        have i5 := C.base.info R5.out
        have o5 := C.base.one R5.out
        have z5 := C.base.size RX.out R5.out
        have B5 := below_row (cs := c5) (below_next HB.out hb5) HGs.out.1
        have H6 := H5.setX HD.out c5
        have hp := H6.p
        have hq := H6.q
        have HB5 := Lib.hid B5
        have H6h := Lib.hid H6
        have HN5 := Lib.hid hn5
        clear r5 hb5 hn5 H5 B5 H6 H4
        go_wp2_with (first | (refine wpList_store_row rfl 26 (.tmp 8) (.tmp 50) rfl gq4 c5 rfl rfl 26 cx hs5 i5 z5 o5 ?_) | (refine wpList_load_row rfl 29 (.tmp 10) rfl gq11 rfl 29 (refT x) (0, 0) _ hp Try.underlying29 rfl (refT_info _) ?_) | (refine wpList_load_row rfl 29 (.tmp 11) rfl gq14 rfl 29 (refT y) (0, 0) _ hq Try.underlying29 rfl (refT_info _) ?_))
        have k5 := fun W : World => raddN HLX.out HLY.out W
        rw [HN5.out] at k5
        with_reducible refine (k5 _).mono ?_
        rintro e v6 ⟨rfl, hb6⟩
        have H7 := H6h.out.below hb6
        have hs6 := H7.p
        have z6 := refT_size x n5
        have HB7 := Lib.hid (below_row (cs := refT n5) (below_next HB5.out hb6) HGs.out.2.2.1)
        have H8 := Lib.hid (H7.setP HD.out (refT n5))
        clear hb6 H7 k5 hs5 hp hq
        go_wp2_with (refine wpList_store_row rfl 29 (.tmp 10) (.tmp 53) rfl gq11 (refT n5) rfl rfl 29 (refT x) hs6 (refT_info _) z6 (refT_one _) ?_)
        go_roundw
        case rel => exact ⟨k + 1, c5, cy, n5, y, by have := HK.out; omega, by go_num, R5, RY, H8, HB7⟩
        case measure => simp [intOf]; have := HK.out; omega
      have c0 : (v == 0) = false := by simp; exact h0
      by_cases h1 : v = 1
      · subst h1
        have hx := H4.out.x
        have hy := H4.out.y
        go_wp2_with (first | (refine wpList_load_row rfl 26 (.tmp 8) rfl gq4 rfl 26 cx (0, 0) _ hx Try.underlying26 rfl iX ?_) | (refine wpList_load_row rfl 26 (.tmp 9) rfl gq8 rfl 26 cy (0, 0) _ hy Try.underlying26 rfl iY ?_))
        clear hx hy
        with_reducible refine (C.sub RX.out RY.out _).mono ?_
        rintro e v5 ⟨c5, rfl, r5, hb5⟩
        obtain ⟨n5, hn5⟩ : ∃ n, (x + (PP - y)) % PP = n := ⟨_, rfl⟩
        rw [hn5] at r5
        have R5 := Lib.hid r5
        have H5 := H4.out.below hb5
        have hs5 := H5.x
        have i5 := C.base.info R5.out
        have o5 := C.base.one R5.out
        have z5 := C.base.size RX.out R5.out
        have B5 := below_row (cs := c5) (below_next HB.out hb5) HGs.out.1
        have H6 := H5.setX HD.out c5
        have hp := H6.p
        have hq := H6.q
        have HB5 := Lib.hid B5
        have H6h := Lib.hid H6
        have HN5 := Lib.hid hn5
        clear r5 hb5 hn5 H5 B5 H6 H4
        go_wp2_with (first | (refine wpList_store_row rfl 26 (.tmp 8) (.tmp 58) rfl gq4 c5 rfl rfl 26 cx hs5 i5 z5 o5 ?_) | (refine wpList_load_row rfl 29 (.tmp 10) rfl gq11 rfl 29 (refT x) (0, 0) _ hp Try.underlying29 rfl (refT_info _) ?_) | (refine wpList_load_row rfl 29 (.tmp 11) rfl gq14 rfl 29 (refT y) (0, 0) _ hq Try.underlying29 rfl (refT_info _) ?_))
        have k5 := fun W : World => rsubN HLX.out HLY.out W
        rw [HN5.out] at k5
        with_reducible refine (k5 _).mono ?_
        rintro e v6 ⟨rfl, hb6⟩
        have H7 := H6h.out.below hb6
        have hs6 := H7.p
        have z6 := refT_size x n5
        have HB7 := Lib.hid (below_row (cs := refT n5) (below_next HB5.out hb6) HGs.out.2.2.1)
        have H8 := Lib.hid (H7.setP HD.out (refT n5))
        clear hb6 H7 k5 hs5 hp hq
        go_wp2_with (refine wpList_store_row rfl 29 (.tmp 10) (.tmp 61) rfl gq11 (refT n5) rfl rfl 29 (refT x) hs6 (refT_info _) z6 (refT_one _) ?_)
        go_roundw
        case rel => exact ⟨k + 1, c5, cy, n5, y, by have := HK.out; omega, by go_num, R5, RY, H8, HB7⟩
        case measure => simp [intOf]; have := HK.out; omega
      have c1 : (v == 1) = false := by simp; exact h1
      by_cases h2 : v = 2
      · subst h2
        have hx := H4.out.x
        have hy := H4.out.y
        go_wp2_with (first | (refine wpList_load_row rfl 26 (.tmp 8) rfl gq4 rfl 26 cx (0, 0) _ hx Try.underlying26 rfl iX ?_) | (refine wpList_load_row rfl 26 (.tmp 9) rfl gq8 rfl 26 cy (0, 0) _ hy Try.underlying26 rfl iY ?_))
        clear hx hy
        with_reducible refine (C.mul RX.out RY.out _).mono ?_
        rintro e v5 ⟨c5, rfl, r5, hb5⟩
        obtain ⟨n5, hn5⟩ : ∃ n, (x * y) % PP = n := ⟨_, rfl⟩
        rw [hn5] at r5
        have R5 := Lib.hid r5
        have H5 := H4.out.below hb5
        have hs5 := H5.x
        have i5 := C.base.info R5.out
        have o5 := C.base.one R5.out
        have z5 := C.base.size RX.out R5.out
        have B5 := below_row (cs := c5) (below_next HB.out hb5) HGs.out.1
        have H6 := H5.setX HD.out c5
        have hp := H6.p
        have hq := H6.q
        have HB5 := Lib.hid B5
        have H6h := Lib.hid H6
        have HN5 := Lib.hid hn5
        clear r5 hb5 hn5 H5 B5 H6 H4
        go_wp2_with (first | (refine wpList_store_row rfl 26 (.tmp 8) (.tmp 66) rfl gq4 c5 rfl rfl 26 cx hs5 i5 z5 o5 ?_) | (refine wpList_load_row rfl 29 (.tmp 10) rfl gq11 rfl 29 (refT x) (0, 0) _ hp Try.underlying29 rfl (refT_info _) ?_) | (refine wpList_load_row rfl 29 (.tmp 11) rfl gq14 rfl 29 (refT y) (0, 0) _ hq Try.underlying29 rfl (refT_info _) ?_))
        have k5 := fun W : World => rmulN HLX.out HLY.out W
        rw [HN5.out] at k5
        with_reducible refine (k5 _).mono ?_
        rintro e v6 ⟨rfl, hb6⟩
        have H7 := H6h.out.below hb6
        have hs6 := H7.p
        have z6 := refT_size x n5
        have HB7 := Lib.hid (below_row (cs := refT n5) (below_next HB5.out hb6) HGs.out.2.2.1)
        have H8 := Lib.hid (H7.setP HD.out (refT n5))
        clear hb6 H7 k5 hs5 hp hq
        go_wp2_with (refine wpList_store_row rfl 29 (.tmp 10) (.tmp 69) rfl gq11 (refT n5) rfl rfl 29 (refT x) hs6 (refT_info _) z6 (refT_one _) ?_)
        go_roundw
        case rel => exact ⟨k + 1, c5, cy, n5, y, by have := HK.out; omega, by go_num, R5, RY, H8, HB7⟩
        case measure => simp [intOf]; have := HK.out; omega
      have c2 : (v == 2) = false := by simp; exact h2
      by_cases h3 : v = 3
      · subst h3
        have hy := H4.out.y
        go_wp2_with (refine wpList_load_row rfl 26 (.tmp 9) rfl gq8 rfl 26 cy (0, 0) _ hy Try.underlying26 rfl iY ?_)
        clear hy
        with_reducible refine (C.square RY.out _).mono ?_
        rintro e v5 ⟨c5, rfl, r5, hb5⟩
        obtain ⟨n5, hn5⟩ : ∃ n, (y * y) % PP = n := ⟨_, rfl⟩
        rw [hn5] at r5
        have R5 := Lib.hid r5
        have H5 := H4.out.below hb5
        have hs5 := H5.y
        have i5 := C.base.info R5.out
        have o5 := C.base.one R5.out
        have z5 := C.base.size RY.out R5.out
        have B5 := below_row (cs := c5) (below_next HB.out hb5) HGs.out.2.1
        have H6 := H5.setY HD.out c5
        have hq := H6.q
        have HB5 := Lib.hid B5
        have H6h := Lib.hid H6
        have HN5 := Lib.hid hn5
        clear r5 hb5 hn5 H5 B5 H6 H4
        go_wp2_with (first | (refine wpList_store_row rfl 26 (.tmp 9) (.tmp 73) rfl gq8 c5 rfl rfl 26 cy hs5 i5 z5 o5 ?_) | (refine wpList_load_row rfl 29 (.tmp 11) rfl gq14 rfl 29 (refT y) (0, 0) _ hq Try.underlying29 rfl (refT_info _) ?_))
        have k5 := fun W : World => rmulN HLY.out HLY.out W
        rw [HN5.out] at k5
        with_reducible refine (k5 _).mono ?_
        rintro e v6 ⟨rfl, hb6⟩
        have H7 := H6h.out.below hb6
        have hs6 := H7.q
        have z6 := refT_size y n5
        have HB7 := Lib.hid (below_row (cs := refT n5) (below_next HB5.out hb6) HGs.out.2.2.2)
        have H8 := Lib.hid (H7.setQ HD.out (refT n5))
        clear hb6 H7 k5 hs5 hq
        go_wp2_with (refine wpList_store_row rfl 29 (.tmp 11) (.tmp 76) rfl gq14 (refT n5) rfl rfl 29 (refT y) hs6 (refT_info _) z6 (refT_one _) ?_)
        go_roundw
        case rel => exact ⟨k + 1, cx, c5, x, n5, by have := HK.out; omega, by go_num, RX, R5, H8, HB7⟩
        case measure => simp [intOf]; have := HK.out; omega
      have c3 : (v == 3) = false := by simp; exact h3
      by_cases h4 : v = 4
      · subst h4
        have hx := H4.out.x
        go_wp2_with (refine wpList_load_row rfl 26 (.tmp 8) rfl gq4 rfl 26 cx (0, 0) _ hx Try.underlying26 rfl iX ?_)
        clear hx
        with_reducible refine (C.neg RX.out _).mono ?_
        rintro e v5 ⟨c5, rfl, r5, hb5⟩
        obtain ⟨n5, hn5⟩ : ∃ n, (PP - x) % PP = n := ⟨_, rfl⟩
        rw [hn5] at r5
        have R5 := Lib.hid r5
        have H5 := H4.out.below hb5
        have hs5 := H5.x
        have i5 := C.base.info R5.out
        have o5 := C.base.one R5.out
        have z5 := C.base.size RX.out R5.out
        have B5 := below_row (cs := c5) (below_next HB.out hb5) HGs.out.1
        have H6 := H5.setX HD.out c5
        have hp := H6.p
        have HB5 := Lib.hid B5
        have H6h := Lib.hid H6
        have HN5 := Lib.hid hn5
        clear r5 hb5 hn5 H5 B5 H6 H4
        go_wp2_with (first | (refine wpList_store_row rfl 26 (.tmp 8) (.tmp 80) rfl gq4 c5 rfl rfl 26 cx hs5 i5 z5 o5 ?_) | (refine wpList_load_row rfl 29 (.tmp 10) rfl gq11 rfl 29 (refT x) (0, 0) _ hp Try.underlying29 rfl (refT_info _) ?_))
        have k5 := fun W : World => rnegN HLX.out W
        rw [HN5.out] at k5
        with_reducible refine (k5 _).mono ?_
        rintro e v6 ⟨rfl, hb6⟩
        have H7 := H6h.out.below hb6
        have hs6 := H7.p
        have z6 := refT_size x n5
        have HB7 := Lib.hid (below_row (cs := refT n5) (below_next HB5.out hb6) HGs.out.2.2.1)
        have H8 := Lib.hid (H7.setP HD.out (refT n5))
        clear hb6 H7 k5 hs5 hp
        go_wp2_with (refine wpList_store_row rfl 29 (.tmp 10) (.tmp 82) rfl gq11 (refT n5) rfl rfl 29 (refT x) hs6 (refT_info _) z6 (refT_one _) ?_)
        go_roundw
        case rel => exact ⟨k + 1, c5, cy, n5, y, by have := HK.out; omega, by go_num, R5, RY, H8, HB7⟩
        case measure => simp [intOf]; have := HK.out; omega
      have c4 : (v == 4) = false := by simp; exact h4
      by_cases h5 : v = 5
      · subst h5
        have hx := H4.out.x
        have hy := H4.out.y
        go_wp2_with (first | (refine wpList_load_row rfl 26 (.tmp 8) rfl gq4 rfl 26 cx (0, 0) _ hx Try.underlying26 rfl iX ?_) | (refine wpList_load_row rfl 26 (.tmp 9) rfl gq8 rfl 26 cy (0, 0) _ hy Try.underlying26 rfl iY ?_))
        clear hx hy
        with_reducible refine (C.add RY.out RX.out _).mono ?_
        rintro e v5 ⟨c5, rfl, r5, hb5⟩
        obtain ⟨n5, hn5⟩ : ∃ n, (y + x) % PP = n := ⟨_, rfl⟩
        rw [hn5] at r5
        have R5 := Lib.hid r5
        have H5 := H4.out.below hb5
        have hs5 := H5.y
        have i5 := C.base.info R5.out
        have o5 := C.base.one R5.out
        have z5 := C.base.size RY.out R5.out
        have B5 := below_row (cs := c5) (below_next HB.out hb5) HGs.out.2.1
        have H6 := H5.setY HD.out c5
        have hp := H6.p
        have hq := H6.q
        have HB5 := Lib.hid B5
        have H6h := Lib.hid H6
        have HN5 := Lib.hid hn5
        clear r5 hb5 hn5 H5 B5 H6 H4
        go_wp2_with (first | (refine wpList_store_row rfl 26 (.tmp 9) (.tmp 87) rfl gq8 c5 rfl rfl 26 cy hs5 i5 z5 o5 ?_) | (refine wpList_load_row rfl 29 (.tmp 10) rfl gq11 rfl 29 (refT x) (0, 0) _ hp Try.underlying29 rfl (refT_info _) ?_) | (refine wpList_load_row rfl 29 (.tmp 11) rfl gq14 rfl 29 (refT y) (0, 0) _ hq Try.underlying29 rfl (refT_info _) ?_))
        have k5 := fun W : World => raddN HLY.out HLX.out W
        rw [HN5.out] at k5
        with_reducible refine (k5 _).mono ?_
        rintro e v6 ⟨rfl, hb6⟩
        have H7 := H6h.out.below hb6
        have hs6 := H7.q
        have z6 := refT_size y n5
        have HB7 := Lib.hid (below_row (cs := refT n5) (below_next HB5.out hb6) HGs.out.2.2.2)
        have H8 := Lib.hid (H7.setQ HD.out (refT n5))
        clear hb6 H7 k5 hs5 hp hq
        go_wp2_with (refine wpList_store_row rfl 29 (.tmp 11) (.tmp 90) rfl gq14 (refT n5) rfl rfl 29 (refT y) hs6 (refT_info _) z6 (refT_one _) ?_)
        go_roundw
        case rel => exact ⟨k + 1, cx, c5, x, n5, by have := HK.out; omega, by go_num, RX, R5, H8, HB7⟩
        case measure => simp [intOf]; have := HK.out; omega
      have c5 : (v == 5) = false := by simp; exact h5
      by_cases h6 : v = 6
      · subst h6
        have hx := H4.out.x
        go_wp2_with (refine wpList_load_row rfl 26 (.tmp 8) rfl gq4 rfl 26 cx (0, 0) _ hx Try.underlying26 rfl iX ?_)
        clear hx
        with_reducible refine (C.add RX.out RX.out _).mono ?_
        rintro e v5 ⟨c5, rfl, r5, hb5⟩
        obtain ⟨n5, hn5⟩ : ∃ n, (x + x) % PP = n := ⟨_, rfl⟩
        rw [hn5] at r5
        have R5 := Lib.hid r5
        have H5 := H4.out.below hb5
        have hs5 := H5.x
        have i5 := C.base.info R5.out
        have o5 := C.base.one R5.out
        have z5 := C.base.size RX.out R5.out
        have B5 := below_row (cs := c5) (below_next HB.out hb5) HGs.out.1
        have H6 := H5.setX HD.out c5
        have hp := H6.p
        have HB5 := Lib.hid B5
        have H6h := Lib.hid H6
        have HN5 := Lib.hid hn5
        clear r5 hb5 hn5 H5 B5 H6 H4
        go_wp2_with (first | (refine wpList_store_row rfl 26 (.tmp 8) (.tmp 95) rfl gq4 c5 rfl rfl 26 cx hs5 i5 z5 o5 ?_) | (refine wpList_load_row rfl 29 (.tmp 10) rfl gq11 rfl 29 (refT x) (0, 0) _ hp Try.underlying29 rfl (refT_info _) ?_))
        have k5 := fun W : World => raddN HLX.out HLX.out W
        rw [HN5.out] at k5
        with_reducible refine (k5 _).mono ?_
        rintro e v6 ⟨rfl, hb6⟩
        have H7 := H6h.out.below hb6
        have hs6 := H7.p
        have z6 := refT_size x n5
        have HB7 := Lib.hid (below_row (cs := refT n5) (below_next HB5.out hb6) HGs.out.2.2.1)
        have H8 := Lib.hid (H7.setP HD.out (refT n5))
        clear hb6 H7 k5 hs5 hp
        go_wp2_with (refine wpList_store_row rfl 29 (.tmp 10) (.tmp 98) rfl gq11 (refT n5) rfl rfl 29 (refT x) hs6 (refT_info _) z6 (refT_one _) ?_)
        go_roundw
        case rel => exact ⟨k + 1, c5, cy, n5, y, by have := HK.out; omega, by go_num, R5, RY, H8, HB7⟩
        case measure => simp [intOf]; have := HK.out; omega
      have c6 : (v == 6) = false := by simp; exact h6
      clear h0 h1 h2 h3 h4 h5 h6
      have hx := H4.out.x
      have hy := H4.out.y
      go_wp2_with (first | (refine wpList_load_row rfl 26 (.tmp 8) rfl gq4 rfl 26 cx (0, 0) _ hx Try.underlying26 rfl iX ?_) | (refine wpList_load_row rfl 26 (.tmp 9) rfl gq8 rfl 26 cy (0, 0) _ hy Try.underlying26 rfl iY ?_))
      clear hx hy
      with_reducible refine (C.sub RY.out RX.out _).mono ?_
      rintro e v5 ⟨c5, rfl, r5, hb5⟩
      obtain ⟨n5, hn5⟩ : ∃ n, (y + (PP - x)) % PP = n := ⟨_, rfl⟩
      rw [hn5] at r5
      have R5 := Lib.hid r5
      have H5 := H4.out.below hb5
      have hs5 := H5.y
      have i5 := C.base.info R5.out
      have o5 := C.base.one R5.out
      have z5 := C.base.size RY.out R5.out
      have B5 := below_row (cs := c5) (below_next HB.out hb5) HGs.out.2.1
      have H6 := H5.setY HD.out c5
      have hp := H6.p
      have hq := H6.q
      have HB5 := Lib.hid B5
      have H6h := Lib.hid H6
      have HN5 := Lib.hid hn5
      clear r5 hb5 hn5 H5 B5 H6 H4
      go_wp2_with (first | (refine wpList_store_row rfl 26 (.tmp 9) (.tmp 42) rfl gq8 c5 rfl rfl 26 cy hs5 i5 z5 o5 ?_) | (refine wpList_load_row rfl 29 (.tmp 10) rfl gq11 rfl 29 (refT x) (0, 0) _ hp Try.underlying29 rfl (refT_info _) ?_) | (refine wpList_load_row rfl 29 (.tmp 11) rfl gq14 rfl 29 (refT y) (0, 0) _ hq Try.underlying29 rfl (refT_info _) ?_))
      have k5 := fun W : World => rsubN HLY.out HLX.out W
      rw [HN5.out] at k5
      with_reducible refine (k5 _).mono ?_
      rintro e v6 ⟨rfl, hb6⟩
      have H7 := H6h.out.below hb6
      have hs6 := H7.q
      have z6 := refT_size y n5
      have HB7 := Lib.hid (below_row (cs := refT n5) (below_next HB5.out hb6) HGs.out.2.2.2)
      have H8 := Lib.hid (H7.setQ HD.out (refT n5))
      clear hb6 H7 k5 hs5 hp hq
      go_wp2_with (refine wpList_store_row rfl 29 (.tmp 11) (.tmp 45) rfl gq14 (refT n5) rfl rfl 29 (refT y) hs6 (refT_info _) z6 (refT_one _) ?_)
      go_roundw
      case rel => exact ⟨k + 1, cx, c5, x, n5, by have := HK.out; omega, by go_num, RX, R5, H8, HB7⟩
      case measure => simp [intOf]; have := HK.out; omega
    · obtain rfl : k = N := by omega
      have hlt2 : ¬ (k : Int) < (k : Int) := by omega
      have HR5 : Hid (RowsW wr [(gq14, refT y, 29), (gq11, refT x, 29), (gq8, cy, 26), (gq4, cx, 26)]) := Lib.hid ⟨H4.out.q, H4.out.p, H4.out.y, H4.out.x, trivial⟩
      clear hlt hk
      go_upto_region 35 with fail
      refine wp_region_noPanic ?_
      refine wp_region_held_drew (S := fun W => Below wr.heap.size wr W) (by kernel_rfl) (by exact (Below.refl _ _).drew) (fun hS => ?_)
      refine' take_at 0 rfl (by kernel_rfl) (by kernel_rfl) (by kernel_rfl) (fun _ _ _ h => h) (by rfl) hS ?_ ?_ ?_
      rotate_left 2
      · intro W hSW; exact run_loadR rfl rfl (HR5.out.below hSW).tail.tail.tail.head Try.underlying26 rfl (C.base.info RX.out)
      · simp only [List.set_cons_succ, List.set_cons_zero]; rfl
      refine' take_at 2 rfl (by kernel_rfl) (by kernel_rfl) (by kernel_rfl) (fun _ _ _ h => h) (by rfl) hS ?_ ?_ ?_
      rotate_left 2
      · intro W hSW; exact run_loadR rfl rfl (HR5.out.below hSW).tail.head Try.underlying29 rfl (refT_info _)
      · simp only [List.set_cons_succ, List.set_cons_zero]; rfl
      refine call_at 1 rfl (by kernel_rfl) (by rfl) (fun K hK => ?_)
      go_simp
      with_reducible refine ((C.bytes RX.out) _).mono ?_
      rintro e vq15 ⟨rfl, hbq15⟩
      have kbq15 := below_next hS hbq15
      clear hS hbq15
      refine hK.out _ _ (by exact kbq15) (fun hS => ?_)
      clear hK K
      refine call_at 3 rfl (by kernel_rfl) (by rfl) (fun K hK => ?_)
      go_simp
      with_reducible refine ((rbytesN x) _).mono ?_
      rintro e vq16 ⟨rfl, hbq16⟩
      have kbq16 := below_next kbq15 hbq16
      clear hS hbq16
      refine hK.out _ _ (by exact kbq16) (fun hS => ?_)
      clear hK K
      refine' take_at 4 rfl (by kernel_rfl) (by kernel_rfl) (by kernel_rfl) (fun _ _ _ h => h) (by rfl) hS ?_ ?_ ?_
      rotate_left 2
      · intro W hSW; exact run_eql2 rfl rfl rfl guardB (eqBytT x W)
      · simp only [List.set_cons_succ, List.set_cons_zero]; rfl
      refine' take_at 5 rfl (by kernel_rfl) (by kernel_rfl) (by kernel_rfl) (fun _ _ _ h => h) (by rfl) hS ?_ ?_ ?_
      rotate_left 2
      · intro W hSW; go_simp; try with_reducible rfl
      · simp only [List.set_cons_succ, List.set_cons_zero]; rfl
      refine' take_at 6 rfl (by kernel_rfl) (by kernel_rfl) (by kernel_rfl) (fun _ _ _ h => h) (by rfl) hS ?_ ?_ ?_
      rotate_left 2
      · intro W hSW; exact run_loadR rfl rfl (HR5.out.below hSW).tail.tail.head Try.underlying26 rfl (C.base.info RY.out)
      · simp only [List.set_cons_succ, List.set_cons_zero]; rfl
      refine' take_at 8 rfl (by kernel_rfl) (by kernel_rfl) (by kernel_rfl) (fun _ _ _ h => h) (by rfl) hS ?_ ?_ ?_
      rotate_left 2
      · intro W hSW; exact run_loadR rfl rfl (HR5.out.below hSW).head Try.underlying29 rfl (refT_info _)
      · simp only [List.set_cons_succ, List.set_cons_zero]; rfl
      refine call_at 7 rfl (by kernel_rfl) (by rfl) (fun K hK => ?_)
      go_simp
      with_reducible refine ((C.bytes RY.out) _).mono ?_
      rintro e vq17 ⟨rfl, hbq17⟩
      have kbq17 := below_next kbq16 hbq17
      clear hS hbq17
      refine hK.out _ _ (by exact kbq17) (fun hS => ?_)
      clear hK K
      refine call_at 9 rfl (by kernel_rfl) (by rfl) (fun K hK => ?_)
      go_simp
      with_reducible refine ((rbytesN y) _).mono ?_
      rintro e vq18 ⟨rfl, hbq18⟩
      have kbq18 := below_next kbq17 hbq18
      clear hS hbq18
      refine hK.out _ _ (by exact kbq18) (fun hS => ?_)
      clear hK K
      refine' take_at 10 rfl (by kernel_rfl) (by kernel_rfl) (by kernel_rfl) (fun _ _ _ h => h) (by rfl) hS ?_ ?_ ?_
      rotate_left 2
      · intro W hSW; exact run_eql2 rfl rfl rfl guardB (eqBytT y W)
      · simp only [List.set_cons_succ, List.set_cons_zero]; rfl
      refine' take_at 11 rfl (by kernel_rfl) (by kernel_rfl) (by kernel_rfl) (fun _ _ _ h => h) (by rfl) hS ?_ ?_ ?_
      rotate_left 2
      · intro W hSW; go_simp; try with_reducible rfl
      · simp only [List.set_cons_succ, List.set_cons_zero]; rfl
      refine' take_at 12 rfl (by kernel_rfl) (by kernel_rfl) (by kernel_rfl) (fun _ _ _ h => h) (by rfl) hS ?_ ?_ ?_
      rotate_left 2
      · intro W hSW; go_simp; try with_reducible rfl
      · simp only [List.set_cons_succ, List.set_cons_zero]; rfl
      refine wpAnyH_done (by kernel_rfl) ?_ _
      refine NoPanic.normal ?_
      clear hS
      (try simp only [Act.put])
      have HRq19 := Lib.hid (HR5.out.below kbq18)
      have HBq19 := Lib.hid (below_next HB.out kbq18)
      go_wp2_with fail
      go_ret
      exact ⟨rfl, HBq19.out⟩
end Go.Proofs.Ytlhnjdnkjgnooaa

