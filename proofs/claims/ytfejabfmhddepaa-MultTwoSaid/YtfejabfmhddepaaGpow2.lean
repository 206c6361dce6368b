/- What the landed package powers calls of package fe; its loops: squared, Pow. The landed package powers: ones, eighth, rootOfMinusOne, Invert, Sqrt, Ratio. Written by wip/tools/mk_powers10.py. The landed package powers, whole. -/
import Derived.Test.YtfejabfmhddepaaGpw
import Derived.Test.YtfejabfmhddepaaGpow
import Derived.Test.YtfejabfmhddepaaLaw9Spec
import Derived.Test.YtfejabfmhddepaaGheld
import Derived.Test.YtfejabfmhddepaaLaw10Spec
import Derived.Test.YtfejabfmhddepaaGfe3
namespace Go.Proofs.Ytfejabfmhddepaa
open Go.RowKit
set_option linter.unusedVariables false
set_option maxRecDepth 100000

/-- what package powers calls of package fe -/
structure FePC (R : Array Value → Nat → Prop) : Prop where
  base : FeB R
  from_ : FeFromC R
  small : FeSmallC R
  mul : FeMulC R
  square : FeSquareC R
  neg : FeNegC R
  equal : FeEqualC R
  odd : FeOddC R

set_option maxHeartbeats 1600000 in
theorem psquared_any {R : Array Value → Nat → Prop} (C : FePC R) {c : Array Value} {x : Nat} (hx : R c x) (n : Nat) (hn : n < 9223372036854775808) (w : World) :
    Calls Try.prog 73 #[.agg c, .int .i64 (n : Int)] w (RetFe R w (pwN x (2 ^ n))) := by
  obtain ⟨Z, hZ, RZ⟩ := C.base.zero
  have HR0 := Lib.hid (((RowsW.nil w).box c 26).box Z 26)
  have HB0 := Lib.hid (below_box (below_box (Below.refl w.heap.size w) c 26) Z 26)
  rw [World.size_alloc] at HR0
  have HX0 : Hid (R c (pwN x (2 ^ 0))) := Lib.hid (by rw [Nat.pow_zero, pwN_oneE (C.base.lt hx)]; exact hx)
  have HC := Lib.hid C
  clear C hx
  go_enter Try.func73, Try.ntmps73
  go_wp2_with fail
  obtain ⟨W0, hW0⟩ : ∃ W, (w.alloc (.cells c 26)).alloc (.cells Z 26) = W := ⟨_, rfl⟩
  obtain ⟨g, hg⟩ : ∃ g, w.heap.size = g := ⟨_, rfl⟩
  rw [hW0] at HR0 HB0
  rw [hg] at HR0
  rw [hW0, hg]
  have HG := Lib.hid hg
  clear hW0 hg
  go_loopw [6] (fun i wr => ∃ k : Nat, k ≤ n ∧ i = .int .i64 (k : Int) ∧ ∃ d, Hid (R d (pwN x (2 ^ k))) ∧ Hid (RowsW wr [(g + 1, Z, 26), (g, d, 26)]) ∧ Hid (Below w.heap.size w wr)) (fun i _ => n - (intOf i).toNat)
  case atStart => exact ⟨0, by omega, rfl, c, HX0, HR0, HB0⟩
  case round =>
    clear HR0 HB0 HX0
    obtain ⟨k, hk, rfl, d, HD, HR1, HB1⟩ := hrel
    by_cases hlt : k < n
    · have dk : decide ((k : Int) < (n : Int)) = true := decide_eq_true (by omega)
      have l1 := HR1.out.tail.head
      have i1 := HC.out.base.info HD.out
      have HM := Lib.hid fun W => HC.out.square HD.out W
      have HN := Lib.hid (pow2_next x k)
      go_wp2_with (refine wpList_load_row rfl 26 (.tmp 2) rfl g rfl 26 d (0, 0) _ l1 Try.underlying26 rfl i1 ?_)
      with_reducible refine (HM.out _).mono ?_
      rintro e v3 ⟨c3, rfl, r3, hb3⟩
      rw [HN.out] at r3
      have R3 := Lib.hid r3
      have r4 := HR1.out.below hb3
      have l4 := r4.tail.head
      have hne : ∀ r ∈ [((g + 1, Z, 26) : RowT)], r.1 ≠ g := by intro r hr; simp only [List.mem_cons, List.not_mem_nil, or_false] at hr; subst hr; simp
      have i3 := HC.out.base.info r3
      have o3 := HC.out.base.one r3
      have s3 := HC.out.base.size HD.out r3
      have HR4 : Hid (RowsW (v3.setRow g c3) [(g + 1, Z, 26), (g, c3, 26)]) := Lib.hid ⟨by rw [setRow_other _ _ _ _ (by omega)]; exact r4.head, setRow_heap _ _ _ _ _ _ l4, trivial⟩
      have HB4 := Lib.hid (below_row (g := g) (cs := c3) (below_next HB1.out hb3) (by rw [HG.out]; omega))
      clear hb3 r3 r4 l1 HM HR1 HB1 HN HD hne
      go_wp2_with (refine wpList_store_row rfl 26 (.tmp 2) (.tmp 9) rfl g c3 rfl rfl 26 d l4 i3 s3 o3 ?_)
      go_roundw
      case rel => exact ⟨k + 1, by omega, by go_num, c3, R3, HR4, HB4⟩
      case measure => simp [intOf] <;> omega
    · have hkn : k = n := by omega
      have dk : decide ((k : Int) < (n : Int)) = false := decide_eq_false (by omega)
      rw [hkn] at HD
      have i1 := HC.out.base.info HD.out
      have o1 := HC.out.base.one HD.out
      have s1 := HC.out.base.size RZ HD.out
      have l1 := HR1.out.tail.head
      have l2 := HR1.out.head
      have HB := Lib.hid (show Below w.heap.size w (wr.setRow (g + 1) d) from below_row HB1.out (by rw [HG.out]; omega))
      clear HR1 HB1 hlt
      go_wp2_with (first
        | (refine wpList_load_row rfl 26 (.tmp 2) rfl g rfl 26 d (0, 0) _ l1 Try.underlying26 rfl i1 ?_)
        | (refine wpList_store_row rfl 26 (.tmp 4) (.tmp 11) rfl (g + 1) d rfl rfl 26 Z l2 i1 s1 o1 ?_))
      (try simp only [Exit.inBlock, Exit.then])
      refine bodyPost_ret (results_cell_row rfl _ _ (g + 1) _ d _ _ rfl (setRow_heap _ _ _ _ _ _ l2) Try.underlying26 rfl i1) rfl ?_
      exact ⟨d, rfl, HD.out, HB.out⟩

end Go.Proofs.Ytfejabfmhddepaa

namespace Go.Proofs.Ytfejabfmhddepaa
open Go.RowKit
set_option linter.unusedVariables false
set_option maxRecDepth 100000

theorem build_zero {Z : Array Value} {ρ : Operand → Value} {dst : Option Nat} {ty : TypeId} {pos : String} {after : Array Edge} {gd : Option (Nat × Bool)} {w : World} (hZ : ∀ u, (zeroValue 26).run Try.prog u = .ok (.agg Z) u) :
    (execOp ρ ⟨dst, .build 26 #[], ty, pos, after, gd⟩).run Try.prog w = .ok (.value (.agg Z)) w := by
  unfold execOp
  simp [hZ, go_sem, Instr.build, Instr.fill]
set_option maxHeartbeats 3200000 in
theorem pones_any {R : Array Value → Nat → Prop} (C : FePC R) {c : Array Value} {x : Nat} (hx0 : R c x) (n : Nat) (h1 : 1 ≤ n) (h2 : n < 9223372036854775808) : ∀ w : World, Calls Try.prog 89 #[.agg c, .int .i64 (n : Int)] w (RetFe R w (pwN x (2 ^ n - 1))) := by
  induction n using Nat.strongRecOn with
  | _ n ih0 =>
  have ih : ∀ m, m < n → 1 ≤ m → ∀ W : World, Calls Try.prog 89 #[.agg c, .int .i64 (m : Int)] W (RetFe R W (pwN x (2 ^ m - 1))) := fun m hm h => ih0 m hm h (by omega)
  clear ih0
  intro w
  have hx := hx0
  clear hx0
  obtain ⟨Z, hZ, rZ⟩ := C.base.zero
  have RZZ := Lib.hid rZ
  clear rZ
  have Rc := Lib.hid hx
  have HXL : Hid (x < PP) := Lib.hid (C.base.lt hx)
  clear hx
  have HR0 := Lib.hid (((RowsW.nil w).box c 26).box Z 26)
  have HB0 := Lib.hid (below_box (below_box (Below.refl w.heap.size w) c 26) Z 26)
  rw [World.size_alloc] at HR0
  go_enter Try.func89, Try.ntmps89
  go_upto_region 1 with fail
  obtain ⟨W0, hW0⟩ : ∃ W, ((w.alloc (.cells c 26)).alloc (.cells Z 26)) = W := ⟨_, rfl⟩
  obtain ⟨g0, hg0⟩ : ∃ g, w.heap.size = g := ⟨_, rfl⟩
  rw [hW0] at HR0 HB0
  rw [hg0] at HR0
  rw [hW0, hg0]
  have HG0 := Lib.hid hg0
  clear hW0 hg0
  by_cases h1 : n = 1
  · have d1 : ((n : Int) == 1) = true := by rw [beq_iff_eq]; omega
    have HX1 : Hid (pwN x (2 ^ n - 1) = x) := Lib.hid (by rw [h1]; exact pwN_oneE HXL.out)
    clear h1
    go_upto_region 2 with fail
    have lx := HR0.out.tail.head
    have lsq1 := HR0.out.head
    have HRq1 : Hid (RowsW (W0.setRow (g0 + 1) c) [((g0 + 1), c, 26), (g0, c, 26)]) := Lib.hid ⟨setRow_heap _ _ _ _ _ _ lsq1, (by rw [setRow_other _ _ _ _ (by omega)]; exact HR0.out.tail.head), trivial⟩
    have HBq1 := Lib.hid (below_row (g := (g0 + 1)) (cs := c) HB0.out (by have := HG0.out; omega))
    go_wp2_with (first
        | (refine wpList_load_row rfl 26 (.tmp 2) rfl g0 rfl 26 c (0, 0) _ lx Try.underlying26 rfl (C.base.info Rc.out) ?_)
        | (refine wpList_store_row rfl 26 (.tmp 4) (.tmp 9) rfl (g0 + 1) c rfl rfl 26 Z lsq1 (C.base.info Rc.out) (C.base.size RZZ.out Rc.out) (C.base.one Rc.out) ?_))
    obtain ⟨Wq1, hWq1⟩ : ∃ W, W0.setRow (g0 + 1) c = W := ⟨_, rfl⟩
    rw [hWq1] at HRq1 HBq1
    (try rw [hWq1])
    clear hWq1 lsq1
    (try simp only [Exit.inBlock, Exit.then])
    refine bodyPost_ret (results_cell_row rfl _ _ (g0 + 1) _ c _ _ rfl HRq1.out.head Try.underlying26 rfl (C.base.info Rc.out)) rfl ?_
    exact ⟨_, rfl, by rw [HX1.out]; exact Rc.out, HBq1.out⟩
  · have d1 : ((n : Int) == 1) = false := by rw [beq_eq_false_iff_ne]; omega
    obtain ⟨m, hm⟩ : ∃ m, n / 2 = m := ⟨_, rfl⟩
    have hm1 : 1 ≤ m := by omega
    have hm2 : m < n := by omega
    have Hm : Hid (m < 9223372036854775808) := Lib.hid (by omega)
    have q1 : (n : Int).tdiv 2 = (m : Int) := by rw [Int.tdiv_eq_ediv_of_nonneg (by omega)]; omega
    have q2 : (n : Int) / 2 = (m : Int) := by omega
    have IH : Hid (∀ W : World, Calls Try.prog 89 #[.agg c, .int .i64 (m : Int)] W (RetFe R W (pwN x (2 ^ m - 1)))) := Lib.hid (ih m hm2 hm1)
    clear ih
    have SQM : Hid (∀ (d : Array Value) (y : Nat), R d y → ∀ W : World, Calls Try.prog 73 #[.agg d, .int .i64 (IntKind.i64.wrap (m : Int))] W (RetFe R W (pwN y (2 ^ m)))) := Lib.hid fun d y h W => by rw [show IntKind.i64.wrap (m : Int) = (m : Int) by rw [IntKind.wrap_i64]; have := Hm.out; omega]; exact psquared_any C h m Hm.out W
    go_upto_region 3 with fail
    have l2 := HR0.out.tail.head
    go_wp2_with (refine wpList_load_row rfl 26 (.tmp 2) rfl g0 rfl 26 c (0, 0) _ l2 Try.underlying26 rfl (C.base.info Rc.out) ?_)
    obtain ⟨n3, hn3⟩ : ∃ y : Nat, pwN x (2 ^ m - 1) = y := ⟨_, rfl⟩
    have Hn3 := Lib.hid hn3
    have HLn3 : Hid (n3 < PP) := Lib.hid (by rw [← hn3]; exact pwN_lt _ _)
    clear hn3
    with_reducible refine ((fun W => IH.out W) _).mono ?_
    rintro e vq4 ⟨cq4, rfl, rq4, hbq4⟩
    rw [Hn3.out] at rq4
    have Rq4 := Lib.hid rq4
    clear rq4
    have HRq4 := Lib.hid (HR0.out.below hbq4)
    have HBq4 := Lib.hid (below_next HB0.out hbq4)
    clear hbq4
    have h0q5 : (vq4.alloc (.cells Z 26)).heap[vq4.heap.size]? = some (.cells Z 26 (0, 0)) := heap_alloc_new _ _
    have HRq5 := Lib.hid (HRq4.out.new Z cq4 26)
    have HBq5 := Lib.hid (below_new HBq4.out Z cq4 26)
    have HNq5 := Lib.hid HRq4.out.ne
    have HGq5 := Lib.hid HBq4.out.size
    go_upto_region 4 with (refine wpList_store_row rfl 26 (.tmp 5) (.tmp 13) rfl vq4.heap.size cq4 rfl rfl 26 Z h0q5 (C.base.info Rq4.out) (C.base.size RZZ.out Rq4.out) (C.base.one Rq4.out) ?_)
    obtain ⟨Wq5, hWq5⟩ : ∃ W, (vq4.alloc (.cells Z 26)).setRow vq4.heap.size cq4 = W := ⟨_, rfl⟩
    obtain ⟨gq5, hgq5⟩ : ∃ g, vq4.heap.size = g := ⟨_, rfl⟩
    rw [hWq5, hgq5] at HRq5
    rw [hWq5] at HBq5
    rw [hgq5] at HNq5 HGq5
    rw [hWq5, hgq5]
    clear hWq5 hgq5 h0q5
    have NEq5_0 : Hid (g0 ≠ gq5) := Lib.hid (HNq5.out (g0, c, 26) (by simp))
    have NEq5_1 : Hid ((g0 + 1) ≠ gq5) := Lib.hid (HNq5.out ((g0 + 1), Z, 26) (by simp))
    refine wp_region_noPanic ?_
    refine wp_region_heldB 6 6 26 Z (by kernel_rfl) (by kernel_rfl) ⟨by kernel_rfl, by kernel_rfl, hZ, fun _ _ _ h => h⟩ (fun hA hS => ?_)
    refine' take_atB 0 hA rfl (by kernel_rfl) (by kernel_rfl) (by kernel_rfl) (by kernel_rfl) (by kernel_rfl) (by rfl) (by rfl) hS ?_ ?_ ?_
    rotate_left 2
    · intro W hSW; exact run_loadR rfl rfl (HRq5.out.below hSW).head Try.underlying26 rfl (C.base.info Rq4.out)
    · simp only [List.set_cons_succ, List.set_cons_zero]; rfl
    refine' take_atB 1 hA rfl (by kernel_rfl) (by kernel_rfl) (by kernel_rfl) (by kernel_rfl) (by kernel_rfl) (by rfl) (by rfl) hS ?_ ?_ ?_
    rotate_left 2
    · intro W hSW; go_simp; try with_reducible rfl
    · simp only [List.set_cons_succ, List.set_cons_zero]; rfl
    refine' take_atB 2 hA rfl (by kernel_rfl) (by kernel_rfl) (by kernel_rfl) (by kernel_rfl) (by kernel_rfl) (by rfl) (by rfl) hS ?_ ?_ ?_
    rotate_left 2
    · intro W hSW; go_simp; try with_reducible rfl
    · simp only [List.set_cons_succ, List.set_cons_zero]; rfl
    refine' take_atB 4 hA rfl (by kernel_rfl) (by kernel_rfl) (by kernel_rfl) (by kernel_rfl) (by kernel_rfl) (by rfl) (by rfl) hS ?_ ?_ ?_
    rotate_left 2
    · intro W hSW; exact run_loadR rfl rfl (HRq5.out.below hSW).head Try.underlying26 rfl (C.base.info Rq4.out)
    · simp only [List.set_cons_succ, List.set_cons_zero]; rfl
    refine call_atB 3 hA rfl (by kernel_rfl) (by kernel_rfl) (by kernel_rfl) (by kernel_rfl) (by rfl) (by rfl) hS (fun oq7 Xq7 hS K hK => ?_)
    go_simp
    obtain ⟨n6, hn6⟩ : ∃ y : Nat, pwN n3 (2 ^ m) = y := ⟨_, rfl⟩
    have Hn6 := Lib.hid hn6
    have HLn6 : Hid (n6 < PP) := Lib.hid (by rw [← hn6]; exact pwN_lt _ _)
    clear hn6
    with_reducible refine ((SQM.out _ _ Rq4.out) _).mono ?_
    rintro e vq7 ⟨cq7, rfl, rq7, hbq7⟩
    rw [Hn6.out] at rq7
    have Rq7 := Lib.hid rq7
    clear rq7
    refine hK.out _ _ hbq7 (fun hS => ?_)
    clear hK K hbq7
    refine call_atB 5 hA rfl (by kernel_rfl) (by kernel_rfl) (by kernel_rfl) (by kernel_rfl) (by rfl) (by rfl) hS (fun oq9 Xq9 hS K hK => ?_)
    go_simp
    obtain ⟨n8, hn8⟩ : ∃ x_ : Nat, (n6 * n3) % PP = x_ := ⟨_, rfl⟩
    have Hn8 := Lib.hid hn8
    have HLn8 : Hid (n8 < PP) := Lib.hid (by rw [← hn8]; exact Nat.mod_lt _ (by decide))
    clear hn8
    with_reducible refine ((C.mul Rq7.out Rq4.out) _).mono ?_
    rintro e vq9 ⟨cq9, rfl, rq9, hbq9⟩
    rw [Hn8.out] at rq9
    have Rq9 := Lib.hid rq9
    clear rq9
    refine hK.out _ _ hbq9 (fun hS => ?_)
    clear hK K hbq9
    refine' store_atB 7 hA rfl (by kernel_rfl) (by kernel_rfl) (by kernel_rfl) hS (by kernel_rfl) rfl (by intro h; cases h) (C.base.info Rq9.out) (C.base.size RZZ.out Rq9.out) (C.base.one Rq9.out) ?_ ?_
    rotate_left 1
    · intro g; simp only [List.set_cons_succ, List.set_cons_zero]; rfl
    intro gq10 Wq10 hgq10 hbq10 hrowq10
    clear hA hS
    refine wpAnyH_done (by kernel_rfl) ?_ _
    refine NoPanic.normal ?_
    (try simp only [Act.put])
    have HRq10 : Hid (RowsW Wq10 [(gq10, cq9, 26), (gq5, cq4, 26), ((g0 + 1), Z, 26), (g0, c, 26)]) := Lib.hid ⟨hrowq10, HRq5.out.below hbq10⟩
    have HBq10 := Lib.hid (below_next HBq5.out hbq10)
    have NEq10_0 : Hid (g0 ≠ gq10) := Lib.hid (by have h := HRq5.out.lt (g0, c, 26) (by simp); have := hgq10; simp only at h; omega)
    have NEq10_1 : Hid ((g0 + 1) ≠ gq10) := Lib.hid (by have h := HRq5.out.lt ((g0 + 1), Z, 26) (by simp); have := hgq10; simp only at h; omega)
    have NEq10_2 : Hid (gq5 ≠ gq10) := Lib.hid (by have h := HRq5.out.lt (gq5, cq4, 26) (by simp); have := hgq10; simp only at h; omega)
    have HGq10 := Lib.hid (Nat.le_trans HBq5.out.size hgq10)
    clear hrowq10 hbq10 hgq10
    have HE : Hid (n8 = pwN x (2 ^ (2 * m) - 1)) := Lib.hid (by rw [← Hn8.out, ← Hn6.out, ← Hn3.out]; exact ones_even x m)
    go_upto_region 5 with fail
    by_cases ho : n % 2 = 1
    · have d2 : (n : Int).tmod 2 = 1 := by rw [Int.tmod_eq_emod_of_nonneg (by omega)]; omega
      have d2' : (n : Int) % 2 = 1 := by omega
      have hn2 : n = 2 * m + 1 := by omega
      have HN := Lib.hid hn2
      clear hn2 hm
      go_upto_region 6 with fail
      refine wp_region_noPanic ?_
      refine wp_region_held_tail (S := fun W => Below Wq10.heap.size Wq10 W) 4 (by kernel_rfl) ⟨by kernel_rfl, by kernel_rfl, by kernel_rfl, by kernel_rfl⟩ (by exact (Below.refl _ _).drew) (fun hT inv hS => ?_)
      refine' take_atT 0 hT inv rfl (by omega) (by kernel_rfl) (by kernel_rfl) (fun _ _ _ h => h) (by rfl) hS ?_ ?_ ?_
      rotate_left 2
      · intro W hSW; exact run_loadR rfl rfl (HRq10.out.below hSW).head Try.underlying26 rfl (C.base.info Rq9.out)
      · simp only [List.set_cons_succ, List.set_cons_zero]; rfl
      intro inv
      refine' take_atT 2 hT inv rfl (by omega) (by kernel_rfl) (by kernel_rfl) (fun _ _ _ h => h) (by rfl) hS ?_ ?_ ?_
      rotate_left 2
      · intro W hSW; exact run_loadR rfl rfl (HRq10.out.below hSW).tail.tail.tail.head Try.underlying26 rfl (C.base.info Rc.out)
      · simp only [List.set_cons_succ, List.set_cons_zero]; rfl
      intro inv
      refine call_atT 1 inv rfl (by omega) (by kernel_rfl) (by rfl) (fun K hK => ?_)
      go_simp
      obtain ⟨n11, hn11⟩ : ∃ x_ : Nat, (n8 * n8) % PP = x_ := ⟨_, rfl⟩
      have Hn11 := Lib.hid hn11
      have HLn11 : Hid (n11 < PP) := Lib.hid (by rw [← hn11]; exact Nat.mod_lt _ (by decide))
      clear hn11
      with_reducible refine ((C.square Rq9.out) _).mono ?_
      rintro e vq12 ⟨cq12, rfl, rq12, hbq12⟩
      rw [Hn11.out] at rq12
      have Rq12 := Lib.hid rq12
      clear rq12
      have kbq12 := below_next hS hbq12
      clear hS hbq12
      refine hK.out _ _ (by exact kbq12) (fun inv hS => ?_)
      clear hK K
      refine call_atT 3 inv rfl (by omega) (by kernel_rfl) (by rfl) (fun K hK => ?_)
      go_simp
      obtain ⟨n13, hn13⟩ : ∃ x_ : Nat, (n11 * x) % PP = x_ := ⟨_, rfl⟩
      have Hn13 := Lib.hid hn13
      have HLn13 : Hid (n13 < PP) := Lib.hid (by rw [← hn13]; exact Nat.mod_lt _ (by decide))
      clear hn13
      with_reducible refine ((C.mul Rq12.out Rc.out) _).mono ?_
      rintro e vq14 ⟨cq14, rfl, rq14, hbq14⟩
      rw [Hn13.out] at rq14
      have Rq14 := Lib.hid rq14
      clear rq14
      have kbq14 := below_next kbq12 hbq14
      clear hS hbq14
      refine hK.out _ _ (by exact kbq14) (fun inv hS => ?_)
      clear hK K
      refine done_atT (by kernel_rfl) ?_
      simp only [List.drop_succ_cons, List.drop_zero]
      clear hS
      (try simp only [Act.put])
      have HRq15 := Lib.hid (HRq10.out.below kbq14)
      have HBq15 := Lib.hid (below_next HBq10.out kbq14)
      have lsq16 := HRq15.out.head
      have HRq16 : Hid (RowsW (vq14.setRow gq10 cq14) [(gq10, cq14, 26), (gq5, cq4, 26), ((g0 + 1), Z, 26), (g0, c, 26)]) := Lib.hid ⟨setRow_heap _ _ _ _ _ _ lsq16, (by rw [setRow_other _ _ _ _ NEq10_2.out]; exact HRq15.out.tail.head), (by rw [setRow_other _ _ _ _ NEq10_1.out]; exact HRq15.out.tail.tail.head), (by rw [setRow_other _ _ _ _ NEq10_0.out]; exact HRq15.out.tail.tail.tail.head), trivial⟩
      have HBq16 := Lib.hid (below_row (g := gq10) (cs := cq14) HBq15.out HGq10.out)
      go_wp2_with (refine wpList_store_row rfl 26 (.tmp 6) (.tmp 26) rfl gq10 cq14 rfl rfl 26 cq9 lsq16 (C.base.info Rq14.out) (C.base.size Rq9.out Rq14.out) (C.base.one Rq14.out) ?_)
      obtain ⟨Wq16, hWq16⟩ : ∃ W, vq14.setRow gq10 cq14 = W := ⟨_, rfl⟩
      rw [hWq16] at HRq16 HBq16
      (try rw [hWq16])
      clear hWq16 lsq16
      refine NoPanic.normal ?_
      go_upto_region 7 with fail
      have l17 := HRq16.out.head
      have lsq18 := HRq16.out.tail.tail.head
      have HRq18 : Hid (RowsW (Wq16.setRow (g0 + 1) cq14) [(gq10, cq14, 26), (gq5, cq4, 26), ((g0 + 1), cq14, 26), (g0, c, 26)]) := Lib.hid ⟨(by rw [setRow_other _ _ _ _ (Ne.symm NEq10_1.out)]; exact HRq16.out.head), (by rw [setRow_other _ _ _ _ (Ne.symm NEq5_1.out)]; exact HRq16.out.tail.head), setRow_heap _ _ _ _ _ _ lsq18, (by rw [setRow_other _ _ _ _ (by omega)]; exact HRq16.out.tail.tail.tail.head), trivial⟩
      have HBq18 := Lib.hid (below_row (g := (g0 + 1)) (cs := cq14) HBq16.out (by have := HG0.out; omega))
      go_wp2_with (first
          | (refine wpList_load_row rfl 26 (.tmp 6) rfl gq10 rfl 26 cq14 (0, 0) _ l17 Try.underlying26 rfl (C.base.info Rq14.out) ?_)
          | (refine wpList_store_row rfl 26 (.tmp 4) (.tmp 27) rfl (g0 + 1) cq14 rfl rfl 26 Z lsq18 (C.base.info Rq14.out) (C.base.size RZZ.out Rq14.out) (C.base.one Rq14.out) ?_))
      obtain ⟨Wq18, hWq18⟩ : ∃ W, Wq16.setRow (g0 + 1) cq14 = W := ⟨_, rfl⟩
      rw [hWq18] at HRq18 HBq18
      (try rw [hWq18])
      clear hWq18 lsq18
      (try simp only [Exit.inBlock, Exit.then])
      refine bodyPost_ret (results_cell_row rfl _ _ (g0 + 1) _ cq14 _ _ rfl HRq18.out.tail.tail.head Try.underlying26 rfl (C.base.info Rq14.out)) rfl ?_
      exact ⟨_, rfl, by rw [show pwN x (2 ^ n - 1) = n13 by rw [HN.out, ← Hn13.out, ← Hn11.out, HE.out]; exact (ones_odd m).symm]; exact Rq14.out, HBq18.out⟩
    · have d2 : (n : Int).tmod 2 = 0 := by rw [Int.tmod_eq_emod_of_nonneg (by omega)]; omega
      have d2' : (n : Int) % 2 = 0 := by omega
      have hn2 : n = 2 * m := by omega
      have HN := Lib.hid hn2
      clear hn2 hm
      go_upto_region 7 with fail
      have l19 := HRq10.out.head
      have lsq20 := HRq10.out.tail.tail.head
      have HRq20 : Hid (RowsW (Wq10.setRow (g0 + 1) cq9) [(gq10, cq9, 26), (gq5, cq4, 26), ((g0 + 1), cq9, 26), (g0, c, 26)]) := Lib.hid ⟨(by rw [setRow_other _ _ _ _ (Ne.symm NEq10_1.out)]; exact HRq10.out.head), (by rw [setRow_other _ _ _ _ (Ne.symm NEq5_1.out)]; exact HRq10.out.tail.head), setRow_heap _ _ _ _ _ _ lsq20, (by rw [setRow_other _ _ _ _ (by omega)]; exact HRq10.out.tail.tail.tail.head), trivial⟩
      have HBq20 := Lib.hid (below_row (g := (g0 + 1)) (cs := cq9) HBq10.out (by have := HG0.out; omega))
      go_wp2_with (first
          | (refine wpList_load_row rfl 26 (.tmp 6) rfl gq10 rfl 26 cq9 (0, 0) _ l19 Try.underlying26 rfl (C.base.info Rq9.out) ?_)
          | (refine wpList_store_row rfl 26 (.tmp 4) (.tmp 27) rfl (g0 + 1) cq9 rfl rfl 26 Z lsq20 (C.base.info Rq9.out) (C.base.size RZZ.out Rq9.out) (C.base.one Rq9.out) ?_))
      obtain ⟨Wq20, hWq20⟩ : ∃ W, Wq10.setRow (g0 + 1) cq9 = W := ⟨_, rfl⟩
      rw [hWq20] at HRq20 HBq20
      (try rw [hWq20])
      clear hWq20 lsq20
      (try simp only [Exit.inBlock, Exit.then])
      refine bodyPost_ret (results_cell_row rfl _ _ (g0 + 1) _ cq9 _ _ rfl HRq20.out.tail.tail.head Try.underlying26 rfl (C.base.info Rq9.out)) rfl ?_
      exact ⟨_, rfl, by rw [show pwN x (2 ^ n - 1) = n8 by rw [HN.out]; exact HE.out.symm]; exact Rq9.out, HBq20.out⟩
set_option maxHeartbeats 1600000 in
theorem peighth_any {R : Array Value → Nat → Prop} (C : FePC R) {c : Array Value} {x : Nat} (hx : R c x) (w : World) : Calls Try.prog 74 #[.agg c] w (RetFe R w (pwN x KP)) := by
  obtain ⟨Z, hZ, rZ⟩ := C.base.zero
  have RZZ := Lib.hid rZ
  clear rZ
  have Rc := Lib.hid hx
  have HXL : Hid (x < PP) := Lib.hid (C.base.lt hx)
  clear hx
  have HR0 := Lib.hid (((RowsW.nil w).box c 26).box Z 26)
  have HB0 := Lib.hid (below_box (below_box (Below.refl w.heap.size w) c 26) Z 26)
  rw [World.size_alloc] at HR0
  go_enter Try.func74, Try.ntmps74
  go_upto_region 1 with fail
  obtain ⟨W0, hW0⟩ : ∃ W, ((w.alloc (.cells c 26)).alloc (.cells Z 26)) = W := ⟨_, rfl⟩
  obtain ⟨g0, hg0⟩ : ∃ g, w.heap.size = g := ⟨_, rfl⟩
  rw [hW0] at HR0 HB0
  rw [hg0] at HR0
  rw [hW0, hg0]
  have HG0 := Lib.hid hg0
  clear hW0 hg0
  refine wp_region_noPanic ?_
  refine wp_region_held_tail (S := fun W => Below W0.heap.size W0 W) 5 (by kernel_rfl) ⟨by kernel_rfl, by kernel_rfl, by kernel_rfl, by kernel_rfl⟩ (by exact (Below.refl _ _).drew) (fun hT inv hS => ?_)
  refine' take_atT 0 hT inv rfl (by omega) (by kernel_rfl) (by kernel_rfl) (fun _ _ _ h => h) (by rfl) hS ?_ ?_ ?_
  rotate_left 2
  · intro W hSW; exact run_loadR rfl rfl (HR0.out.below hSW).tail.head Try.underlying26 rfl (C.base.info Rc.out)
  · simp only [List.set_cons_succ, List.set_cons_zero]; rfl
  intro inv
  refine' take_atT 3 hT inv rfl (by omega) (by kernel_rfl) (by kernel_rfl) (fun _ _ _ h => h) (by rfl) hS ?_ ?_ ?_
  rotate_left 2
  · intro W hSW; exact run_loadR rfl rfl (HR0.out.below hSW).tail.head Try.underlying26 rfl (C.base.info Rc.out)
  · simp only [List.set_cons_succ, List.set_cons_zero]; rfl
  intro inv
  refine call_atT 1 inv rfl (by omega) (by kernel_rfl) (by rfl) (fun K hK => ?_)
  go_simp
  obtain ⟨n1, hn1⟩ : ∃ y : Nat, pwN x (2 ^ 250 - 1) = y := ⟨_, rfl⟩
  have Hn1 := Lib.hid hn1
  have HLn1 : Hid (n1 < PP) := Lib.hid (by rw [← hn1]; exact pwN_lt _ _)
  clear hn1
  have o4 : ∀ W : World, Calls Try.prog 89 #[.agg c, .int .i64 250] W (RetFe R W (pwN x (2 ^ 250 - 1))) := fun W => pones_any C Rc.out 250 (by decide) (by decide) W
  with_reducible refine (o4 _).mono ?_
  rintro e vq2 ⟨cq2, rfl, rq2, hbq2⟩
  rw [Hn1.out] at rq2
  have Rq2 := Lib.hid rq2
  clear rq2
  have kbq2 := below_next hS hbq2
  clear hS hbq2
  refine hK.out _ _ (by exact kbq2) (fun inv hS => ?_)
  clear hK K
  refine call_atT 2 inv rfl (by omega) (by kernel_rfl) (by rfl) (fun K hK => ?_)
  go_simp
  obtain ⟨n3, hn3⟩ : ∃ y : Nat, pwN n1 (2 ^ 2) = y := ⟨_, rfl⟩
  have Hn3 := Lib.hid hn3
  have HLn3 : Hid (n3 < PP) := Lib.hid (by rw [← hn3]; exact pwN_lt _ _)
  clear hn3
  have o5 : ∀ W : World, Calls Try.prog 73 #[.agg cq2, .int .i64 2] W (RetFe R W (pwN n1 (2 ^ 2))) := fun W => psquared_any C Rq2.out 2 (by decide) W
  with_reducible refine (o5 _).mono ?_
  rintro e vq4 ⟨cq4, rfl, rq4, hbq4⟩
  rw [Hn3.out] at rq4
  have Rq4 := Lib.hid rq4
  clear rq4
  have kbq4 := below_next kbq2 hbq4
  clear hS hbq4
  refine hK.out _ _ (by exact kbq4) (fun inv hS => ?_)
  clear hK K
  refine call_atT 4 inv rfl (by omega) (by kernel_rfl) (by rfl) (fun K hK => ?_)
  go_simp
  obtain ⟨n5, hn5⟩ : ∃ x_ : Nat, (n3 * x) % PP = x_ := ⟨_, rfl⟩
  have Hn5 := Lib.hid hn5
  have HLn5 : Hid (n5 < PP) := Lib.hid (by rw [← hn5]; exact Nat.mod_lt _ (by decide))
  clear hn5
  with_reducible refine ((C.mul Rq4.out Rc.out) _).mono ?_
  rintro e vq6 ⟨cq6, rfl, rq6, hbq6⟩
  rw [Hn5.out] at rq6
  have Rq6 := Lib.hid rq6
  clear rq6
  have kbq6 := below_next kbq4 hbq6
  clear hS hbq6
  refine hK.out _ _ (by exact kbq6) (fun inv hS => ?_)
  clear hK K
  refine done_atT (by kernel_rfl) ?_
  simp only [List.drop_succ_cons, List.drop_zero]
  clear hS
  (try simp only [Act.put])
  have HRq7 := Lib.hid (HR0.out.below kbq6)
  have HBq7 := Lib.hid (below_next HB0.out kbq6)
  have lsq8 := HRq7.out.head
  have HRq8 : Hid (RowsW (vq6.setRow (g0 + 1) cq6) [((g0 + 1), cq6, 26), (g0, c, 26)]) := Lib.hid ⟨setRow_heap _ _ _ _ _ _ lsq8, (by rw [setRow_other _ _ _ _ (by omega)]; exact HRq7.out.tail.head), trivial⟩
  have HBq8 := Lib.hid (below_row (g := (g0 + 1)) (cs := cq6) HBq7.out (by have := HG0.out; omega))
  go_wp2_with (refine wpList_store_row rfl 26 (.tmp 2) (.tmp 7) rfl (g0 + 1) cq6 rfl rfl 26 Z lsq8 (C.base.info Rq6.out) (C.base.size RZZ.out Rq6.out) (C.base.one Rq6.out) ?_)
  obtain ⟨Wq8, hWq8⟩ : ∃ W, vq6.setRow (g0 + 1) cq6 = W := ⟨_, rfl⟩
  rw [hWq8] at HRq8 HBq8
  (try rw [hWq8])
  clear hWq8 lsq8
  refine NoPanic.normal ?_
  go_wp2_with fail
  (try simp only [Exit.inBlock, Exit.then])
  refine bodyPost_ret (results_cell_row rfl _ _ (g0 + 1) _ cq6 _ _ rfl HRq8.out.head Try.underlying26 rfl (C.base.info Rq6.out)) rfl ?_
  exact ⟨_, rfl, by rw [show pwN x KP = n5 by rw [← Hn5.out, ← Hn3.out, ← Hn1.out]; exact eighth_is.symm]; exact Rq6.out, HBq8.out⟩
/-- the bytes of a root of -1 -/
def bI : List UInt8 := [0xb0, 0xa0, 0x0e, 0x4a, 0x27, 0x1b, 0xee, 0xc4, 0x78, 0xe4, 0x2f, 0xad, 0x06, 0x18, 0x43, 0x2f, 0xa7, 0xd7, 0xfb, 0x3d, 0x99, 0x00, 0x4d, 0x2b, 0x0b, 0xdf, 0xc1, 0x4f, 0x80, 0x24, 0x83, 0x2b]
theorem bI_len : bI.length = 32 := rfl
theorem bI_fe : feN bI = qI := by decide +kernel
set_option maxHeartbeats 1600000 in
theorem prootm_any {R : Array Value → Nat → Prop} (C : FePC R) (w : World) : Calls Try.prog 85 #[] w (RetFe R w qI) := by
  obtain ⟨Z, hZ, RZ⟩ := C.base.zero
  have HC := Lib.hid C
  have HZZ := Lib.hid RZ
  have HF : Hid (∀ W : World, Calls Try.prog 65 #[.agg (arrB bI)] W (RetFe R W qI)) := Lib.hid fun W => by have h := C.from_ bI bI_len W; rw [bI_fe] at h; exact h
  have HR0 := Lib.hid ((RowsW.nil w).box Z 26)
  have HB0 := Lib.hid (below_box (Below.refl w.heap.size w) Z 26)
  clear C RZ
  go_enter Try.func85, Try.ntmps85
  go_upto_region 1 with fail
  obtain ⟨W0, hW0⟩ : ∃ W, w.alloc (.cells Z 26) = W := ⟨_, rfl⟩
  obtain ⟨g0, hg0⟩ : ∃ g, w.heap.size = g := ⟨_, rfl⟩
  rw [hW0] at HR0 HB0
  rw [hg0] at HR0
  rw [hW0, hg0]
  have HG0 := Lib.hid hg0
  clear hW0 hg0
  go_wp2_with (refine wpList_runs (o := ⟨some 1, _, _, _, _, _⟩) rfl (.agg (arrB bI)) ?_ ?_; kernel_rfl)
  with_reducible refine (HF.out _).mono ?_
  rintro e v1 ⟨c1, rfl, r1, hb1⟩
  have HR1 := Lib.hid (HR0.out.below hb1)
  have l1 := HR1.out.head
  have HB := Lib.hid (below_row (g := g0) (cs := c1) (below_next HB0.out hb1) (by rw [HG0.out]; exact Nat.le_refl _))
  have i1 := HC.out.base.info r1
  have o1 := HC.out.base.one r1
  have s1 := HC.out.base.size HZZ.out r1
  have R1 := Lib.hid r1
  clear hb1 r1
  go_wp2_with (refine wpList_store_row rfl 26 (.tmp 0) (.tmp 2) rfl g0 c1 rfl rfl 26 Z l1 i1 s1 o1 ?_)
  (try simp only [Exit.inBlock, Exit.then])
  refine bodyPost_ret (results_cell_row rfl _ _ g0 _ c1 _ _ rfl (setRow_heap _ _ _ _ _ _ l1) Try.underlying26 rfl i1) rfl ?_
  exact ⟨c1, rfl, R1.out, HB.out⟩
set_option maxHeartbeats 1600000 in
theorem pinvert_any {R : Array Value → Nat → Prop} (C : FePC R) {c : Array Value} {x : Nat} (hx : R c x) (w : World) : Calls Try.prog 37 #[.agg c] w (RetFe R w (invN x)) := by
  obtain ⟨Z, hZ, rZ⟩ := C.base.zero
  have RZZ := Lib.hid rZ
  clear rZ
  have Rc := Lib.hid hx
  have HXL : Hid (x < PP) := Lib.hid (C.base.lt hx)
  clear hx
  have HR0 := Lib.hid (((RowsW.nil w).box c 26).box Z 26)
  have HB0 := Lib.hid (below_box (below_box (Below.refl w.heap.size w) c 26) Z 26)
  rw [World.size_alloc] at HR0
  go_enter Try.func37, Try.ntmps37
  go_upto_region 1 with fail
  obtain ⟨W0, hW0⟩ : ∃ W, ((w.alloc (.cells c 26)).alloc (.cells Z 26)) = W := ⟨_, rfl⟩
  obtain ⟨g0, hg0⟩ : ∃ g, w.heap.size = g := ⟨_, rfl⟩
  rw [hW0] at HR0 HB0
  rw [hg0] at HR0
  rw [hW0, hg0]
  have HG0 := Lib.hid hg0
  clear hW0 hg0
  refine wp_region_noPanic ?_
  refine wp_region_heldB 4 3 26 Z (by kernel_rfl) (by kernel_rfl) ⟨by kernel_rfl, by kernel_rfl, hZ, fun _ _ _ h => h⟩ (fun hA hS => ?_)
  refine' take_atB 0 hA rfl (by kernel_rfl) (by kernel_rfl) (by kernel_rfl) (by kernel_rfl) (by kernel_rfl) (by rfl) (by rfl) hS ?_ ?_ ?_
  rotate_left 2
  · intro W hSW; exact run_loadR rfl rfl (HR0.out.below hSW).tail.head Try.underlying26 rfl (C.base.info Rc.out)
  · simp only [List.set_cons_succ, List.set_cons_zero]; rfl
  refine' take_atB 2 hA rfl (by kernel_rfl) (by kernel_rfl) (by kernel_rfl) (by kernel_rfl) (by kernel_rfl) (by rfl) (by rfl) hS ?_ ?_ ?_
  rotate_left 2
  · intro W hSW; exact run_loadR rfl rfl (HR0.out.below hSW).tail.head Try.underlying26 rfl (C.base.info Rc.out)
  · simp only [List.set_cons_succ, List.set_cons_zero]; rfl
  refine call_atB 1 hA rfl (by kernel_rfl) (by kernel_rfl) (by kernel_rfl) (by kernel_rfl) (by rfl) (by rfl) hS (fun oq2 Xq2 hS K hK => ?_)
  go_simp
  obtain ⟨n1, hn1⟩ : ∃ x_ : Nat, (x * x) % PP = x_ := ⟨_, rfl⟩
  have Hn1 := Lib.hid hn1
  have HLn1 : Hid (n1 < PP) := Lib.hid (by rw [← hn1]; exact Nat.mod_lt _ (by decide))
  clear hn1
  with_reducible refine ((C.square Rc.out) _).mono ?_
  rintro e vq2 ⟨cq2, rfl, rq2, hbq2⟩
  rw [Hn1.out] at rq2
  have Rq2 := Lib.hid rq2
  clear rq2
  refine hK.out _ _ hbq2 (fun hS => ?_)
  clear hK K hbq2
  refine call_atB 3 hA rfl (by kernel_rfl) (by kernel_rfl) (by kernel_rfl) (by kernel_rfl) (by rfl) (by rfl) hS (fun oq4 Xq4 hS K hK => ?_)
  go_simp
  obtain ⟨n3, hn3⟩ : ∃ x_ : Nat, (n1 * x) % PP = x_ := ⟨_, rfl⟩
  have Hn3 := Lib.hid hn3
  have HLn3 : Hid (n3 < PP) := Lib.hid (by rw [← hn3]; exact Nat.mod_lt _ (by decide))
  clear hn3
  with_reducible refine ((C.mul Rq2.out Rc.out) _).mono ?_
  rintro e vq4 ⟨cq4, rfl, rq4, hbq4⟩
  rw [Hn3.out] at rq4
  have Rq4 := Lib.hid rq4
  clear rq4
  refine hK.out _ _ hbq4 (fun hS => ?_)
  clear hK K hbq4
  refine' store_atB 5 hA rfl (by kernel_rfl) (by kernel_rfl) (by kernel_rfl) hS (by kernel_rfl) rfl (by intro h; cases h) (C.base.info Rq4.out) (C.base.size RZZ.out Rq4.out) (C.base.one Rq4.out) ?_ ?_
  rotate_left 1
  · intro g; simp only [List.set_cons_succ, List.set_cons_zero]; rfl
  intro gq5 Wq5 hgq5 hbq5 hrowq5
  clear hA hS
  refine wpAnyH_done (by kernel_rfl) ?_ _
  refine NoPanic.normal ?_
  (try simp only [Act.put])
  have HRq5 : Hid (RowsW Wq5 [(gq5, cq4, 26), ((g0 + 1), Z, 26), (g0, c, 26)]) := Lib.hid ⟨hrowq5, HR0.out.below hbq5⟩
  have HBq5 := Lib.hid (below_next HB0.out hbq5)
  have NEq5_0 : Hid (g0 ≠ gq5) := Lib.hid (by have h := HR0.out.lt (g0, c, 26) (by simp); have := hgq5; simp only at h; omega)
  have NEq5_1 : Hid ((g0 + 1) ≠ gq5) := Lib.hid (by have h := HR0.out.lt ((g0 + 1), Z, 26) (by simp); have := hgq5; simp only at h; omega)
  have HGq5 := Lib.hid (Nat.le_trans HB0.out.size hgq5)
  clear hrowq5 hbq5 hgq5
  go_upto_region 2 with fail
  refine wp_region_noPanic ?_
  refine wp_region_held_tail (S := fun W => Below Wq5.heap.size Wq5 W) 5 (by kernel_rfl) ⟨by kernel_rfl, by kernel_rfl, by kernel_rfl, by kernel_rfl⟩ (by exact (Below.refl _ _).drew) (fun hT inv hS => ?_)
  refine' take_atT 0 hT inv rfl (by omega) (by kernel_rfl) (by kernel_rfl) (fun _ _ _ h => h) (by rfl) hS ?_ ?_ ?_
  rotate_left 2
  · intro W hSW; exact run_loadR rfl rfl (HRq5.out.below hSW).tail.tail.head Try.underlying26 rfl (C.base.info Rc.out)
  · simp only [List.set_cons_succ, List.set_cons_zero]; rfl
  intro inv
  refine' take_atT 3 hT inv rfl (by omega) (by kernel_rfl) (by kernel_rfl) (fun _ _ _ h => h) (by rfl) hS ?_ ?_ ?_
  rotate_left 2
  · intro W hSW; exact run_loadR rfl rfl (HRq5.out.below hSW).head Try.underlying26 rfl (C.base.info Rq4.out)
  · simp only [List.set_cons_succ, List.set_cons_zero]; rfl
  intro inv
  refine call_atT 1 inv rfl (by omega) (by kernel_rfl) (by rfl) (fun K hK => ?_)
  go_simp
  obtain ⟨n6, hn6⟩ : ∃ y : Nat, pwN x KP = y := ⟨_, rfl⟩
  have Hn6 := Lib.hid hn6
  have HLn6 : Hid (n6 < PP) := Lib.hid (by rw [← hn6]; exact pwN_lt _ _)
  clear hn6
  with_reducible refine ((peighth_any C Rc.out) _).mono ?_
  rintro e vq7 ⟨cq7, rfl, rq7, hbq7⟩
  rw [Hn6.out] at rq7
  have Rq7 := Lib.hid rq7
  clear rq7
  have kbq7 := below_next hS hbq7
  clear hS hbq7
  refine hK.out _ _ (by exact kbq7) (fun inv hS => ?_)
  clear hK K
  refine call_atT 2 inv rfl (by omega) (by kernel_rfl) (by rfl) (fun K hK => ?_)
  go_simp
  obtain ⟨n8, hn8⟩ : ∃ y : Nat, pwN n6 (2 ^ 3) = y := ⟨_, rfl⟩
  have Hn8 := Lib.hid hn8
  have HLn8 : Hid (n8 < PP) := Lib.hid (by rw [← hn8]; exact pwN_lt _ _)
  clear hn8
  have o10 : ∀ W : World, Calls Try.prog 73 #[.agg cq7, .int .i64 3] W (RetFe R W (pwN n6 (2 ^ 3))) := fun W => psquared_any C Rq7.out 3 (by decide) W
  with_reducible refine (o10 _).mono ?_
  rintro e vq9 ⟨cq9, rfl, rq9, hbq9⟩
  rw [Hn8.out] at rq9
  have Rq9 := Lib.hid rq9
  clear rq9
  have kbq9 := below_next kbq7 hbq9
  clear hS hbq9
  refine hK.out _ _ (by exact kbq9) (fun inv hS => ?_)
  clear hK K
  refine call_atT 4 inv rfl (by omega) (by kernel_rfl) (by rfl) (fun K hK => ?_)
  go_simp
  obtain ⟨n10, hn10⟩ : ∃ x_ : Nat, (n8 * n3) % PP = x_ := ⟨_, rfl⟩
  have Hn10 := Lib.hid hn10
  have HLn10 : Hid (n10 < PP) := Lib.hid (by rw [← hn10]; exact Nat.mod_lt _ (by decide))
  clear hn10
  with_reducible refine ((C.mul Rq9.out Rq4.out) _).mono ?_
  rintro e vq11 ⟨cq11, rfl, rq11, hbq11⟩
  rw [Hn10.out] at rq11
  have Rq11 := Lib.hid rq11
  clear rq11
  have kbq11 := below_next kbq9 hbq11
  clear hS hbq11
  refine hK.out _ _ (by exact kbq11) (fun inv hS => ?_)
  clear hK K
  refine done_atT (by kernel_rfl) ?_
  simp only [List.drop_succ_cons, List.drop_zero]
  clear hS
  (try simp only [Act.put])
  have HRq12 := Lib.hid (HRq5.out.below kbq11)
  have HBq12 := Lib.hid (below_next HBq5.out kbq11)
  have lsq13 := HRq12.out.tail.head
  have HRq13 : Hid (RowsW (vq11.setRow (g0 + 1) cq11) [(gq5, cq4, 26), ((g0 + 1), cq11, 26), (g0, c, 26)]) := Lib.hid ⟨(by rw [setRow_other _ _ _ _ (Ne.symm NEq5_1.out)]; exact HRq12.out.head), setRow_heap _ _ _ _ _ _ lsq13, (by rw [setRow_other _ _ _ _ (by omega)]; exact HRq12.out.tail.tail.head), trivial⟩
  have HBq13 := Lib.hid (below_row (g := (g0 + 1)) (cs := cq11) HBq12.out (by have := HG0.out; omega))
  go_wp2_with (refine wpList_store_row rfl 26 (.tmp 2) (.tmp 12) rfl (g0 + 1) cq11 rfl rfl 26 Z lsq13 (C.base.info Rq11.out) (C.base.size RZZ.out Rq11.out) (C.base.one Rq11.out) ?_)
  obtain ⟨Wq13, hWq13⟩ : ∃ W, vq11.setRow (g0 + 1) cq11 = W := ⟨_, rfl⟩
  rw [hWq13] at HRq13 HBq13
  (try rw [hWq13])
  clear hWq13 lsq13
  refine NoPanic.normal ?_
  go_wp2_with fail
  (try simp only [Exit.inBlock, Exit.then])
  refine bodyPost_ret (results_cell_row rfl _ _ (g0 + 1) _ cq11 _ _ rfl HRq13.out.tail.head Try.underlying26 rfl (C.base.info Rq11.out)) rfl ?_
  exact ⟨_, rfl, by rw [show invN x = n10 by rw [← Hn10.out, ← Hn8.out, ← Hn6.out, ← Hn3.out, ← Hn1.out]; exact (invert_is HXL.out).symm]; exact Rq11.out, HBq13.out⟩
set_option maxHeartbeats 3200000 in
theorem pratio_any {R : Array Value → Nat → Prop} (C : FePC R) {c d : Array Value} {u v : Nat} (hu : R c u) (hv : R d v) (w : World) : Calls Try.prog 68 #[.agg c, .agg d] w (RetFeB R w (ratN u v) (fineN u v)) := by
  obtain ⟨Z, hZ, rZ⟩ := C.base.zero
  have RZZ := Lib.hid rZ
  clear rZ
  have Rc := Lib.hid hu
  have HUL : Hid (u < PP) := Lib.hid (C.base.lt hu)
  clear hu
  have Rd := Lib.hid hv
  have HVL : Hid (v < PP) := Lib.hid (C.base.lt hv)
  clear hv
  have HR0 := Lib.hid ((((RowsW.nil w).box c 26).box d 26).box Z 26)
  have HB0 := Lib.hid (below_box (below_box (below_box (Below.refl w.heap.size w) c 26) d 26) Z 26)
  rw [World.size_alloc] at HR0
  rw [World.size_alloc] at HR0
  go_enter Try.func68, Try.ntmps68
  go_upto_region 1 with fail
  obtain ⟨W0, hW0⟩ : ∃ W, (((w.alloc (.cells c 26)).alloc (.cells d 26)).alloc (.cells Z 26)) = W := ⟨_, rfl⟩
  obtain ⟨g0, hg0⟩ : ∃ g, w.heap.size = g := ⟨_, rfl⟩
  rw [hW0] at HR0 HB0
  rw [hg0] at HR0
  rw [hW0, hg0]
  have HG0 := Lib.hid hg0
  clear hW0 hg0
  refine wp_region_noPanic ?_
  refine wp_region_heldB 6 6 26 Z (by kernel_rfl) (by kernel_rfl) ⟨by kernel_rfl, by kernel_rfl, hZ, fun _ _ _ h => h⟩ (fun hA hS => ?_)
  refine' take_atB 0 hA rfl (by kernel_rfl) (by kernel_rfl) (by kernel_rfl) (by kernel_rfl) (by kernel_rfl) (by rfl) (by rfl) hS ?_ ?_ ?_
  rotate_left 2
  · intro W hSW; exact run_loadR rfl rfl (HR0.out.below hSW).tail.tail.head Try.underlying26 rfl (C.base.info Rc.out)
  · simp only [List.set_cons_succ, List.set_cons_zero]; rfl
  refine' take_atB 1 hA rfl (by kernel_rfl) (by kernel_rfl) (by kernel_rfl) (by kernel_rfl) (by kernel_rfl) (by rfl) (by rfl) hS ?_ ?_ ?_
  rotate_left 2
  · intro W hSW; exact run_loadR rfl rfl (HR0.out.below hSW).tail.tail.head Try.underlying26 rfl (C.base.info Rc.out)
  · simp only [List.set_cons_succ, List.set_cons_zero]; rfl
  refine' take_atB 2 hA rfl (by kernel_rfl) (by kernel_rfl) (by kernel_rfl) (by kernel_rfl) (by kernel_rfl) (by rfl) (by rfl) hS ?_ ?_ ?_
  rotate_left 2
  · intro W hSW; exact run_loadR rfl rfl (HR0.out.below hSW).tail.head Try.underlying26 rfl (C.base.info Rd.out)
  · simp only [List.set_cons_succ, List.set_cons_zero]; rfl
  refine call_atB 3 hA rfl (by kernel_rfl) (by kernel_rfl) (by kernel_rfl) (by kernel_rfl) (by rfl) (by rfl) hS (fun oq2 Xq2 hS K hK => ?_)
  go_simp
  obtain ⟨n1, hn1⟩ : ∃ x_ : Nat, (u * v) % PP = x_ := ⟨_, rfl⟩
  have Hn1 := Lib.hid hn1
  have HLn1 : Hid (n1 < PP) := Lib.hid (by rw [← hn1]; exact Nat.mod_lt _ (by decide))
  clear hn1
  with_reducible refine ((C.mul Rc.out Rd.out) _).mono ?_
  rintro e vq2 ⟨cq2, rfl, rq2, hbq2⟩
  rw [Hn1.out] at rq2
  have Rq2 := Lib.hid rq2
  clear rq2
  refine hK.out _ _ hbq2 (fun hS => ?_)
  clear hK K hbq2
  refine call_atB 4 hA rfl (by kernel_rfl) (by kernel_rfl) (by kernel_rfl) (by kernel_rfl) (by rfl) (by rfl) hS (fun oq4 Xq4 hS K hK => ?_)
  go_simp
  obtain ⟨n3, hn3⟩ : ∃ y : Nat, pwN n1 KP = y := ⟨_, rfl⟩
  have Hn3 := Lib.hid hn3
  have HLn3 : Hid (n3 < PP) := Lib.hid (by rw [← hn3]; exact pwN_lt _ _)
  clear hn3
  with_reducible refine ((peighth_any C Rq2.out) _).mono ?_
  rintro e vq4 ⟨cq4, rfl, rq4, hbq4⟩
  rw [Hn3.out] at rq4
  have Rq4 := Lib.hid rq4
  clear rq4
  refine hK.out _ _ hbq4 (fun hS => ?_)
  clear hK K hbq4
  refine call_atB 5 hA rfl (by kernel_rfl) (by kernel_rfl) (by kernel_rfl) (by kernel_rfl) (by rfl) (by rfl) hS (fun oq6 Xq6 hS K hK => ?_)
  go_simp
  obtain ⟨n5, hn5⟩ : ∃ x_ : Nat, (u * n3) % PP = x_ := ⟨_, rfl⟩
  have Hn5 := Lib.hid hn5
  have HLn5 : Hid (n5 < PP) := Lib.hid (by rw [← hn5]; exact Nat.mod_lt _ (by decide))
  clear hn5
  with_reducible refine ((C.mul Rc.out Rq4.out) _).mono ?_
  rintro e vq6 ⟨cq6, rfl, rq6, hbq6⟩
  rw [Hn5.out] at rq6
  have Rq6 := Lib.hid rq6
  clear rq6
  refine hK.out _ _ hbq6 (fun hS => ?_)
  clear hK K hbq6
  refine' store_atB 7 hA rfl (by kernel_rfl) (by kernel_rfl) (by kernel_rfl) hS (by kernel_rfl) rfl (by intro h; cases h) (C.base.info Rq6.out) (C.base.size RZZ.out Rq6.out) (C.base.one Rq6.out) ?_ ?_
  rotate_left 1
  · intro g; simp only [List.set_cons_succ, List.set_cons_zero]; rfl
  intro gq7 Wq7 hgq7 hbq7 hrowq7
  clear hA hS
  refine wpAnyH_done (by kernel_rfl) ?_ _
  refine NoPanic.normal ?_
  (try simp only [Act.put])
  have HRq7 : Hid (RowsW Wq7 [(gq7, cq6, 26), ((g0 + 1 + 1), Z, 26), ((g0 + 1), d, 26), (g0, c, 26)]) := Lib.hid ⟨hrowq7, HR0.out.below hbq7⟩
  have HBq7 := Lib.hid (below_next HB0.out hbq7)
  have NEq7_0 : Hid (g0 ≠ gq7) := Lib.hid (by have h := HR0.out.lt (g0, c, 26) (by simp); have := hgq7; simp only at h; omega)
  have NEq7_1 : Hid ((g0 + 1) ≠ gq7) := Lib.hid (by have h := HR0.out.lt ((g0 + 1), d, 26) (by simp); have := hgq7; simp only at h; omega)
  have NEq7_2 : Hid ((g0 + 1 + 1) ≠ gq7) := Lib.hid (by have h := HR0.out.lt ((g0 + 1 + 1), Z, 26) (by simp); have := hgq7; simp only at h; omega)
  have HGq7 := Lib.hid (Nat.le_trans HB0.out.size hgq7)
  clear hrowq7 hbq7 hgq7
  go_upto_region 2 with fail
  refine wp_region_noPanic ?_
  refine wp_region_heldB 4 7 26 Z (by kernel_rfl) (by kernel_rfl) ⟨by kernel_rfl, by kernel_rfl, hZ, fun _ _ _ h => h⟩ (fun hA hS => ?_)
  refine' take_atB 0 hA rfl (by kernel_rfl) (by kernel_rfl) (by kernel_rfl) (by kernel_rfl) (by kernel_rfl) (by rfl) (by rfl) hS ?_ ?_ ?_
  rotate_left 2
  · intro W hSW; exact run_loadR rfl rfl (HRq7.out.below hSW).tail.tail.head Try.underlying26 rfl (C.base.info Rd.out)
  · simp only [List.set_cons_succ, List.set_cons_zero]; rfl
  refine' take_atB 1 hA rfl (by kernel_rfl) (by kernel_rfl) (by kernel_rfl) (by kernel_rfl) (by kernel_rfl) (by rfl) (by rfl) hS ?_ ?_ ?_
  rotate_left 2
  · intro W hSW; exact run_loadR rfl rfl (HRq7.out.below hSW).head Try.underlying26 rfl (C.base.info Rq6.out)
  · simp only [List.set_cons_succ, List.set_cons_zero]; rfl
  refine call_atB 2 hA rfl (by kernel_rfl) (by kernel_rfl) (by kernel_rfl) (by kernel_rfl) (by rfl) (by rfl) hS (fun oq9 Xq9 hS K hK => ?_)
  go_simp
  obtain ⟨n8, hn8⟩ : ∃ x_ : Nat, (n5 * n5) % PP = x_ := ⟨_, rfl⟩
  have Hn8 := Lib.hid hn8
  have HLn8 : Hid (n8 < PP) := Lib.hid (by rw [← hn8]; exact Nat.mod_lt _ (by decide))
  clear hn8
  with_reducible refine ((C.square Rq6.out) _).mono ?_
  rintro e vq9 ⟨cq9, rfl, rq9, hbq9⟩
  rw [Hn8.out] at rq9
  have Rq9 := Lib.hid rq9
  clear rq9
  refine hK.out _ _ hbq9 (fun hS => ?_)
  clear hK K hbq9
  refine call_atB 3 hA rfl (by kernel_rfl) (by kernel_rfl) (by kernel_rfl) (by kernel_rfl) (by rfl) (by rfl) hS (fun oq11 Xq11 hS K hK => ?_)
  go_simp
  obtain ⟨n10, hn10⟩ : ∃ x_ : Nat, (v * n8) % PP = x_ := ⟨_, rfl⟩
  have Hn10 := Lib.hid hn10
  have HLn10 : Hid (n10 < PP) := Lib.hid (by rw [← hn10]; exact Nat.mod_lt _ (by decide))
  clear hn10
  with_reducible refine ((C.mul Rd.out Rq9.out) _).mono ?_
  rintro e vq11 ⟨cq11, rfl, rq11, hbq11⟩
  rw [Hn10.out] at rq11
  have Rq11 := Lib.hid rq11
  clear rq11
  refine hK.out _ _ hbq11 (fun hS => ?_)
  clear hK K hbq11
  refine' store_atB 5 hA rfl (by kernel_rfl) (by kernel_rfl) (by kernel_rfl) hS (by kernel_rfl) rfl (by intro h; cases h) (C.base.info Rq11.out) (C.base.size RZZ.out Rq11.out) (C.base.one Rq11.out) ?_ ?_
  rotate_left 1
  · intro g; simp only [List.set_cons_succ, List.set_cons_zero]; rfl
  intro gq12 Wq12 hgq12 hbq12 hrowq12
  clear hA hS
  refine wpAnyH_done (by kernel_rfl) ?_ _
  refine NoPanic.normal ?_
  (try simp only [Act.put])
  have HRq12 : Hid (RowsW Wq12 [(gq12, cq11, 26), (gq7, cq6, 26), ((g0 + 1 + 1), Z, 26), ((g0 + 1), d, 26), (g0, c, 26)]) := Lib.hid ⟨hrowq12, HRq7.out.below hbq12⟩
  have HBq12 := Lib.hid (below_next HBq7.out hbq12)
  have NEq12_0 : Hid (g0 ≠ gq12) := Lib.hid (by have h := HRq7.out.lt (g0, c, 26) (by simp); have := hgq12; simp only at h; omega)
  have NEq12_1 : Hid ((g0 + 1) ≠ gq12) := Lib.hid (by have h := HRq7.out.lt ((g0 + 1), d, 26) (by simp); have := hgq12; simp only at h; omega)
  have NEq12_2 : Hid ((g0 + 1 + 1) ≠ gq12) := Lib.hid (by have h := HRq7.out.lt ((g0 + 1 + 1), Z, 26) (by simp); have := hgq12; simp only at h; omega)
  have NEq12_3 : Hid (gq7 ≠ gq12) := Lib.hid (by have h := HRq7.out.lt (gq7, cq6, 26) (by simp); have := hgq12; simp only at h; omega)
  have HGq12 := Lib.hid (Nat.le_trans HBq7.out.size hgq12)
  clear hrowq12 hbq12 hgq12
  go_upto_region 3 with fail
  obtain ⟨n13, hn13⟩ : ∃ x_ : Nat, (PP - u) % PP = x_ := ⟨_, rfl⟩
  have Hn13 := Lib.hid hn13
  have HLn13 : Hid (n13 < PP) := Lib.hid (by rw [← hn13]; exact Nat.mod_lt _ (by decide))
  clear hn13
  obtain ⟨n14, hn14⟩ : ∃ x_ : Nat, (n5 * qI) % PP = x_ := ⟨_, rfl⟩
  have Hn14 := Lib.hid hn14
  have HLn14 : Hid (n14 < PP) := Lib.hid (by rw [← hn14]; exact Nat.mod_lt _ (by decide))
  clear hn14
  have HF : Hid (F25519.c n10 = F25519.c u * (F25519.c u * F25519.c v) ^ (2 * KP + 1)) := Lib.hid (by have h := ratio_found (u := u) (v := v); rw [Hn1.out, Hn3.out, Hn5.out, Hn8.out, Hn10.out] at h; exact h)
  have HZ0 : Hid (v = 0 → n5 = 0) := Lib.hid (by intro e; have h : (u * pwN ((u * v) % PP) KP) % PP = 0 := by { rw [e]; exact ratio_zero }; rw [Hn1.out, Hn3.out, Hn5.out] at h; exact h)
  by_cases h1 : n10 = u
  · have H1 := Lib.hid h1
    clear h1
    have l15 := HRq12.out.head
    have l16 := HRq12.out.tail.tail.tail.tail.head
    go_wp2_with (first
        | (refine wpList_load_row rfl 26 (.tmp 7) rfl gq12 rfl 26 cq11 (0, 0) _ l15 Try.underlying26 rfl (C.base.info Rq11.out) ?_)
        | (refine wpList_load_row rfl 26 (.tmp 2) rfl g0 rfl 26 c (0, 0) _ l16 Try.underlying26 rfl (C.base.info Rc.out) ?_))
    have kq17 := fun W : World => (C.equal Rq11.out Rc.out) W
    rw [decide_eq_true (show n10 = u from H1.out)] at kq17
    have Kq17 := Lib.hid kq17
    clear kq17
    with_reducible refine (Kq17.out _).mono ?_
    rintro e vq17 ⟨rfl, hbq17⟩
    have HRq17 := Lib.hid (HRq12.out.below hbq17)
    have HBq17 := Lib.hid (below_next HBq12.out hbq17)
    clear hbq17
    go_upto_region 7 with fail
    by_cases hod : n5 % 2 = 1
    · have HOD := Lib.hid hod
      clear hod
      have l18 := HRq17.out.tail.head
      go_wp2_with (refine wpList_load_row rfl 26 (.tmp 6) rfl gq7 rfl 26 cq6 (0, 0) _ l18 Try.underlying26 rfl (C.base.info Rq6.out) ?_)
      have Ht19 : Hid (decide (n5 % 2 = 1) = true) := Lib.hid (decide_eq_true HOD.out)
      have kq20 := fun W : World => (C.odd Rq6.out) W
      rw [Ht19.out] at kq20
      have Kq20 := Lib.hid kq20
      clear kq20
      with_reducible refine (Kq20.out _).mono ?_
      rintro e vq20 ⟨rfl, hbq20⟩
      have HRq20 := Lib.hid (HRq17.out.below hbq20)
      have HBq20 := Lib.hid (below_next HBq17.out hbq20)
      clear hbq20
      go_upto_region 8 with fail
      have l21 := HRq20.out.tail.head
      go_wp2_with (refine wpList_load_row rfl 26 (.tmp 6) rfl gq7 rfl 26 cq6 (0, 0) _ l21 Try.underlying26 rfl (C.base.info Rq6.out) ?_)
      obtain ⟨n22, hn22⟩ : ∃ x_ : Nat, (PP - n5) % PP = x_ := ⟨_, rfl⟩
      have Hn22 := Lib.hid hn22
      have HLn22 : Hid (n22 < PP) := Lib.hid (by rw [← hn22]; exact Nat.mod_lt _ (by decide))
      clear hn22
      with_reducible refine ((C.neg Rq6.out) _).mono ?_
      rintro e vq23 ⟨cq23, rfl, rq23, hbq23⟩
      rw [Hn22.out] at rq23
      have Rq23 := Lib.hid rq23
      clear rq23
      have HRq23 := Lib.hid (HRq20.out.below hbq23)
      have HBq23 := Lib.hid (below_next HBq20.out hbq23)
      clear hbq23
      have lsq24 := HRq23.out.tail.head
      have HRq24 : Hid (RowsW (vq23.setRow gq7 cq23) [(gq12, cq11, 26), (gq7, cq23, 26), ((g0 + 1 + 1), Z, 26), ((g0 + 1), d, 26), (g0, c, 26)]) := Lib.hid ⟨(by rw [setRow_other _ _ _ _ (Ne.symm NEq12_3.out)]; exact HRq23.out.head), setRow_heap _ _ _ _ _ _ lsq24, (by rw [setRow_other _ _ _ _ NEq7_2.out]; exact HRq23.out.tail.tail.head), (by rw [setRow_other _ _ _ _ NEq7_1.out]; exact HRq23.out.tail.tail.tail.head), (by rw [setRow_other _ _ _ _ NEq7_0.out]; exact HRq23.out.tail.tail.tail.tail.head), trivial⟩
      have HBq24 := Lib.hid (below_row (g := gq7) (cs := cq23) HBq23.out HGq7.out)
      go_upto_region 9 with (refine wpList_store_row rfl 26 (.tmp 6) (.tmp 34) rfl gq7 cq23 rfl rfl 26 cq6 lsq24 (C.base.info Rq23.out) (C.base.size Rq6.out Rq23.out) (C.base.one Rq23.out) ?_)
      obtain ⟨Wq24, hWq24⟩ : ∃ W, vq23.setRow gq7 cq23 = W := ⟨_, rfl⟩
      rw [hWq24] at HRq24 HBq24
      (try rw [hWq24])
      clear hWq24 lsq24
      have l25 := HRq24.out.tail.head
      have lsq26 := HRq24.out.tail.tail.head
      have HRq26 : Hid (RowsW (Wq24.setRow (g0 + 1 + 1) cq23) [(gq12, cq11, 26), (gq7, cq23, 26), ((g0 + 1 + 1), cq23, 26), ((g0 + 1), d, 26), (g0, c, 26)]) := Lib.hid ⟨(by rw [setRow_other _ _ _ _ (Ne.symm NEq12_2.out)]; exact HRq24.out.head), (by rw [setRow_other _ _ _ _ (Ne.symm NEq7_2.out)]; exact HRq24.out.tail.head), setRow_heap _ _ _ _ _ _ lsq26, (by rw [setRow_other _ _ _ _ (by omega)]; exact HRq24.out.tail.tail.tail.head), (by rw [setRow_other _ _ _ _ (by omega)]; exact HRq24.out.tail.tail.tail.tail.head), trivial⟩
      have HBq26 := Lib.hid (below_row (g := (g0 + 1 + 1)) (cs := cq23) HBq24.out (by have := HG0.out; omega))
      go_wp2_with (first
          | (refine wpList_load_row rfl 26 (.tmp 6) rfl gq7 rfl 26 cq23 (0, 0) _ l25 Try.underlying26 rfl (C.base.info Rq23.out) ?_)
          | (refine wpList_store_row rfl 26 (.tmp 4) (.tmp 35) rfl (g0 + 1 + 1) cq23 rfl rfl 26 Z lsq26 (C.base.info Rq23.out) (C.base.size RZZ.out Rq23.out) (C.base.one Rq23.out) ?_))
      obtain ⟨Wq26, hWq26⟩ : ∃ W, Wq24.setRow (g0 + 1 + 1) cq23 = W := ⟨_, rfl⟩
      rw [hWq26] at HRq26 HBq26
      (try rw [hWq26])
      clear hWq26 lsq26
      (try simp only [Exit.inBlock, Exit.then])
      refine bodyPost_ret (results_ct rfl _ _ (g0 + 1 + 1) _ cq23 _ _ (.bool true) rfl rfl HRq26.out.tail.tail.head Try.underlying26 rfl (C.base.info Rq23.out)) rfl ?_
      obtain ⟨e1, e2⟩ := (show ratN u v = fixN n5 ∧ fineN u v = true from ratio_is HUL.out HVL.out HLn5.out (by rw [Hn8.out, Hn10.out]; exact H1.out) HZ0.out)
      rw [show fixN n5 = n22 by rw [← Hn22.out]; exact fix_odd HOD.out] at e1
      exact ⟨_, by rw [e2], by rw [e1]; exact Rq23.out, HBq26.out⟩
    · have HOD := Lib.hid hod
      clear hod
      have l27 := HRq17.out.tail.head
      go_wp2_with (refine wpList_load_row rfl 26 (.tmp 6) rfl gq7 rfl 26 cq6 (0, 0) _ l27 Try.underlying26 rfl (C.base.info Rq6.out) ?_)
      have Ht28 : Hid (decide (n5 % 2 = 1) = false) := Lib.hid (decide_eq_false HOD.out)
      have kq29 := fun W : World => (C.odd Rq6.out) W
      rw [Ht28.out] at kq29
      have Kq29 := Lib.hid kq29
      clear kq29
      with_reducible refine (Kq29.out _).mono ?_
      rintro e vq29 ⟨rfl, hbq29⟩
      have HRq29 := Lib.hid (HRq17.out.below hbq29)
      have HBq29 := Lib.hid (below_next HBq17.out hbq29)
      clear hbq29
      go_upto_region 9 with fail
      have l30 := HRq29.out.tail.head
      have lsq31 := HRq29.out.tail.tail.head
      have HRq31 : Hid (RowsW (vq29.setRow (g0 + 1 + 1) cq6) [(gq12, cq11, 26), (gq7, cq6, 26), ((g0 + 1 + 1), cq6, 26), ((g0 + 1), d, 26), (g0, c, 26)]) := Lib.hid ⟨(by rw [setRow_other _ _ _ _ (Ne.symm NEq12_2.out)]; exact HRq29.out.head), (by rw [setRow_other _ _ _ _ (Ne.symm NEq7_2.out)]; exact HRq29.out.tail.head), setRow_heap _ _ _ _ _ _ lsq31, (by rw [setRow_other _ _ _ _ (by omega)]; exact HRq29.out.tail.tail.tail.head), (by rw [setRow_other _ _ _ _ (by omega)]; exact HRq29.out.tail.tail.tail.tail.head), trivial⟩
      have HBq31 := Lib.hid (below_row (g := (g0 + 1 + 1)) (cs := cq6) HBq29.out (by have := HG0.out; omega))
      go_wp2_with (first
          | (refine wpList_load_row rfl 26 (.tmp 6) rfl gq7 rfl 26 cq6 (0, 0) _ l30 Try.underlying26 rfl (C.base.info Rq6.out) ?_)
          | (refine wpList_store_row rfl 26 (.tmp 4) (.tmp 35) rfl (g0 + 1 + 1) cq6 rfl rfl 26 Z lsq31 (C.base.info Rq6.out) (C.base.size RZZ.out Rq6.out) (C.base.one Rq6.out) ?_))
      obtain ⟨Wq31, hWq31⟩ : ∃ W, vq29.setRow (g0 + 1 + 1) cq6 = W := ⟨_, rfl⟩
      rw [hWq31] at HRq31 HBq31
      (try rw [hWq31])
      clear hWq31 lsq31
      (try simp only [Exit.inBlock, Exit.then])
      refine bodyPost_ret (results_ct rfl _ _ (g0 + 1 + 1) _ cq6 _ _ (.bool true) rfl rfl HRq31.out.tail.tail.head Try.underlying26 rfl (C.base.info Rq6.out)) rfl ?_
      obtain ⟨e1, e2⟩ := (show ratN u v = fixN n5 ∧ fineN u v = true from ratio_is HUL.out HVL.out HLn5.out (by rw [Hn8.out, Hn10.out]; exact H1.out) HZ0.out)
      rw [show fixN n5 = n5 from fix_even HOD.out] at e1
      exact ⟨_, by rw [e2], by rw [e1]; exact Rq6.out, HBq31.out⟩
  · have H1 := Lib.hid h1
    clear h1
    have l32 := HRq12.out.head
    have l33 := HRq12.out.tail.tail.tail.tail.head
    go_wp2_with (first
        | (refine wpList_load_row rfl 26 (.tmp 7) rfl gq12 rfl 26 cq11 (0, 0) _ l32 Try.underlying26 rfl (C.base.info Rq11.out) ?_)
        | (refine wpList_load_row rfl 26 (.tmp 2) rfl g0 rfl 26 c (0, 0) _ l33 Try.underlying26 rfl (C.base.info Rc.out) ?_))
    have kq34 := fun W : World => (C.equal Rq11.out Rc.out) W
    rw [decide_eq_false (show ¬ n10 = u from H1.out)] at kq34
    have Kq34 := Lib.hid kq34
    clear kq34
    with_reducible refine (Kq34.out _).mono ?_
    rintro e vq34 ⟨rfl, hbq34⟩
    have HRq34 := Lib.hid (HRq12.out.below hbq34)
    have HBq34 := Lib.hid (below_next HBq12.out hbq34)
    clear hbq34
    go_upto_region 4 with fail
    by_cases h2 : n10 = n13
    · have H2 := Lib.hid h2
      clear h2
      refine wp_region_noPanic ?_
      refine wp_region_held_drew (S := fun W => Below vq34.heap.size vq34 W) (by kernel_rfl) (by exact (Below.refl _ _).drew) (fun hS => ?_)
      refine' take_at 0 rfl (by kernel_rfl) (by kernel_rfl) (by kernel_rfl) (fun _ _ _ h => h) (by rfl) hS ?_ ?_ ?_
      rotate_left 2
      · intro W hSW; exact run_loadR rfl rfl (HRq34.out.below hSW).head Try.underlying26 rfl (C.base.info Rq11.out)
      · simp only [List.set_cons_succ, List.set_cons_zero]; rfl
      refine' take_at 1 rfl (by kernel_rfl) (by kernel_rfl) (by kernel_rfl) (fun _ _ _ h => h) (by rfl) hS ?_ ?_ ?_
      rotate_left 2
      · intro W hSW; exact run_loadR rfl rfl (HRq34.out.below hSW).tail.tail.tail.tail.head Try.underlying26 rfl (C.base.info Rc.out)
      · simp only [List.set_cons_succ, List.set_cons_zero]; rfl
      refine call_at 2 rfl (by kernel_rfl) (by rfl) (fun K hK => ?_)
      go_simp
      with_reducible refine ((C.neg Rc.out) _).mono ?_
      rintro e vq35 ⟨cq35, rfl, rq35, hbq35⟩
      rw [Hn13.out] at rq35
      have Rq35 := Lib.hid rq35
      clear rq35
      have kbq35 := below_next hS hbq35
      clear hS hbq35
      refine hK.out _ _ (by exact kbq35) (fun hS => ?_)
      clear hK K
      refine call_at 3 rfl (by kernel_rfl) (by rfl) (fun K hK => ?_)
      go_simp
      have kq36 := fun W : World => (C.equal Rq11.out Rq35.out) W
      rw [decide_eq_true (show n10 = n13 from H2.out)] at kq36
      have Kq36 := Lib.hid kq36
      clear kq36
      with_reducible refine (Kq36.out _).mono ?_
      rintro e vq36 ⟨rfl, hbq36⟩
      have kbq36 := below_next kbq35 hbq36
      clear hS hbq36
      refine hK.out _ _ (by exact kbq36) (fun hS => ?_)
      clear hK K
      refine' take_at 4 rfl (by kernel_rfl) (by kernel_rfl) (by kernel_rfl) (fun _ _ _ h => h) (by rfl) hS ?_ ?_ ?_
      rotate_left 2
      · intro W hSW; go_simp; try with_reducible rfl
      · simp only [List.set_cons_succ, List.set_cons_zero]; rfl
      refine wpAnyH_done (by kernel_rfl) ?_ _
      refine NoPanic.normal ?_
      clear hS
      (try simp only [Act.put])
      have HRq37 := Lib.hid (HRq34.out.below kbq36)
      have HBq37 := Lib.hid (below_next HBq34.out kbq36)
      go_upto_region 6 with fail
      refine wp_region_noPanic ?_
      refine wp_region_held_tail (S := fun W => Below vq36.heap.size vq36 W) 3 (by kernel_rfl) ⟨by kernel_rfl, by kernel_rfl, by kernel_rfl, by kernel_rfl⟩ (by exact (Below.refl _ _).drew) (fun hT inv hS => ?_)
      refine' take_atT 0 hT inv rfl (by omega) (by kernel_rfl) (by kernel_rfl) (fun _ _ _ h => h) (by rfl) hS ?_ ?_ ?_
      rotate_left 2
      · intro W hSW; exact run_loadR rfl rfl (HRq37.out.below hSW).tail.head Try.underlying26 rfl (C.base.info Rq6.out)
      · simp only [List.set_cons_succ, List.set_cons_zero]; rfl
      intro inv
      refine call_atT 1 inv rfl (by omega) (by kernel_rfl) (by rfl) (fun K hK => ?_)
      go_simp
      with_reducible refine ((fun W => prootm_any C W) _).mono ?_
      rintro e vq38 ⟨cq38, rfl, rq38, hbq38⟩
      have Rq38 := Lib.hid rq38
      clear rq38
      have kbq38 := below_next hS hbq38
      clear hS hbq38
      refine hK.out _ _ (by exact kbq38) (fun inv hS => ?_)
      clear hK K
      refine call_atT 2 inv rfl (by omega) (by kernel_rfl) (by rfl) (fun K hK => ?_)
      go_simp
      with_reducible refine ((C.mul Rq6.out Rq38.out) _).mono ?_
      rintro e vq39 ⟨cq39, rfl, rq39, hbq39⟩
      rw [Hn14.out] at rq39
      have Rq39 := Lib.hid rq39
      clear rq39
      have kbq39 := below_next kbq38 hbq39
      clear hS hbq39
      refine hK.out _ _ (by exact kbq39) (fun inv hS => ?_)
      clear hK K
      refine done_atT (by kernel_rfl) ?_
      simp only [List.drop_succ_cons, List.drop_zero]
      clear hS
      (try simp only [Act.put])
      have HRq40 := Lib.hid (HRq37.out.below kbq39)
      have HBq40 := Lib.hid (below_next HBq37.out kbq39)
      have lsq41 := HRq40.out.tail.head
      have HRq41 : Hid (RowsW (vq39.setRow gq7 cq39) [(gq12, cq11, 26), (gq7, cq39, 26), ((g0 + 1 + 1), Z, 26), ((g0 + 1), d, 26), (g0, c, 26)]) := Lib.hid ⟨(by rw [setRow_other _ _ _ _ (Ne.symm NEq12_3.out)]; exact HRq40.out.head), setRow_heap _ _ _ _ _ _ lsq41, (by rw [setRow_other _ _ _ _ NEq7_2.out]; exact HRq40.out.tail.tail.head), (by rw [setRow_other _ _ _ _ NEq7_1.out]; exact HRq40.out.tail.tail.tail.head), (by rw [setRow_other _ _ _ _ NEq7_0.out]; exact HRq40.out.tail.tail.tail.tail.head), trivial⟩
      have HBq41 := Lib.hid (below_row (g := gq7) (cs := cq39) HBq40.out HGq7.out)
      go_wp2_with (refine wpList_store_row rfl 26 (.tmp 6) (.tmp 30) rfl gq7 cq39 rfl rfl 26 cq6 lsq41 (C.base.info Rq39.out) (C.base.size Rq6.out Rq39.out) (C.base.one Rq39.out) ?_)
      obtain ⟨Wq41, hWq41⟩ : ∃ W, vq39.setRow gq7 cq39 = W := ⟨_, rfl⟩
      rw [hWq41] at HRq41 HBq41
      (try rw [hWq41])
      clear hWq41 lsq41
      refine NoPanic.normal ?_
      go_upto_region 7 with fail
      obtain ⟨n42, hn42⟩ : ∃ x_ : Nat, (n14 * n14) % PP = x_ := ⟨_, rfl⟩
      have Hn42 := Lib.hid hn42
      have HLn42 : Hid (n42 < PP) := Lib.hid (by rw [← hn42]; exact Nat.mod_lt _ (by decide))
      clear hn42
      by_cases hod : n14 % 2 = 1
      · have HOD := Lib.hid hod
        clear hod
        have l43 := HRq41.out.tail.head
        go_wp2_with (refine wpList_load_row rfl 26 (.tmp 6) rfl gq7 rfl 26 cq39 (0, 0) _ l43 Try.underlying26 rfl (C.base.info Rq39.out) ?_)
        have Ht44 : Hid (decide (n14 % 2 = 1) = true) := Lib.hid (decide_eq_true HOD.out)
        have kq45 := fun W : World => (C.odd Rq39.out) W
        rw [Ht44.out] at kq45
        have Kq45 := Lib.hid kq45
        clear kq45
        with_reducible refine (Kq45.out _).mono ?_
        rintro e vq45 ⟨rfl, hbq45⟩
        have HRq45 := Lib.hid (HRq41.out.below hbq45)
        have HBq45 := Lib.hid (below_next HBq41.out hbq45)
        clear hbq45
        go_upto_region 8 with fail
        have l46 := HRq45.out.tail.head
        go_wp2_with (refine wpList_load_row rfl 26 (.tmp 6) rfl gq7 rfl 26 cq39 (0, 0) _ l46 Try.underlying26 rfl (C.base.info Rq39.out) ?_)
        obtain ⟨n47, hn47⟩ : ∃ x_ : Nat, (PP - n14) % PP = x_ := ⟨_, rfl⟩
        have Hn47 := Lib.hid hn47
        have HLn47 : Hid (n47 < PP) := Lib.hid (by rw [← hn47]; exact Nat.mod_lt _ (by decide))
        clear hn47
        with_reducible refine ((C.neg Rq39.out) _).mono ?_
        rintro e vq48 ⟨cq48, rfl, rq48, hbq48⟩
        rw [Hn47.out] at rq48
        have Rq48 := Lib.hid rq48
        clear rq48
        have HRq48 := Lib.hid (HRq45.out.below hbq48)
        have HBq48 := Lib.hid (below_next HBq45.out hbq48)
        clear hbq48
        have lsq49 := HRq48.out.tail.head
        have HRq49 : Hid (RowsW (vq48.setRow gq7 cq48) [(gq12, cq11, 26), (gq7, cq48, 26), ((g0 + 1 + 1), Z, 26), ((g0 + 1), d, 26), (g0, c, 26)]) := Lib.hid ⟨(by rw [setRow_other _ _ _ _ (Ne.symm NEq12_3.out)]; exact HRq48.out.head), setRow_heap _ _ _ _ _ _ lsq49, (by rw [setRow_other _ _ _ _ NEq7_2.out]; exact HRq48.out.tail.tail.head), (by rw [setRow_other _ _ _ _ NEq7_1.out]; exact HRq48.out.tail.tail.tail.head), (by rw [setRow_other _ _ _ _ NEq7_0.out]; exact HRq48.out.tail.tail.tail.tail.head), trivial⟩
        have HBq49 := Lib.hid (below_row (g := gq7) (cs := cq48) HBq48.out HGq7.out)
        go_upto_region 9 with (refine wpList_store_row rfl 26 (.tmp 6) (.tmp 34) rfl gq7 cq48 rfl rfl 26 cq39 lsq49 (C.base.info Rq48.out) (C.base.size Rq39.out Rq48.out) (C.base.one Rq48.out) ?_)
        obtain ⟨Wq49, hWq49⟩ : ∃ W, vq48.setRow gq7 cq48 = W := ⟨_, rfl⟩
        rw [hWq49] at HRq49 HBq49
        (try rw [hWq49])
        clear hWq49 lsq49
        have l50 := HRq49.out.tail.head
        have lsq51 := HRq49.out.tail.tail.head
        have HRq51 : Hid (RowsW (Wq49.setRow (g0 + 1 + 1) cq48) [(gq12, cq11, 26), (gq7, cq48, 26), ((g0 + 1 + 1), cq48, 26), ((g0 + 1), d, 26), (g0, c, 26)]) := Lib.hid ⟨(by rw [setRow_other _ _ _ _ (Ne.symm NEq12_2.out)]; exact HRq49.out.head), (by rw [setRow_other _ _ _ _ (Ne.symm NEq7_2.out)]; exact HRq49.out.tail.head), setRow_heap _ _ _ _ _ _ lsq51, (by rw [setRow_other _ _ _ _ (by omega)]; exact HRq49.out.tail.tail.tail.head), (by rw [setRow_other _ _ _ _ (by omega)]; exact HRq49.out.tail.tail.tail.tail.head), trivial⟩
        have HBq51 := Lib.hid (below_row (g := (g0 + 1 + 1)) (cs := cq48) HBq49.out (by have := HG0.out; omega))
        go_wp2_with (first
            | (refine wpList_load_row rfl 26 (.tmp 6) rfl gq7 rfl 26 cq48 (0, 0) _ l50 Try.underlying26 rfl (C.base.info Rq48.out) ?_)
            | (refine wpList_store_row rfl 26 (.tmp 4) (.tmp 35) rfl (g0 + 1 + 1) cq48 rfl rfl 26 Z lsq51 (C.base.info Rq48.out) (C.base.size RZZ.out Rq48.out) (C.base.one Rq48.out) ?_))
        obtain ⟨Wq51, hWq51⟩ : ∃ W, Wq49.setRow (g0 + 1 + 1) cq48 = W := ⟨_, rfl⟩
        rw [hWq51] at HRq51 HBq51
        (try rw [hWq51])
        clear hWq51 lsq51
        (try simp only [Exit.inBlock, Exit.then])
        refine bodyPost_ret (results_ct rfl _ _ (g0 + 1 + 1) _ cq48 _ _ (.bool true) rfl rfl HRq51.out.tail.tail.head Try.underlying26 rfl (C.base.info Rq48.out)) rfl ?_
        obtain ⟨e1, e2⟩ := (show ratN u v = fixN n14 ∧ fineN u v = true from ratio_is HUL.out HVL.out HLn14.out (by have h := ratio_second (u := u) (v := v) (r := n5) HUL.out (by rw [Hn8.out, Hn10.out, Hn13.out]; exact H2.out); rw [Hn14.out] at h; exact h) (fun e => by rw [← Hn14.out, HZ0.out e, Nat.zero_mul, Nat.zero_mod]))
        rw [show fixN n14 = n47 by rw [← Hn47.out]; exact fix_odd HOD.out] at e1
        exact ⟨_, by rw [e2], by rw [e1]; exact Rq48.out, HBq51.out⟩
      · have HOD := Lib.hid hod
        clear hod
        have l52 := HRq41.out.tail.head
        go_wp2_with (refine wpList_load_row rfl 26 (.tmp 6) rfl gq7 rfl 26 cq39 (0, 0) _ l52 Try.underlying26 rfl (C.base.info Rq39.out) ?_)
        have Ht53 : Hid (decide (n14 % 2 = 1) = false) := Lib.hid (decide_eq_false HOD.out)
        have kq54 := fun W : World => (C.odd Rq39.out) W
        rw [Ht53.out] at kq54
        have Kq54 := Lib.hid kq54
        clear kq54
        with_reducible refine (Kq54.out _).mono ?_
        rintro e vq54 ⟨rfl, hbq54⟩
        have HRq54 := Lib.hid (HRq41.out.below hbq54)
        have HBq54 := Lib.hid (below_next HBq41.out hbq54)
        clear hbq54
        go_upto_region 9 with fail
        have l55 := HRq54.out.tail.head
        have lsq56 := HRq54.out.tail.tail.head
        have HRq56 : Hid (RowsW (vq54.setRow (g0 + 1 + 1) cq39) [(gq12, cq11, 26), (gq7, cq39, 26), ((g0 + 1 + 1), cq39, 26), ((g0 + 1), d, 26), (g0, c, 26)]) := Lib.hid ⟨(by rw [setRow_other _ _ _ _ (Ne.symm NEq12_2.out)]; exact HRq54.out.head), (by rw [setRow_other _ _ _ _ (Ne.symm NEq7_2.out)]; exact HRq54.out.tail.head), setRow_heap _ _ _ _ _ _ lsq56, (by rw [setRow_other _ _ _ _ (by omega)]; exact HRq54.out.tail.tail.tail.head), (by rw [setRow_other _ _ _ _ (by omega)]; exact HRq54.out.tail.tail.tail.tail.head), trivial⟩
        have HBq56 := Lib.hid (below_row (g := (g0 + 1 + 1)) (cs := cq39) HBq54.out (by have := HG0.out; omega))
        go_wp2_with (first
            | (refine wpList_load_row rfl 26 (.tmp 6) rfl gq7 rfl 26 cq39 (0, 0) _ l55 Try.underlying26 rfl (C.base.info Rq39.out) ?_)
            | (refine wpList_store_row rfl 26 (.tmp 4) (.tmp 35) rfl (g0 + 1 + 1) cq39 rfl rfl 26 Z lsq56 (C.base.info Rq39.out) (C.base.size RZZ.out Rq39.out) (C.base.one Rq39.out) ?_))
        obtain ⟨Wq56, hWq56⟩ : ∃ W, vq54.setRow (g0 + 1 + 1) cq39 = W := ⟨_, rfl⟩
        rw [hWq56] at HRq56 HBq56
        (try rw [hWq56])
        clear hWq56 lsq56
        (try simp only [Exit.inBlock, Exit.then])
        refine bodyPost_ret (results_ct rfl _ _ (g0 + 1 + 1) _ cq39 _ _ (.bool true) rfl rfl HRq56.out.tail.tail.head Try.underlying26 rfl (C.base.info Rq39.out)) rfl ?_
        obtain ⟨e1, e2⟩ := (show ratN u v = fixN n14 ∧ fineN u v = true from ratio_is HUL.out HVL.out HLn14.out (by have h := ratio_second (u := u) (v := v) (r := n5) HUL.out (by rw [Hn8.out, Hn10.out, Hn13.out]; exact H2.out); rw [Hn14.out] at h; exact h) (fun e => by rw [← Hn14.out, HZ0.out e, Nat.zero_mul, Nat.zero_mod]))
        rw [show fixN n14 = n14 from fix_even HOD.out] at e1
        exact ⟨_, by rw [e2], by rw [e1]; exact Rq39.out, HBq56.out⟩
    · have H2 := Lib.hid h2
      clear h2
      refine wp_region_noPanic ?_
      refine wp_region_held_drew (S := fun W => Below vq34.heap.size vq34 W) (by kernel_rfl) (by exact (Below.refl _ _).drew) (fun hS => ?_)
      refine' take_at 0 rfl (by kernel_rfl) (by kernel_rfl) (by kernel_rfl) (fun _ _ _ h => h) (by rfl) hS ?_ ?_ ?_
      rotate_left 2
      · intro W hSW; exact run_loadR rfl rfl (HRq34.out.below hSW).head Try.underlying26 rfl (C.base.info Rq11.out)
      · simp only [List.set_cons_succ, List.set_cons_zero]; rfl
      refine' take_at 1 rfl (by kernel_rfl) (by kernel_rfl) (by kernel_rfl) (fun _ _ _ h => h) (by rfl) hS ?_ ?_ ?_
      rotate_left 2
      · intro W hSW; exact run_loadR rfl rfl (HRq34.out.below hSW).tail.tail.tail.tail.head Try.underlying26 rfl (C.base.info Rc.out)
      · simp only [List.set_cons_succ, List.set_cons_zero]; rfl
      refine call_at 2 rfl (by kernel_rfl) (by rfl) (fun K hK => ?_)
      go_simp
      with_reducible refine ((C.neg Rc.out) _).mono ?_
      rintro e vq57 ⟨cq57, rfl, rq57, hbq57⟩
      rw [Hn13.out] at rq57
      have Rq57 := Lib.hid rq57
      clear rq57
      have kbq57 := below_next hS hbq57
      clear hS hbq57
      refine hK.out _ _ (by exact kbq57) (fun hS => ?_)
      clear hK K
      refine call_at 3 rfl (by kernel_rfl) (by rfl) (fun K hK => ?_)
      go_simp
      have kq58 := fun W : World => (C.equal Rq11.out Rq57.out) W
      rw [decide_eq_false (show ¬ n10 = n13 from H2.out)] at kq58
      have Kq58 := Lib.hid kq58
      clear kq58
      with_reducible refine (Kq58.out _).mono ?_
      rintro e vq58 ⟨rfl, hbq58⟩
      have kbq58 := below_next kbq57 hbq58
      clear hS hbq58
      refine hK.out _ _ (by exact kbq58) (fun hS => ?_)
      clear hK K
      refine' take_at 4 rfl (by kernel_rfl) (by kernel_rfl) (by kernel_rfl) (fun _ _ _ h => h) (by rfl) hS ?_ ?_ ?_
      rotate_left 2
      · intro W hSW; go_simp; try with_reducible rfl
      · simp only [List.set_cons_succ, List.set_cons_zero]; rfl
      refine wpAnyH_done (by kernel_rfl) ?_ _
      refine NoPanic.normal ?_
      clear hS
      (try simp only [Act.put])
      have HRq59 := Lib.hid (HRq34.out.below kbq58)
      have HBq59 := Lib.hid (below_next HBq34.out kbq58)
      go_upto_region 5 with fail
      have lsq60 := HRq59.out.tail.tail.head
      have HRq60 : Hid (RowsW (vq58.setRow (g0 + 1 + 1) Z) [(gq12, cq11, 26), (gq7, cq6, 26), ((g0 + 1 + 1), Z, 26), ((g0 + 1), d, 26), (g0, c, 26)]) := Lib.hid ⟨(by rw [setRow_other _ _ _ _ (Ne.symm NEq12_2.out)]; exact HRq59.out.head), (by rw [setRow_other _ _ _ _ (Ne.symm NEq7_2.out)]; exact HRq59.out.tail.head), setRow_heap _ _ _ _ _ _ lsq60, (by rw [setRow_other _ _ _ _ (by omega)]; exact HRq59.out.tail.tail.tail.head), (by rw [setRow_other _ _ _ _ (by omega)]; exact HRq59.out.tail.tail.tail.tail.head), trivial⟩
      have HBq60 := Lib.hid (below_row (g := (g0 + 1 + 1)) (cs := Z) HBq59.out (by have := HG0.out; omega))
      go_wp2_with (first
          | (refine wpList_runs (o := ⟨some 27, _, _, _, _, _⟩) rfl (.agg Z) (build_zero hZ) ?_)
          | (refine wpList_store_row rfl 26 (.tmp 4) (.tmp 27) rfl (g0 + 1 + 1) Z rfl rfl 26 Z lsq60 (C.base.info RZZ.out) (C.base.size RZZ.out RZZ.out) (C.base.one RZZ.out) ?_))
      obtain ⟨Wq60, hWq60⟩ : ∃ W, vq58.setRow (g0 + 1 + 1) Z = W := ⟨_, rfl⟩
      rw [hWq60] at HRq60 HBq60
      (try rw [hWq60])
      clear hWq60 lsq60
      (try simp only [Exit.inBlock, Exit.then])
      refine bodyPost_ret (results_ct rfl _ _ (g0 + 1 + 1) _ Z _ _ (.bool false) rfl rfl HRq60.out.tail.tail.head Try.underlying26 rfl (C.base.info RZZ.out)) rfl ?_
      obtain ⟨e1, e2⟩ := ratio_none HUL.out HVL.out HF.out HLn10.out H1.out (by rw [Hn13.out]; exact H2.out)
      exact ⟨_, by rw [e2], by rw [e1]; exact RZZ.out, HBq60.out⟩
end Go.Proofs.Ytfejabfmhddepaa

namespace Go.Proofs.Ytfejabfmhddepaa
open Go.RowKit
set_option linter.unusedVariables false
set_option maxRecDepth 100000

theorem fePC : FePC feR where
  base := feB
  from_ := fefrom_any
  small := fesmall_any
  mul := femul_any
  square := fesquare_any
  neg := feneg_any
  equal := feequal_any
  odd := feodd_any
end Go.Proofs.Ytfejabfmhddepaa

