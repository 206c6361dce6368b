/- The contracts of the developers' order, rests, next and reduced of package scalar. Written by wip/tools/mk_scal11.py. -/
import Derived.Test.YtmmfbbbljhifjaaScB
import Derived.Test.YtmmfbbbljhifjaaGheld
namespace Go.Proofs.Ytmmfbbbljhifjaa
open Go.RowKit
set_option linter.unusedVariables false
set_option maxRecDepth 100000

theorem or_high (p z k : Nat) (hp : p < 2 ^ k) (hp2 : p < 18446744073709551616) (hm : 2 ^ k * z < 18446744073709551616) : bits .or .u64 ((2 ^ k * z : Nat) : Int) (p : Int) = ((p + 2 ^ k * z : Nat) : Int) := by
  rw [u64_or_nat (2 ^ k * z) p hm hp2, ← Nat.two_pow_add_eq_or_of_lt hp, Nat.add_comm]
theorem and60 (n : Nat) (h : n < 18446744073709551616) : bits .and .u64 (n : Int) 1152921504606846975 = ((n % 1152921504606846976 : Nat) : Int) := by
  have h := u64_and_nat n 1152921504606846975 h (by omega)
  rw [show (1152921504606846975 : Nat) = 2 ^ 60 - 1 by decide, Nat.and_two_pow_sub_one_eq_mod] at h
  exact h
theorem wd4_zeroL (u : World) : (zeroValue 38).run Try.prog u = .ok (.agg #[.int .u64 0, .int .u64 0, .int .u64 0, .int .u64 0]) u := wd4_zero u
theorem sc_order_row : #[Value.int .u64 6346243789798364141, .int .u64 1503914060200516822, .int .u64 0, .int .u64 1152921504606846976] = wdW 4 LL :=
  four_row 6346243789798364141 1503914060200516822 0 1152921504606846976 LL (by decide) (by decide) (by decide) (by decide) (by decide)

set_option maxHeartbeats 1600000 in
theorem scorder_any (w : World) : Calls Try.prog 24 #[] w (RetV w (.agg (wdW 4 LL))) := by
  have hz4 := wd4_zeroL
  rw [← sc_order_row]
  go_enter Try.func24, Try.ntmps24
  go_wp2
  refine bodyPost_ret (v := .agg #[.int .u64 6346243789798364141, .int .u64 1503914060200516822, .int .u64 0, .int .u64 1152921504606846976]) (by simp [results, Try.results24, go_sem]) rfl ⟨rfl, ?_⟩
  exact (Below.refl _ _).alloc (Nat.le_refl _) _

set_option maxHeartbeats 3200000 in
theorem screst_any (q : Nat) (hq : q < 68719476736) (w : World) : Calls Try.prog 36 #[.int .u64 (q : Int)] w (RetV w (.agg (wdW 4 (q * R11)))) := by
  have hz4 := wd4_zeroL
  obtain ⟨u, l, M0, m0, p0, q0⟩ := mul_ex q 6346243789798364141 (by omega) (by omega)
  obtain ⟨t, v, M1, m1, p1, q1⟩ := mul_ex q 1503914060200516822 (by omega) (by omega)
  obtain ⟨z, d, s, e, lz⟩ := add_ex v u 0 (by omega)
  have hf : IntKind.u64.wrap ((t : Int) + (d : Int)) = ((t + d : Nat) : Int) := by rw [IntKind.wrap_u64]; omega
  have hrow := four_row l z (t + d) 0 (q * R11) (by unfold Q64; omega) (by unfold Q64; omega) (by unfold Q64; omega) (by decide) (by unfold Q64 R11; omega)
  rw [← hrow]
  have HM0 : Hid (∀ w : World, Calls Try.prog 38 #[.int .u64 (q : Int), .int .u64 6346243789798364141] w fun e w' => e = .returned (.tuple #[.int .u64 (u : Int), .int .u64 (l : Int)]) ∧ w' = w) := M0
  have HM1 : Hid (∀ w : World, Calls Try.prog 38 #[.int .u64 (q : Int), .int .u64 1503914060200516822] w fun e w' => e = .returned (.tuple #[.int .u64 (t : Int), .int .u64 (v : Int)]) ∧ w' = w) := M1
  simp only [Int.ofNat_zero] at s
  generalize t + d = td at *
  clear m0 m1 e lz M0 M1 hrow hq p0 q0 p1 q1
  go_enter Try.func36, Try.ntmps36
  go_wp2_with fail
  with_reducible refine (HM0.out _).mono ?_
  rintro e w' ⟨rfl, rfl⟩
  go_wp2_with fail
  with_reducible refine (HM1.out _).mono ?_
  rintro e w' ⟨rfl, rfl⟩
  go_wp2
  refine bodyPost_ret (v := .agg #[.int .u64 (l : Int), .int .u64 (z : Int), .int .u64 (td : Int), .int .u64 0]) (by simp [results, Try.results36, go_sem]) rfl ⟨rfl, ?_⟩
  exact (Below.refl _ _).alloc (Nat.le_refl _) _

set_option maxHeartbeats 6400000 in
theorem scnext_any (n v : Nat) (hn : n < LL) (hv : v < 4294967296) (w : World) : Calls Try.prog 34 #[.agg (wdW 4 n), .int .u32 (v : Int)] w (RetV w (.agg (wdW 4 ((n * 2 ^ 32 + v) % LL)))) := by
  have hz4 := wd4_zeroL
  obtain ⟨Sn, qn, On, i1, i2, i3, i4, hOl, hO, e1, e2⟩ := next_ex hn hv
  rw [hO]
  have iO := wd4_info On
  have oO := wdW_one 4 On
  have sO : (#[.int .u64 0, .int .u64 0, .int .u64 0, .int .u64 0] : Array Value).size = (wdW 4 On).size := by rw [wdW_size]; rfl
  rw [wdW_four n]
  have h0 := wq_lt n 0
  have h1 := wq_lt n 1
  have h2 := wq_lt n 2
  have h3 := wq_lt n 3
  generalize wq n 0 = n0 at *
  generalize wq n 1 = n1 at *
  generalize wq n 2 = n2 at *
  generalize wq n 3 = n3 at *
  unfold Q64 at h0 h1 h2 h3
  have HREST := Lib.hid fun W : World => screst_any (n3 / 268435456) (by omega) W
  have HMIN : Hid (∀ W : World, Calls Try.prog 27 #[.agg (wdW 4 Sn), .agg (wdW 4 (n3 / 268435456 * R11))] W (RetV W (.tuple #[.agg (wdW 4 ((Sn + (Q4 - n3 / 268435456 * R11)) % Q4)), .bool (decide (Sn < n3 / 268435456 * R11))]))) := Lib.hid fun W => scminus_any _ _ (Nat.lt_trans i2 (by decide)) (by rw [e2]; exact Nat.lt_trans i1 (by decide)) W
  have HPLUS : Hid (∀ W : World, Sn < qn * R11 → Calls Try.prog 37 #[.agg (wdW 4 ((Sn + (Q4 - qn * R11)) % Q4)), .agg (wdW 4 LL)] W (RetV W (.agg (wdW 4 On)))) := Lib.hid fun W h => by
    have hm : (Sn + (Q4 - qn * R11)) % Q4 < Q4 := Nat.mod_lt _ (by decide)
    have e := min_less i2 i1 h (i3 h) hOl
    have := scplus_any ((Sn + (Q4 - qn * R11)) % Q4) LL hm (by decide) W
    rwa [e] at this
  have HELSE : Hid (¬ Sn < qn * R11 → wdW 4 ((Sn + (Q4 - qn * R11)) % Q4) = wdW 4 On) := Lib.hid fun h => by
    rw [min_else i2 i1 h (i4 h)]
  have HORD := Lib.hid fun W : World => scorder_any W
  rw [e2] at HREST HMIN
  obtain ⟨dd, hdd⟩ : ∃ d, wdW 4 ((Sn + (Q4 - qn * R11)) % Q4) = d := ⟨_, rfl⟩
  have iD : (Try.prog.info? 38).map (·.size) = some dd.size := by rw [← hdd]; exact wd4_info _
  have sD : (#[.int .u64 0, .int .u64 0, .int .u64 0, .int .u64 0] : Array Value).size = dd.size := by rw [← hdd, wdW_size]; rfl
  have oD : dd.all (·.oneCell') = true := by rw [← hdd]; exact wdW_one _ _
  have sDO : dd.size = (wdW 4 On).size := by rw [← hdd, wdW_size, wdW_size]
  rw [hdd] at HMIN HPLUS HELSE
  have hrow := four_row (v + 2 ^ 32 * (n0 % 4294967296)) (n0 / 4294967296 + 2 ^ 32 * (n1 % 4294967296)) (n1 / 4294967296 + 2 ^ 32 * (n2 % 4294967296)) (n2 / 4294967296 + 2 ^ 32 * (n3 % 268435456)) Sn (by unfold Q64; omega) (by unfold Q64; omega) (by unfold Q64; omega) (by unfold Q64; omega) e1
  have a3 := and60 (2 ^ 32 * (n3 % 4294967296)) (by omega)
  rw [show 2 ^ 32 * (n3 % 4294967296) % 1152921504606846976 = 2 ^ 32 * (n3 % 268435456) by omega] at a3
  have r0 := or_high v (n0 % 4294967296) 32 (by omega) (by omega) (by omega)
  have r1 := or_high (n0 / 4294967296) (n1 % 4294967296) 32 (by omega) (by omega) (by omega)
  have r2 := or_high (n1 / 4294967296) (n2 % 4294967296) 32 (by omega) (by omega) (by omega)
  have r3 := or_high (n2 / 4294967296) (n3 % 268435456) 32 (by omega) (by omega) (by omega)
  have d0 : (n0 : Int) / 4294967296 = ((n0 / 4294967296 : Nat) : Int) := by omega
  have d1 : (n1 : Int) / 4294967296 = ((n1 / 4294967296 : Nat) : Int) := by omega
  have d2 : (n2 : Int) / 4294967296 = ((n2 / 4294967296 : Nat) : Int) := by omega
  have d3 : (n3 : Int) / 268435456 = (qn : Int) := by omega
  have m0 : IntKind.u64.wrap ((n0 : Int) * 4294967296) = ((2 ^ 32 * (n0 % 4294967296) : Nat) : Int) := by rw [IntKind.wrap_u64]; omega
  have m1 : IntKind.u64.wrap ((n1 : Int) * 4294967296) = ((2 ^ 32 * (n1 % 4294967296) : Nat) : Int) := by rw [IntKind.wrap_u64]; omega
  have m2 : IntKind.u64.wrap ((n2 : Int) * 4294967296) = ((2 ^ 32 * (n2 % 4294967296) : Nat) : Int) := by rw [IntKind.wrap_u64]; omega
  have m3 : IntKind.u64.wrap ((n3 : Int) * 4294967296) = ((2 ^ 32 * (n3 % 4294967296) : Nat) : Int) := by rw [IntKind.wrap_u64]; omega
  have v0 : IntKind.u64.wrap (v : Int) = (v : Int) := by rw [IntKind.wrap_u64]; omega
  clear e1 e2 i1 i2 i3 i4 hO hOl
  generalize v + 2 ^ 32 * (n0 % 4294967296) = o0 at *
  generalize n0 / 4294967296 + 2 ^ 32 * (n1 % 4294967296) = o1 at *
  generalize n1 / 4294967296 + 2 ^ 32 * (n2 % 4294967296) = o2 at *
  generalize n2 / 4294967296 + 2 ^ 32 * (n3 % 268435456) = o3 at *
  generalize 2 ^ 32 * (n0 % 4294967296) = s0 at *
  generalize 2 ^ 32 * (n1 % 4294967296) = s1 at *
  generalize 2 ^ 32 * (n2 % 4294967296) = s2 at *
  generalize 2 ^ 32 * (n3 % 4294967296) = s3 at *
  generalize 2 ^ 32 * (n3 % 268435456) = s4 at *
  generalize n0 / 4294967296 = y0 at *
  generalize n1 / 4294967296 = y1 at *
  generalize n2 / 4294967296 = y2 at *
  have iS : (Try.prog.info? 38).map (·.size) = some (#[.int .u64 (o0 : Int), .int .u64 (o1 : Int), .int .u64 (o2 : Int), .int .u64 (o3 : Int)] : Array Value).size := by kernel_rfl
  have sS : (#[.int .u64 0, .int .u64 0, .int .u64 0, .int .u64 0] : Array Value).size = (#[.int .u64 (o0 : Int), .int .u64 (o1 : Int), .int .u64 (o2 : Int), .int .u64 (o3 : Int)] : Array Value).size := rfl
  have oS : (#[.int .u64 (o0 : Int), .int .u64 (o1 : Int), .int .u64 (o2 : Int), .int .u64 (o3 : Int)] : Array Value).all (·.oneCell') = true := by simp [Value.oneCell']
  have iSW := wd4_info Sn
  generalize wdW 4 Sn = SW at *
  generalize wdW 4 On = OUT at *
  obtain ⟨bb, hbb⟩ : ∃ b, decide (Sn < qn * R11) = b := ⟨_, rfl⟩
  rw [hbb] at HMIN
  have HBB := Lib.hid hbb
  have HROW := Lib.hid hrow
  have KiD := Lib.hid iD
  have KsD := Lib.hid sD
  have KoD := Lib.hid oD
  have KsDO := Lib.hid sDO
  have KiO := Lib.hid iO
  have KsO := Lib.hid sO
  have KoO := Lib.hid oO
  clear h0 h1 h2 h3 hbb hrow hdd hn hv iD sD oD sDO iO sO oO
  have hr0 : RowsW (((w.alloc (.cells #[.int .u64 (n0 : Int), .int .u64 (n1 : Int), .int .u64 (n2 : Int), .int .u64 (n3 : Int)] 38)).alloc (.cells #[.int .u64 0, .int .u64 0, .int .u64 0, .int .u64 0] 38)).alloc (.cells #[.int .u64 0, .int .u64 0, .int .u64 0, .int .u64 0] 38)) [(w.heap.size + 1 + 1, #[.int .u64 0, .int .u64 0, .int .u64 0, .int .u64 0], 38), (w.heap.size + 1, #[.int .u64 0, .int .u64 0, .int .u64 0, .int .u64 0], 38), (w.heap.size, #[.int .u64 (n0 : Int), .int .u64 (n1 : Int), .int .u64 (n2 : Int), .int .u64 (n3 : Int)], 38)] := by
    have h := (((RowsW.nil w).box #[.int .u64 (n0 : Int), .int .u64 (n1 : Int), .int .u64 (n2 : Int), .int .u64 (n3 : Int)] 38).box #[.int .u64 0, .int .u64 0, .int .u64 0, .int .u64 0] 38).box #[.int .u64 0, .int .u64 0, .int .u64 0, .int .u64 0] 38
    (try simp only [World.size_alloc] at h)
    exact h
  have hb0 : Below w.heap.size w (((w.alloc (.cells #[.int .u64 (n0 : Int), .int .u64 (n1 : Int), .int .u64 (n2 : Int), .int .u64 (n3 : Int)] 38)).alloc (.cells #[.int .u64 0, .int .u64 0, .int .u64 0, .int .u64 0] 38)).alloc (.cells #[.int .u64 0, .int .u64 0, .int .u64 0, .int .u64 0] 38)) := below_alloc (below_alloc (below_alloc (Below.refl _ _) _) _) _
  have HR0 := Lib.hid hr0
  have HB0 := Lib.hid hb0
  clear hr0 hb0
  have h3 := HR0.out.head
  go_enter Try.func34, Try.ntmps34
  go_upto_region 3 with (refine wpList_store_row rfl 38 (.tmp 6) (.tmp 40) rfl (w.heap.size + 1 + 1) #[.int .u64 (o0 : Int), .int .u64 (o1 : Int), .int .u64 (o2 : Int), .int .u64 (o3 : Int)] rfl rfl 38 #[.int .u64 0, .int .u64 0, .int .u64 0, .int .u64 0] h3 iS sS oS ?_)
  rw [HROW.out]
  have HR1 : Hid (RowsW ((((w.alloc (.cells #[.int .u64 (n0 : Int), .int .u64 (n1 : Int), .int .u64 (n2 : Int), .int .u64 (n3 : Int)] 38)).alloc (.cells #[.int .u64 0, .int .u64 0, .int .u64 0, .int .u64 0] 38)).alloc (.cells #[.int .u64 0, .int .u64 0, .int .u64 0, .int .u64 0] 38)).setRow (w.heap.size + 1 + 1) SW) [(w.heap.size + 1 + 1, SW, 38), (w.heap.size + 1, #[.int .u64 0, .int .u64 0, .int .u64 0, .int .u64 0], 38)]) := Lib.hid ⟨setRow_heap _ _ _ _ _ _ h3, by rw [setRow_other _ _ _ _ (by omega)]; exact HR0.out.tail.head, trivial⟩
  have HB1 : Hid (Below w.heap.size w ((((w.alloc (.cells #[.int .u64 (n0 : Int), .int .u64 (n1 : Int), .int .u64 (n2 : Int), .int .u64 (n3 : Int)] 38)).alloc (.cells #[.int .u64 0, .int .u64 0, .int .u64 0, .int .u64 0] 38)).alloc (.cells #[.int .u64 0, .int .u64 0, .int .u64 0, .int .u64 0] 38)).setRow (w.heap.size + 1 + 1) SW)) := Lib.hid (below_row HB0.out (by omega))
  obtain ⟨W1, hW1⟩ : ∃ W, (((w.alloc (.cells #[.int .u64 (n0 : Int), .int .u64 (n1 : Int), .int .u64 (n2 : Int), .int .u64 (n3 : Int)] 38)).alloc (.cells #[.int .u64 0, .int .u64 0, .int .u64 0, .int .u64 0] 38)).alloc (.cells #[.int .u64 0, .int .u64 0, .int .u64 0, .int .u64 0] 38)).setRow (w.heap.size + 1 + 1) SW = W := ⟨_, rfl⟩
  rw [hW1] at HR1 HB1
  rw [hW1]
  obtain ⟨g, hg⟩ : ∃ g, w.heap.size = g := ⟨_, rfl⟩
  rw [hg] at HR1
  rw [hg]
  have HG := Lib.hid hg
  clear hg hW1 h3 HR0 HB0 r0 r1 r2 r3 d0 d1 d2 d3 m0 m1 m2 m3 a3 v0 HROW iS sS oS
  refine wp_region_noPanic ?_
  refine wp_region_heldB 7 7 38 #[.int .u64 0, .int .u64 0, .int .u64 0, .int .u64 0] (by kernel_rfl) (by kernel_rfl) ⟨by kernel_rfl, by kernel_rfl, wd4_zeroL, fun _ _ _ h => h⟩ (fun hA hS => ?_)
  refine' take_atB 0 hA rfl (by kernel_rfl) (by kernel_rfl) (by kernel_rfl) (by kernel_rfl) (by kernel_rfl) (by rfl) (by rfl) hS ?_ ?_ ?_
  rotate_left 2
  · intro W hSW; exact run_loadR rfl rfl ((HR1.out.below hSW).head) Try.underlying38 rfl iSW
  · simp only [List.set_cons_succ, List.set_cons_zero]; rfl
  refine' take_atB 1 hA rfl (by kernel_rfl) (by kernel_rfl) (by kernel_rfl) (by kernel_rfl) (by kernel_rfl) (by rfl) (by rfl) hS ?_ ?_ ?_
  rotate_left 2
  · intro W hSW; go_simp; try with_reducible rfl
  · simp only [List.set_cons_succ, List.set_cons_zero]; rfl
  refine call_atB 2 hA rfl (by kernel_rfl) (by kernel_rfl) (by kernel_rfl) (by kernel_rfl) (by rfl) (by rfl) hS (fun oq Wq hS K hK => ?_)
  go_simp
  with_reducible refine (HREST.out Wq).mono ?_
  rintro e uq ⟨rfl, hbq⟩
  refine hK.out _ _ hbq (fun hS => ?_)
  clear hK K hbq
  refine call_atB 3 hA rfl (by kernel_rfl) (by kernel_rfl) (by kernel_rfl) (by kernel_rfl) (by rfl) (by rfl) hS (fun oq Wq hS K hK => ?_)
  go_simp
  with_reducible refine (HMIN.out Wq).mono ?_
  rintro e uq ⟨rfl, hbq⟩
  refine hK.out _ _ hbq (fun hS => ?_)
  clear hK K hbq
  refine' take_atB 4 hA rfl (by kernel_rfl) (by kernel_rfl) (by kernel_rfl) (by kernel_rfl) (by kernel_rfl) (by rfl) (by rfl) hS ?_ ?_ ?_
  rotate_left 2
  · intro W hSW; go_simp; try with_reducible rfl
  · simp only [List.set_cons_succ, List.set_cons_zero]; rfl
  refine' take_atB 5 hA rfl (by kernel_rfl) (by kernel_rfl) (by kernel_rfl) (by kernel_rfl) (by kernel_rfl) (by rfl) (by rfl) hS ?_ ?_ ?_
  rotate_left 2
  · intro W hSW; go_simp; try with_reducible rfl
  · simp only [List.set_cons_succ, List.set_cons_zero]; rfl
  refine' take_atB 6 hA rfl (by kernel_rfl) (by kernel_rfl) (by kernel_rfl) (by kernel_rfl) (by kernel_rfl) (by rfl) (by rfl) hS ?_ ?_ ?_
  rotate_left 2
  · intro W hSW; go_simp; try with_reducible rfl
  · simp only [List.set_cons_succ, List.set_cons_zero]; rfl
  refine' store_atB 8 hA rfl (by kernel_rfl) (by kernel_rfl) (by kernel_rfl) hS (by kernel_rfl) rfl (by intro h; cases h) KiD.out KsD.out KoD.out ?_ ?_
  rotate_left 1
  · intro g; simp only [List.set_cons_succ, List.set_cons_zero]; rfl
  intro gq Wq hgq hbq hrowq
  clear hA hS
  refine' take_at 9 rfl (by kernel_rfl) (by kernel_rfl) (by kernel_rfl) (fun _ _ _ h => h) (by rfl) hbq ?_ ?_ ?_
  rotate_left 2
  · intro W hSW; go_simp; try with_reducible rfl
  · simp only [List.set_cons_succ, List.set_cons_zero]; rfl
  refine wpAnyH_done (by kernel_rfl) ?_ _
  refine NoPanic.normal ?_
  (try simp only [Act.put])
  have HRq : Hid (RowsW Wq [(gq, dd, 38), (g + 1 + 1, SW, 38), (g + 1, #[.int .u64 0, .int .u64 0, .int .u64 0, .int .u64 0], 38)]) := Lib.hid ⟨hrowq, HR1.out.below hbq⟩
  have HBq := Lib.hid (below_next HB1.out hbq)
  have HGQ : Hid (W1.heap.size ≤ gq) := Lib.hid hgq
  have HGS : Hid (g + 1 + 1 < W1.heap.size) := Lib.hid (Array.getElem?_eq_some_iff.1 HR1.out.head).1
  clear hgq hbq hrowq HREST HMIN HR1 HB1
  have hgg : w.heap.size ≤ gq := by rw [HG.out]; have := HGQ.out; have := HGS.out; omega
  have hgn : gq ≠ g + 1 := by have := HGQ.out; have := HGS.out; omega
  have HGG := Lib.hid hgg
  have HGN := Lib.hid hgn
  clear hgg hgn
  by_cases hlt : Sn < qn * R11
  · have e0 : bb = true := by rw [← HBB.out]; exact decide_eq_true hlt
    subst e0
    have HP := Lib.hid fun W : World => HPLUS.out W hlt
    clear hlt HPLUS HELSE HBB
    go_upto_region 5 with fail
    refine wp_region_noPanic ?_
    refine wp_region_held_tail (S := fun W => Below Wq.heap.size Wq W) 2 (by kernel_rfl) ⟨by kernel_rfl, by kernel_rfl, by kernel_rfl, by kernel_rfl⟩ (by exact (Below.refl _ _).drew) (fun hT inv hS => ?_)
    refine' take_atT 0 hT inv rfl (by omega) (by kernel_rfl) (by kernel_rfl) (fun _ _ _ h => h) (by rfl) hS ?_ ?_ ?_
    rotate_left 2
    · intro W hSW; exact run_loadR rfl rfl ((HRq.out.below hSW).head) Try.underlying38 rfl KiD.out
    · simp only [List.set_cons_succ, List.set_cons_zero]; rfl
    intro inv
    refine call_atT 1 inv rfl (by omega) (by kernel_rfl) (by rfl) (fun K hK => ?_)
    go_simp
    with_reducible refine (HORD.out _).mono ?_
    rintro e u1 ⟨rfl, hb1⟩
    have kb1 := below_next hS hb1
    clear hS hb1
    refine hK.out _ _ (by exact kb1) (fun inv hS => ?_)
    clear hK K
    refine done_atT (by kernel_rfl) ?_
    simp only [List.drop_succ_cons, List.drop_zero]
    clear hS
    (try simp only [Act.put])
    have HR2 := Lib.hid (HRq.out.below kb1)
    have HB2 := Lib.hid (below_next HBq.out kb1)
    clear kb1
    go_wp2_with fail
    with_reducible refine (HP.out _).mono ?_
    rintro e w2 ⟨rfl, hb2⟩
    have HR3 := Lib.hid (HR2.out.below hb2)
    have HB3 := Lib.hid (below_next HB2.out hb2)
    clear hb2 HR2 HB2
    have hr3 := HR3.out.head
    go_wp2_with (refine wpList_store_row rfl 38 (.tmp 7) (.tmp 51) rfl gq OUT rfl rfl 38 dd hr3 KiO.out KsDO.out KoO.out ?_)
    have HR4 : Hid (RowsW (w2.setRow gq OUT) [(gq, OUT, 38), (g + 1, #[.int .u64 0, .int .u64 0, .int .u64 0, .int .u64 0], 38)]) := Lib.hid ⟨setRow_heap _ _ _ _ _ _ hr3, by rw [setRow_other _ _ _ _ (Ne.symm HGN.out)]; exact HR3.out.tail.tail.head, trivial⟩
    have HB4 : Hid (Below w.heap.size w (w2.setRow gq OUT)) := Lib.hid (below_row HB3.out HGG.out)
    obtain ⟨W4, hW4⟩ : ∃ W, w2.setRow gq OUT = W := ⟨_, rfl⟩
    rw [hW4] at HR4 HB4
    rw [hW4]
    clear hW4 hr3 HR3 HB3
    (try refine NoPanic.normal ?_)
    have h4 := HR4.out.head
    have h5 := HR4.out.tail.head
    have HE : Hid (Below w.heap.size w (W4.setRow (g + 1) OUT)) := Lib.hid (below_row HB4.out (by rw [HG.out]; omega))
    go_wp2_with (first
      | (refine wpList_load_row rfl 38 (.tmp 7) rfl gq rfl 38 OUT (0, 0) _ h4 Try.underlying38 rfl KiO.out ?_)
      | (refine wpList_store_row rfl 38 (.tmp 4) (.tmp 52) rfl (g + 1) OUT rfl rfl 38 #[.int .u64 0, .int .u64 0, .int .u64 0, .int .u64 0] h5 KiO.out KsO.out KoO.out ?_))
    (try simp only [Exit.inBlock, Exit.then])
    refine bodyPost_ret (results_cell_row rfl _ _ (g + 1) _ OUT _ _ rfl (setRow_heap _ _ _ _ _ _ h5) Try.underlying38 rfl KiO.out) rfl ?_
    exact ⟨rfl, HE.out⟩
  · have e0 : bb = false := by rw [← HBB.out]; exact decide_eq_false hlt
    subst e0
    have hde := HELSE.out hlt
    subst hde
    clear hlt HPLUS HELSE HBB
    have h4 := HRq.out.head
    have h5 := HRq.out.tail.tail.head
    have HE : Hid (Below w.heap.size w (Wq.setRow (g + 1) dd)) := Lib.hid (below_row HBq.out (by rw [HG.out]; omega))
    go_wp2_with (first
      | (refine wpList_load_row rfl 38 (.tmp 7) rfl gq rfl 38 dd (0, 0) _ h4 Try.underlying38 rfl KiO.out ?_)
      | (refine wpList_store_row rfl 38 (.tmp 4) (.tmp 52) rfl (g + 1) dd rfl rfl 38 #[.int .u64 0, .int .u64 0, .int .u64 0, .int .u64 0] h5 KiO.out KsO.out KoO.out ?_))
    (try simp only [Exit.inBlock, Exit.then])
    refine bodyPost_ret (results_cell_row rfl _ _ (g + 1) _ dd _ _ rfl (setRow_heap _ _ _ _ _ _ h5) Try.underlying38 rfl KiO.out) rfl ?_
    exact ⟨rfl, HE.out⟩

set_option maxHeartbeats 6400000 in
theorem screduced_any (n : Nat) (hn : n < Q64 ^ 8) (w : World) : Calls Try.prog 30 #[.agg (wdW 8 n)] w (RetV w (.agg (wdW 4 (n % LL)))) := by
  have hz4 := wd4_zero
  have HN8 : Hid (∀ d, d < 8 → (wdW 8 n)[d]? = some (.int .u64 (wq n d : Int))) := Lib.hid fun d h => wdW_get 8 n d h
  have HZ0 : Hid (wdW 4 0 = wdW 4 (n / Q64 ^ 8 % LL)) := Lib.hid (by rw [Nat.div_eq_of_lt hn]; rfl)
  have HE0 : Hid (wdW 4 (n / Q64 ^ 0 % LL) = wdW 4 (n % LL)) := Lib.hid (by rw [Nat.pow_zero, Nat.div_one])
  have iO := wd4_info (n % LL)
  have oO := wdW_one 4 (n % LL)
  have sO : (wdW 4 0).size = (wdW 4 (n % LL)).size := by rw [wdW_size, wdW_size]
  generalize wdW 4 (n % LL) = OUT at *
  generalize wdW 8 n = N8 at *
  generalize wdW 4 0 = z4 at *
  clear hn
  have hr0 : RowsW (((w.alloc (.cells N8 48)).alloc (.cells z4 38)).alloc (.cells z4 38)) [(w.heap.size + 1 + 1, z4, 38), (w.heap.size + 1, z4, 38), (w.heap.size, N8, 48)] := by
    have h := (((RowsW.nil w).box N8 48).box z4 38).box z4 38
    (try simp only [World.size_alloc] at h)
    exact h
  have hb0 : Below w.heap.size w (((w.alloc (.cells N8 48)).alloc (.cells z4 38)).alloc (.cells z4 38)) := below_alloc (below_alloc (below_alloc (Below.refl _ _) _) _) _
  have HR0 := Lib.hid hr0
  have HB0 := Lib.hid hb0
  clear hr0 hb0
  go_enter Try.func30, Try.ntmps30
  go_wp2_with fail
  obtain ⟨W1, hW1⟩ : ∃ W, (((w.alloc (.cells N8 48)).alloc (.cells z4 38)).alloc (.cells z4 38)) = W := ⟨_, rfl⟩
  rw [hW1] at HR0 HB0
  rw [hW1]
  obtain ⟨g, hg⟩ : ∃ g, w.heap.size = g := ⟨_, rfl⟩
  rw [hg] at HR0
  rw [hg]
  have HG := Lib.hid hg
  clear hg
  clear hW1
  have HI : Hid (Lp w W1 (g + 1 + 1) (wdW 4 (n / Q64 ^ 8 % LL)) 38 [(g + 1, z4, 38), (g, N8, 48)]) := Lib.hid ⟨by rw [← HZ0.out]; exact HR0.out, by rw [HG.out]; omega, by simp; omega, HB0.out⟩
  clear HR0 HB0 HZ0
  go_loopw [4] (fun i_ wr => ∃ k : Nat, k ≤ 8 ∧ i_ = .int .i64 ((k : Int) - 1) ∧ Hid (Lp w wr (g + 1 + 1) (wdW 4 (n / Q64 ^ k % LL)) 38 [(g + 1, z4, 38), (g, N8, 48)])) (fun i_ _ => (intOf i_ + 1).toNat)
  case atStart => exact ⟨8, by omega, by rfl, HI⟩
  case round =>
    clear HI
    obtain ⟨k, hk, rfl, HI⟩ := hrel
    by_cases hlt : 0 < k
    · obtain ⟨j, rfl⟩ : ∃ j, k = j + 1 := ⟨k - 1, by omega⟩
      have ej : ((j + 1 : Nat) : Int) - 1 = (j : Int) := by omega
      rw [ej]
      have hw := wq_lt n j
      have HNX := Lib.hid (round_is n j)
      have hA : n / Q64 ^ (j + 1) % LL < LL := Nat.mod_lt _ (by decide)
      unfold Q64 at hw
      generalize hx : wq n j = x at *
      have w1 : IntKind.u32.wrap ((x : Int) / 4294967296) = ((x / 4294967296 : Nat) : Int) := by rw [IntKind.wrap_u32]; omega
      have w2 : (x : Int) % 4294967296 = ((x % 4294967296 : Nat) : Int) := by omega
      have HN1 : Hid (∀ W : World, Calls Try.prog 34 #[.agg (wdW 4 (n / Q64 ^ (j + 1) % LL)), .int .u32 (IntKind.u32.wrap ((x : Int) / 4294967296))] W (RetV W (.agg (wdW 4 ((n / Q64 ^ (j + 1) % LL * 2 ^ 32 + x / 4294967296) % LL))))) := Lib.hid fun W => by rw [w1]; exact scnext_any _ _ hA (by omega) W
      have HN2 : Hid (∀ W : World, Calls Try.prog 34 #[.agg (wdW 4 ((n / Q64 ^ (j + 1) % LL * 2 ^ 32 + x / 4294967296) % LL)), .int .u32 ((x : Int) % 4294967296)] W (RetV W (.agg (wdW 4 (n / Q64 ^ j % LL))))) := Lib.hid fun W => by
        rw [w2]
        have := scnext_any ((n / Q64 ^ (j + 1) % LL * 2 ^ 32 + x / 4294967296) % LL) (x % 4294967296) (Nat.mod_lt _ (by decide)) (by omega) W
        rw [HNX.out] at this
        exact this
      have HX : Hid (∀ W : World, Below wr.heap.size wr W → W.cell? ⟨g, j, none⟩ = some (.int .u64 (x : Int))) := Lib.hid fun W hb => by
        have h := (HI.out.rows.below hb).tail.tail.head
        rw [cell_of_row _ _ _ _ _ _ h, HN8.out _ (by omega), hx]
      have iA := wd4_info (n / Q64 ^ (j + 1) % LL)
      have iB := wd4_info (n / Q64 ^ j % LL)
      have oB := wdW_one 4 (n / Q64 ^ j % LL)
      have sB : (wdW 4 (n / Q64 ^ (j + 1) % LL)).size = (wdW 4 (n / Q64 ^ j % LL)).size := by rw [wdW_size, wdW_size]
      generalize wdW 4 (n / Q64 ^ (j + 1) % LL) = NA at *
      generalize wdW 4 ((n / Q64 ^ (j + 1) % LL * 2 ^ 32 + x / 4294967296) % LL) = NM at *
      obtain ⟨NB, hNB⟩ : ∃ c, wdW 4 (n / Q64 ^ j % LL) = c := ⟨_, rfl⟩
      rw [hNB] at HN2 iB oB sB
      have HNB := Lib.hid hNB
      have b1 : 0 ≤ (j : Int) := by omega
      have b2 : (j : Int) < 8 := by omega
      have HK := Lib.hid hk
      clear hx hw w1 w2 hA hNB ej hk hlt HNX
      go_upto_region 5 with fail
      refine wp_region_noPanic ?_
      refine wp_region_held_tail (S := fun W => Below wr.heap.size wr W) 11 (by kernel_rfl) ⟨by kernel_rfl, by kernel_rfl, by kernel_rfl, by kernel_rfl⟩ (by exact (Below.refl _ _).drew) (fun hT inv hS => ?_)
      refine' take_atT 0 hT inv rfl (by omega) (by kernel_rfl) (by kernel_rfl) (fun _ _ _ h => h) (by rfl) hS ?_ ?_ ?_
      rotate_left 2
      · intro W hSW; exact run_loadR rfl rfl ((HI.out.rows.below hSW).head) Try.underlying38 rfl iA
      · simp only [List.set_cons_succ, List.set_cons_zero]; rfl
      intro inv
      refine' take_atT 1 hT inv rfl (by omega) (by kernel_rfl) (by kernel_rfl) (fun _ _ _ h => h) (by rfl) hS ?_ ?_ ?_
      rotate_left 2
      · intro W hSW; go_simp; try with_reducible rfl
      · simp only [List.set_cons_succ, List.set_cons_zero]; rfl
      intro inv
      refine' take_atT 2 hT inv rfl (by omega) (by kernel_rfl) (by kernel_rfl) (fun _ _ _ h => h) (by rfl) hS ?_ ?_ ?_
      rotate_left 2
      · intro W hSW; go_simp; try with_reducible rfl
      · simp only [List.set_cons_succ, List.set_cons_zero]; rfl
      intro inv
      refine' take_atT 3 hT inv rfl (by omega) (by kernel_rfl) (by kernel_rfl) (fun _ _ _ h => h) (by rfl) hS ?_ ?_ ?_
      rotate_left 2
      · intro W hSW; have hc := HX.out W hSW; go_simp; try with_reducible rfl
      · simp only [List.set_cons_succ, List.set_cons_zero]; rfl
      intro inv
      refine' take_atT 4 hT inv rfl (by omega) (by kernel_rfl) (by kernel_rfl) (fun _ _ _ h => h) (by rfl) hS ?_ ?_ ?_
      rotate_left 2
      · intro W hSW; go_simp; try with_reducible rfl
      · simp only [List.set_cons_succ, List.set_cons_zero]; rfl
      intro inv
      refine' take_atT 5 hT inv rfl (by omega) (by kernel_rfl) (by kernel_rfl) (fun _ _ _ h => h) (by rfl) hS ?_ ?_ ?_
      rotate_left 2
      · intro W hSW; go_simp; try with_reducible rfl
      · simp only [List.set_cons_succ, List.set_cons_zero]; rfl
      intro inv
      refine' take_atT 7 hT inv rfl (by omega) (by kernel_rfl) (by kernel_rfl) (fun _ _ _ h => h) (by rfl) hS ?_ ?_ ?_
      rotate_left 2
      · intro W hSW; go_simp; try with_reducible rfl
      · simp only [List.set_cons_succ, List.set_cons_zero]; rfl
      intro inv
      refine' take_atT 8 hT inv rfl (by omega) (by kernel_rfl) (by kernel_rfl) (fun _ _ _ h => h) (by rfl) hS ?_ ?_ ?_
      rotate_left 2
      · intro W hSW; go_simp; try with_reducible rfl
      · simp only [List.set_cons_succ, List.set_cons_zero]; rfl
      intro inv
      refine' take_atT 9 hT inv rfl (by omega) (by kernel_rfl) (by kernel_rfl) (fun _ _ _ h => h) (by rfl) hS ?_ ?_ ?_
      rotate_left 2
      · intro W hSW; have hc := HX.out W hSW; go_simp; try with_reducible rfl
      · simp only [List.set_cons_succ, List.set_cons_zero]; rfl
      intro inv
      refine' take_atT 10 hT inv rfl (by omega) (by kernel_rfl) (by kernel_rfl) (fun _ _ _ h => h) (by rfl) hS ?_ ?_ ?_
      rotate_left 2
      · intro W hSW; go_simp; try with_reducible rfl
      · simp only [List.set_cons_succ, List.set_cons_zero]; rfl
      intro inv
      refine call_atT 6 inv rfl (by omega) (by kernel_rfl) (by rfl) (fun K hK => ?_)
      go_simp
      with_reducible refine (HN1.out _).mono ?_
      rintro e u1 ⟨rfl, hb1⟩
      have kb1 := below_next hS hb1
      clear hS hb1
      refine hK.out _ _ (by exact kb1) (fun inv hS => ?_)
      clear hK K
      refine done_atT (by kernel_rfl) ?_
      simp only [List.drop_succ_cons, List.drop_zero]
      clear hS
      (try simp only [Act.put])
      have HI2 := Lib.hid (HI.out.call kb1)
      clear kb1 HI
      go_wp2_with fail
      with_reducible refine (HN2.out _).mono ?_
      rintro e w2 ⟨rfl, hb2⟩
      have HI3 := Lib.hid (HI2.out.call hb2)
      clear hb2 HI2
      have hr3 := HI3.out.rows.head
      go_wp2_with (refine wpList_store_row rfl 38 (.tmp 3) (.tmp 20) rfl (g + 1 + 1) NB rfl rfl 38 NA hr3 iB sB oB ?_)
      have HI4 : Hid (Lp w (w2.setRow (g + 1 + 1) NB) (g + 1 + 1) (wdW 4 (n / Q64 ^ j % LL)) 38 [(g + 1, z4, 38), (g, N8, 48)]) := Lib.hid ⟨by rw [HNB.out]; exact HI3.out.rows.put HI3.out.far NB, HI3.out.new, HI3.out.far, below_row HI3.out.below HI3.out.new⟩
      clear hr3 HI3
      (try refine NoPanic.normal ?_)
      go_wp2_with fail
      go_roundw
      case rel => exact ⟨j, by have := HK.out; omega, by go_num, HI4⟩
      case measure => simp [intOf] <;> omega
    · obtain rfl : k = 0 := by omega
      rw [HE0.out] at HI
      have h1 := HI.out.rows.head
      have h0 := HI.out.rows.tail.head
      have HB : Hid (Below w.heap.size w (wr.setRow (g + 1) OUT)) := Lib.hid (below_row HI.out.below (by rw [HG.out]; omega))
      clear HI
      go_wp2_with (first
        | (refine wpList_load_row rfl 38 (.tmp 3) rfl (g + 1 + 1) rfl 38 OUT (0, 0) _ h1 Try.underlying38 rfl iO ?_)
        | (refine wpList_store_row rfl 38 (.tmp 2) (.tmp 21) rfl (g + 1) OUT rfl rfl 38 z4 h0 iO sO oO ?_))
      (try simp only [Exit.inBlock, Exit.then])
      refine bodyPost_ret (results_cell_row rfl _ _ (g + 1) _ OUT _ _ rfl (setRow_heap _ _ _ _ _ _ h0) Try.underlying38 rfl iO) rfl ?_
      exact ⟨rfl, HB.out⟩
end Go.Proofs.Ytmmfbbbljhifjaa

