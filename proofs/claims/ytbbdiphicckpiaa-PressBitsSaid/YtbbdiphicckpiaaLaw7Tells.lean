/- PressTells walked. Written by wip/tools/mk_tells7.py. -/
import Derived.Test.YtbbdiphicckpiaaLaw7Words
namespace Go.Proofs.Ytbbdiphicckpiaa
open Go.RowKit
set_option linter.unusedVariables false
set_option maxRecDepth 100000

theorem run_load_row {P : Program} {ρ : Operand → Value} {o : Oper} {w : World} {ty : TypeId} {x : Operand} (ho : o.op = .load ty x) {g : Nat} (hx : ρ x = .pointer (some ⟨g, 0, none⟩)) {t : TypeId} {cs : Array Value} {fr : Nat × Nat} {d : TypeDesc} (hg : w.heap[g]? = some (.cells cs t fr))
    (hu : P.underlying ty = some d) (hd : (match d with | .struct _ | .array _ _ => true | _ => false) = true) (hi : (P.info? ty).map (·.size) = some cs.size) :
    (execOp ρ o).run P w = .ok (.value (.agg cs)) w := by
  unfold execOp
  simp only [ho, hx, Instr.loadAt, Instr.sureAddr, Sem.run_bind, Sem.run_pure, Result.andThen_ok, run_loadVar_row w g t ty cs fr d hg hu hd hi]

theorem run_eql_agg {P : Program} {ρ : Operand → Value} {o : Oper} {w : World} {T T' : TypeId} {x y : Operand} {cs : Array Value} {b : Bool} (ho : o.op = .binOp .eql T x y T') (hx : ρ x = .agg cs) (hy : ρ y = .agg cs) (hm : P.eqGuardType P.depth T = false)
    (he : (binOp .eql T (.agg cs) (.agg cs)).run P w = .ok (.bool b) w) : (execOp ρ o).run P w = .ok (.value (.bool b)) w := by
  unfold execOp
  simp only [ho, hx, hy, Sem.run_bind, run_eqGuard_agg w .eql T x y cs cs hm, Result.andThen_ok, he, Sem.run_pure]

theorem eq8 (l : List W64) (hl : l.length = 8) (u : World) : (binOp .eql 23 (.agg (tabW l)) (.agg (tabW l))).run Try.prog u = .ok (.bool true) u :=
  eqW_refl 23 22 8 l hl Try.underlying23 Try.underlying22 (fun w => by kernel_rfl) (fun w => by kernel_rfl) u
theorem eq80 (l : List W64) (hl : l.length = 80) (u : World) : (binOp .eql 27 (.agg (tabW l)) (.agg (tabW l))).run Try.prog u = .ok (.bool true) u :=
  eqW_refl 27 22 80 l hl Try.underlying27 Try.underlying22 (fun w => by kernel_rfl) (fun w => by kernel_rfl) u

set_option maxHeartbeats 3200000 in
theorem law7Tells (P : PressC) (s : St) (m : List W64) (hm : m.length = 16) (x y z : W64) (n : Int) (n1 : -9223372036854775808 ≤ n) (n2 : n ≤ 9223372036854775807) (w : World) :
    Calls Try.prog 3 #[.agg (tabW s.l), .agg (tabW m), .int .u64 (x.toNat : Int), .int .u64 (y.toNat : Int), .int .u64 (z.toNat : Int), .int .i64 n] w fun e w' => e = .returned (.bool true) ∧ Below w.heap.size w w' := by
  have HA : Hid (∀ W : World, Calls Try.prog 8 #[] W fun e w' => e = .returned (.bool true) ∧ Below W.heap.size W w') := Lib.hid (fun W => alive7_any P W)
  have P1 := P.step s m hm
  have P2 := rstep_any s m hm
  have P3 := P.schedule m hm
  have P4 := rsched_any m hm
  have P5 := P.rotr x n n1 n2
  have P6 : ∀ W : World, Calls Try.prog 14 #[.int .u64 (x.toNat : Int), .int .i64 n] W fun e w' => e = .returned (.int .u64 ((rot x n).toNat : Int)) ∧ Below W.heap.size W w' := fun W => (rrotr_any x n n1 n2 W).mono fun e w' h => ⟨h.1, by rw [← h.2]; exact Below.refl _ _⟩
  have P7 := P.ch x y z
  have P8 : ∀ W : World, Calls Try.prog 16 #[.int .u64 (x.toNat : Int), .int .u64 (y.toNat : Int), .int .u64 (z.toNat : Int)] W fun e w' => e = .returned (.int .u64 ((chW x y z).toNat : Int)) ∧ Below W.heap.size W w' := fun W => (rch_any x y z W).mono fun e w' h => ⟨h.1, by rw [← h.2]; exact Below.refl _ _⟩
  have P9 := P.maj x y z
  have P10 : ∀ W : World, Calls Try.prog 18 #[.int .u64 (x.toNat : Int), .int .u64 (y.toNat : Int), .int .u64 (z.toNat : Int)] W fun e w' => e = .returned (.int .u64 ((majW x y z).toNat : Int)) ∧ Below W.heap.size W w' := fun W => (rmaj_any x y z W).mono fun e w' h => ⟨h.1, by rw [← h.2]; exact Below.refl _ _⟩
  have E1 := eq8 (stepW ksL s m).l (St.len _)
  have E3 := eq80 (sch m 80) (sch_len _ _)
  have hm8 : Try.prog.eqGuardType Try.prog.depth 23 = false := by kernel_rfl
  have hm80 : Try.prog.eqGuardType Try.prog.depth 27 = false := by kernel_rfl
  have nS : (tabW s.l).size = 8 := by rw [tabW_size]; rfl
  have nM : (tabW m).size = 16 := by rw [tabW_size, hm]
  generalize tabW (stepW ksL s m).l = SS at *
  generalize tabW (sch m 80) = WW at *
  generalize tabW s.l = S at *
  generalize tabW m = M at *
  have iS : (Try.prog.info? 23).map (·.size) = some S.size := by rw [nS]; kernel_rfl
  have iM : (Try.prog.info? 24).map (·.size) = some M.size := by rw [nM]; kernel_rfl
  generalize rot x n = r at *
  generalize chW x y z = c at *
  generalize majW x y z = j at *
  generalize x.toNat = X at *
  generalize y.toNat = Y at *
  generalize z.toNat = Z at *
  generalize r.toNat = Rr at *
  generalize c.toNat = Cc at *
  generalize j.toNat = Jj at *
  have HSTEP := Lib.hid P1
  have HRSTEP := Lib.hid P2
  have HSCH := Lib.hid P3
  have HRSCH := Lib.hid P4
  have HROT := Lib.hid P5
  have HRROT := Lib.hid P6
  have HCH := Lib.hid P7
  have HRCH := Lib.hid P8
  have HMAJ := Lib.hid P9
  have HRMAJ := Lib.hid P10
  have a0 : ((w.alloc (.cells S 23)).alloc (.cells M 24)).heap[w.heap.size]? = some (.cells S 23 (0, 0)) := heap_alloc2_old _ _ _
  have a1 : ((w.alloc (.cells S 23)).alloc (.cells M 24)).heap[w.heap.size + 1]? = some (.cells M 24 (0, 0)) := heap_alloc2_new _ _ _
  have A0 := Lib.hid a0
  have A1 := Lib.hid a1
  have AB := Lib.hid (below_alloc (below_alloc (Below.refl w.heap.size w) (.cells S 23)) (.cells M 24))
  clear P1 P2 P3 P4 P5 P6 P7 P8 P9 P10 a0 a1 nS nM n1 n2
  go_enter Try.func3, Try.ntmps3
  go_wp2_with fail
  with_reducible refine (HA.out _).mono ?_
  rintro e w1 ⟨rfl, hb1⟩
  have HB1 := Lib.hid (below_next AB.out hb1)
  have hs1 : w.heap.size + 2 ≤ w1.heap.size := by have := hb1.size; simpa using this
  have c0 := hb1.block w.heap.size (by simp; omega)
  rw [A0.out] at c0
  have c1 := hb1.block (w.heap.size + 1) (by simp)
  rw [A1.out] at c1
  have hL0 : ∀ W, Below w1.heap.size w1 W → W.heap[w.heap.size]? = some (.cells S 23 (0, 0)) := fun W hW => by rw [hW.block _ (by omega)]; exact c0
  have hL1 : ∀ W, Below w1.heap.size w1 W → W.heap[w.heap.size + 1]? = some (.cells M 24 (0, 0)) := fun W hW => by rw [hW.block _ (by omega)]; exact c1
  clear hb1 hs1 c0 c1 HA A0 A1 AB
  go_upto_region 2 with fail
  refine wp_region_noPanic ?_
  refine wp_region_held_drew (S := fun W => Below w1.heap.size w1 W) (by kernel_rfl) (by exact (Below.refl _ _).drew) (fun hS => ?_)
  refine' take_at 0 rfl (by kernel_rfl) (by kernel_rfl) (by kernel_rfl) (fun _ _ _ h => h) (by rfl) hS ?_ ?_ ?_
  rotate_left 2
  · intro W hSW; go_simp; try with_reducible rfl
  · simp only [List.set_cons_succ, List.set_cons_zero]; rfl
  refine' take_at 1 rfl (by kernel_rfl) (by kernel_rfl) (by kernel_rfl) (fun _ _ _ h => h) (by rfl) hS ?_ ?_ ?_
  rotate_left 2
  · intro W hSW; go_simp; try with_reducible rfl
  · simp only [List.set_cons_succ, List.set_cons_zero]; rfl
  refine' take_at 2 rfl (by kernel_rfl) (by kernel_rfl) (by kernel_rfl) (fun _ _ _ h => h) (by rfl) hS ?_ ?_ ?_
  rotate_left 2
  · intro W hSW; exact run_load_row rfl rfl (hL0 W hSW) Try.underlying23 rfl iS
  · simp only [List.set_cons_succ, List.set_cons_zero]; rfl
  refine' take_at 3 rfl (by kernel_rfl) (by kernel_rfl) (by kernel_rfl) (fun _ _ _ h => h) (by rfl) hS ?_ ?_ ?_
  rotate_left 2
  · intro W hSW; exact run_load_row rfl rfl (hL1 W hSW) Try.underlying24 rfl iM
  · simp only [List.set_cons_succ, List.set_cons_zero]; rfl
  refine' take_at 5 rfl (by kernel_rfl) (by kernel_rfl) (by kernel_rfl) (fun _ _ _ h => h) (by rfl) hS ?_ ?_ ?_
  rotate_left 2
  · intro W hSW; exact run_load_row rfl rfl (hL0 W hSW) Try.underlying23 rfl iS
  · simp only [List.set_cons_succ, List.set_cons_zero]; rfl
  refine' take_at 6 rfl (by kernel_rfl) (by kernel_rfl) (by kernel_rfl) (fun _ _ _ h => h) (by rfl) hS ?_ ?_ ?_
  rotate_left 2
  · intro W hSW; exact run_load_row rfl rfl (hL1 W hSW) Try.underlying24 rfl iM
  · simp only [List.set_cons_succ, List.set_cons_zero]; rfl
  refine call_at 4 rfl (by kernel_rfl) (by rfl) (fun K hK => ?_)
  go_simp
  with_reducible refine (HSTEP.out _).mono ?_
  rintro e v0 ⟨rfl, hb0⟩
  have kb0 := below_next hS hb0
  clear hS hb0
  refine hK.out _ _ (by exact kb0) (fun hS => ?_)
  clear hK K
  refine call_at 7 rfl (by kernel_rfl) (by rfl) (fun K hK => ?_)
  go_simp
  with_reducible refine (HRSTEP.out _).mono ?_
  rintro e v1 ⟨rfl, hb1⟩
  have kb1 := below_next hS hb1
  clear hS hb1
  refine hK.out _ _ (by exact kb1) (fun hS => ?_)
  clear hK K
  refine' take_at 8 rfl (by kernel_rfl) (by kernel_rfl) (by kernel_rfl) (fun _ _ _ h => h) (by rfl) hS ?_ ?_ ?_
  rotate_left 2
  · intro W hSW; exact run_eql_agg rfl rfl rfl hm8 (E1 W)
  · simp only [List.set_cons_succ, List.set_cons_zero]; rfl
  refine' take_at 9 rfl (by kernel_rfl) (by kernel_rfl) (by kernel_rfl) (fun _ _ _ h => h) (by rfl) hS ?_ ?_ ?_
  rotate_left 2
  · intro W hSW; go_simp; try with_reducible rfl
  · simp only [List.set_cons_succ, List.set_cons_zero]; rfl
  refine' take_at 10 rfl (by kernel_rfl) (by kernel_rfl) (by kernel_rfl) (fun _ _ _ h => h) (by rfl) hS ?_ ?_ ?_
  rotate_left 2
  · intro W hSW; go_simp; try with_reducible rfl
  · simp only [List.set_cons_succ, List.set_cons_zero]; rfl
  refine' take_at 11 rfl (by kernel_rfl) (by kernel_rfl) (by kernel_rfl) (fun _ _ _ h => h) (by rfl) hS ?_ ?_ ?_
  rotate_left 2
  · intro W hSW; exact run_load_row rfl rfl (hL1 W hSW) Try.underlying24 rfl iM
  · simp only [List.set_cons_succ, List.set_cons_zero]; rfl
  refine' take_at 13 rfl (by kernel_rfl) (by kernel_rfl) (by kernel_rfl) (fun _ _ _ h => h) (by rfl) hS ?_ ?_ ?_
  rotate_left 2
  · intro W hSW; exact run_load_row rfl rfl (hL1 W hSW) Try.underlying24 rfl iM
  · simp only [List.set_cons_succ, List.set_cons_zero]; rfl
  refine call_at 12 rfl (by kernel_rfl) (by rfl) (fun K hK => ?_)
  go_simp
  with_reducible refine (HSCH.out _).mono ?_
  rintro e v2 ⟨rfl, hb2⟩
  have kb2 := below_next hS hb2
  clear hS hb2
  refine hK.out _ _ (by exact kb2) (fun hS => ?_)
  clear hK K
  refine call_at 14 rfl (by kernel_rfl) (by rfl) (fun K hK => ?_)
  go_simp
  with_reducible refine (HRSCH.out _).mono ?_
  rintro e v3 ⟨rfl, hb3⟩
  have kb3 := below_next hS hb3
  clear hS hb3
  refine hK.out _ _ (by exact kb3) (fun hS => ?_)
  clear hK K
  refine' take_at 15 rfl (by kernel_rfl) (by kernel_rfl) (by kernel_rfl) (fun _ _ _ h => h) (by rfl) hS ?_ ?_ ?_
  rotate_left 2
  · intro W hSW; exact run_eql_agg rfl rfl rfl hm80 (E3 W)
  · simp only [List.set_cons_succ, List.set_cons_zero]; rfl
  refine' take_at 16 rfl (by kernel_rfl) (by kernel_rfl) (by kernel_rfl) (fun _ _ _ h => h) (by rfl) hS ?_ ?_ ?_
  rotate_left 2
  · intro W hSW; go_simp; try with_reducible rfl
  · simp only [List.set_cons_succ, List.set_cons_zero]; rfl
  refine' take_at 17 rfl (by kernel_rfl) (by kernel_rfl) (by kernel_rfl) (fun _ _ _ h => h) (by rfl) hS ?_ ?_ ?_
  rotate_left 2
  · intro W hSW; go_simp; try with_reducible rfl
  · simp only [List.set_cons_succ, List.set_cons_zero]; rfl
  refine' take_at 18 rfl (by kernel_rfl) (by kernel_rfl) (by kernel_rfl) (fun _ _ _ h => h) (by rfl) hS ?_ ?_ ?_
  rotate_left 2
  · intro W hSW; go_simp; try with_reducible rfl
  · simp only [List.set_cons_succ, List.set_cons_zero]; rfl
  refine' take_at 19 rfl (by kernel_rfl) (by kernel_rfl) (by kernel_rfl) (fun _ _ _ h => h) (by rfl) hS ?_ ?_ ?_
  rotate_left 2
  · intro W hSW; go_simp; try with_reducible rfl
  · simp only [List.set_cons_succ, List.set_cons_zero]; rfl
  refine' take_at 21 rfl (by kernel_rfl) (by kernel_rfl) (by kernel_rfl) (fun _ _ _ h => h) (by rfl) hS ?_ ?_ ?_
  rotate_left 2
  · intro W hSW; go_simp; try with_reducible rfl
  · simp only [List.set_cons_succ, List.set_cons_zero]; rfl
  refine' take_at 22 rfl (by kernel_rfl) (by kernel_rfl) (by kernel_rfl) (fun _ _ _ h => h) (by rfl) hS ?_ ?_ ?_
  rotate_left 2
  · intro W hSW; go_simp; try with_reducible rfl
  · simp only [List.set_cons_succ, List.set_cons_zero]; rfl
  refine call_at 20 rfl (by kernel_rfl) (by rfl) (fun K hK => ?_)
  go_simp
  with_reducible refine (HROT.out _).mono ?_
  rintro e v4 ⟨rfl, hb4⟩
  have kb4 := below_next hS hb4
  clear hS hb4
  refine hK.out _ _ (by exact kb4) (fun hS => ?_)
  clear hK K
  refine call_at 23 rfl (by kernel_rfl) (by rfl) (fun K hK => ?_)
  go_simp
  with_reducible refine (HRROT.out _).mono ?_
  rintro e v5 ⟨rfl, hb5⟩
  have kb5 := below_next hS hb5
  clear hS hb5
  refine hK.out _ _ (by exact kb5) (fun hS => ?_)
  clear hK K
  refine' take_at 24 rfl (by kernel_rfl) (by kernel_rfl) (by kernel_rfl) (fun _ _ _ h => h) (by rfl) hS ?_ ?_ ?_
  rotate_left 2
  · intro W hSW; go_simp; try with_reducible rfl
  · simp only [List.set_cons_succ, List.set_cons_zero]; rfl
  refine' take_at 25 rfl (by kernel_rfl) (by kernel_rfl) (by kernel_rfl) (fun _ _ _ h => h) (by rfl) hS ?_ ?_ ?_
  rotate_left 2
  · intro W hSW; go_simp; try with_reducible rfl
  · simp only [List.set_cons_succ, List.set_cons_zero]; rfl
  refine' take_at 26 rfl (by kernel_rfl) (by kernel_rfl) (by kernel_rfl) (fun _ _ _ h => h) (by rfl) hS ?_ ?_ ?_
  rotate_left 2
  · intro W hSW; go_simp; try with_reducible rfl
  · simp only [List.set_cons_succ, List.set_cons_zero]; rfl
  refine' take_at 27 rfl (by kernel_rfl) (by kernel_rfl) (by kernel_rfl) (fun _ _ _ h => h) (by rfl) hS ?_ ?_ ?_
  rotate_left 2
  · intro W hSW; go_simp; try with_reducible rfl
  · simp only [List.set_cons_succ, List.set_cons_zero]; rfl
  refine' take_at 28 rfl (by kernel_rfl) (by kernel_rfl) (by kernel_rfl) (fun _ _ _ h => h) (by rfl) hS ?_ ?_ ?_
  rotate_left 2
  · intro W hSW; go_simp; try with_reducible rfl
  · simp only [List.set_cons_succ, List.set_cons_zero]; rfl
  refine' take_at 29 rfl (by kernel_rfl) (by kernel_rfl) (by kernel_rfl) (fun _ _ _ h => h) (by rfl) hS ?_ ?_ ?_
  rotate_left 2
  · intro W hSW; go_simp; try with_reducible rfl
  · simp only [List.set_cons_succ, List.set_cons_zero]; rfl
  refine' take_at 31 rfl (by kernel_rfl) (by kernel_rfl) (by kernel_rfl) (fun _ _ _ h => h) (by rfl) hS ?_ ?_ ?_
  rotate_left 2
  · intro W hSW; go_simp; try with_reducible rfl
  · simp only [List.set_cons_succ, List.set_cons_zero]; rfl
  refine' take_at 32 rfl (by kernel_rfl) (by kernel_rfl) (by kernel_rfl) (fun _ _ _ h => h) (by rfl) hS ?_ ?_ ?_
  rotate_left 2
  · intro W hSW; go_simp; try with_reducible rfl
  · simp only [List.set_cons_succ, List.set_cons_zero]; rfl
  refine' take_at 33 rfl (by kernel_rfl) (by kernel_rfl) (by kernel_rfl) (fun _ _ _ h => h) (by rfl) hS ?_ ?_ ?_
  rotate_left 2
  · intro W hSW; go_simp; try with_reducible rfl
  · simp only [List.set_cons_succ, List.set_cons_zero]; rfl
  refine call_at 30 rfl (by kernel_rfl) (by rfl) (fun K hK => ?_)
  go_simp
  with_reducible refine (HCH.out _).mono ?_
  rintro e v6 ⟨rfl, hb6⟩
  have kb6 := below_next hS hb6
  clear hS hb6
  refine hK.out _ _ (by exact kb6) (fun hS => ?_)
  clear hK K
  refine call_at 34 rfl (by kernel_rfl) (by rfl) (fun K hK => ?_)
  go_simp
  with_reducible refine (HRCH.out _).mono ?_
  rintro e v7 ⟨rfl, hb7⟩
  have kb7 := below_next hS hb7
  clear hS hb7
  refine hK.out _ _ (by exact kb7) (fun hS => ?_)
  clear hK K
  refine' take_at 35 rfl (by kernel_rfl) (by kernel_rfl) (by kernel_rfl) (fun _ _ _ h => h) (by rfl) hS ?_ ?_ ?_
  rotate_left 2
  · intro W hSW; go_simp; try with_reducible rfl
  · simp only [List.set_cons_succ, List.set_cons_zero]; rfl
  refine' take_at 36 rfl (by kernel_rfl) (by kernel_rfl) (by kernel_rfl) (fun _ _ _ h => h) (by rfl) hS ?_ ?_ ?_
  rotate_left 2
  · intro W hSW; go_simp; try with_reducible rfl
  · simp only [List.set_cons_succ, List.set_cons_zero]; rfl
  refine' take_at 37 rfl (by kernel_rfl) (by kernel_rfl) (by kernel_rfl) (fun _ _ _ h => h) (by rfl) hS ?_ ?_ ?_
  rotate_left 2
  · intro W hSW; go_simp; try with_reducible rfl
  · simp only [List.set_cons_succ, List.set_cons_zero]; rfl
  refine' take_at 38 rfl (by kernel_rfl) (by kernel_rfl) (by kernel_rfl) (fun _ _ _ h => h) (by rfl) hS ?_ ?_ ?_
  rotate_left 2
  · intro W hSW; go_simp; try with_reducible rfl
  · simp only [List.set_cons_succ, List.set_cons_zero]; rfl
  refine' take_at 39 rfl (by kernel_rfl) (by kernel_rfl) (by kernel_rfl) (fun _ _ _ h => h) (by rfl) hS ?_ ?_ ?_
  rotate_left 2
  · intro W hSW; go_simp; try with_reducible rfl
  · simp only [List.set_cons_succ, List.set_cons_zero]; rfl
  refine' take_at 40 rfl (by kernel_rfl) (by kernel_rfl) (by kernel_rfl) (fun _ _ _ h => h) (by rfl) hS ?_ ?_ ?_
  rotate_left 2
  · intro W hSW; go_simp; try with_reducible rfl
  · simp only [List.set_cons_succ, List.set_cons_zero]; rfl
  refine' take_at 42 rfl (by kernel_rfl) (by kernel_rfl) (by kernel_rfl) (fun _ _ _ h => h) (by rfl) hS ?_ ?_ ?_
  rotate_left 2
  · intro W hSW; go_simp; try with_reducible rfl
  · simp only [List.set_cons_succ, List.set_cons_zero]; rfl
  refine' take_at 43 rfl (by kernel_rfl) (by kernel_rfl) (by kernel_rfl) (fun _ _ _ h => h) (by rfl) hS ?_ ?_ ?_
  rotate_left 2
  · intro W hSW; go_simp; try with_reducible rfl
  · simp only [List.set_cons_succ, List.set_cons_zero]; rfl
  refine' take_at 44 rfl (by kernel_rfl) (by kernel_rfl) (by kernel_rfl) (fun _ _ _ h => h) (by rfl) hS ?_ ?_ ?_
  rotate_left 2
  · intro W hSW; go_simp; try with_reducible rfl
  · simp only [List.set_cons_succ, List.set_cons_zero]; rfl
  refine call_at 41 rfl (by kernel_rfl) (by rfl) (fun K hK => ?_)
  go_simp
  with_reducible refine (HMAJ.out _).mono ?_
  rintro e v8 ⟨rfl, hb8⟩
  have kb8 := below_next hS hb8
  clear hS hb8
  refine hK.out _ _ (by exact kb8) (fun hS => ?_)
  clear hK K
  refine call_at 45 rfl (by kernel_rfl) (by rfl) (fun K hK => ?_)
  go_simp
  with_reducible refine (HRMAJ.out _).mono ?_
  rintro e v9 ⟨rfl, hb9⟩
  have kb9 := below_next hS hb9
  clear hS hb9
  refine hK.out _ _ (by exact kb9) (fun hS => ?_)
  clear hK K
  refine' take_at 46 rfl (by kernel_rfl) (by kernel_rfl) (by kernel_rfl) (fun _ _ _ h => h) (by rfl) hS ?_ ?_ ?_
  rotate_left 2
  · intro W hSW; go_simp; try with_reducible rfl
  · simp only [List.set_cons_succ, List.set_cons_zero]; rfl
  refine' take_at 47 rfl (by kernel_rfl) (by kernel_rfl) (by kernel_rfl) (fun _ _ _ h => h) (by rfl) hS ?_ ?_ ?_
  rotate_left 2
  · intro W hSW; go_simp; try with_reducible rfl
  · simp only [List.set_cons_succ, List.set_cons_zero]; rfl
  refine' take_at 48 rfl (by kernel_rfl) (by kernel_rfl) (by kernel_rfl) (fun _ _ _ h => h) (by rfl) hS ?_ ?_ ?_
  rotate_left 2
  · intro W hSW; go_simp; try with_reducible rfl
  · simp only [List.set_cons_succ, List.set_cons_zero]; rfl
  refine wpAnyH_done (by kernel_rfl) ?_ _
  refine NoPanic.normal ?_
  go_wp2_with fail
  go_ret
  exact ⟨rfl, below_next HB1.out kb9⟩
end Go.Proofs.Ytbbdiphicckpiaa

