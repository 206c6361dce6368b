/- The contracts of the developers' held, hold, New, Count, copied. -/
import Derived.Test.YtbkcglfdliicpaaHashM
import Derived.Test.YtbkcglfdliicpaaGroo4
namespace Go.Proofs.Ytbkcglfdliicpaa
open Go.RowKit
set_option linter.unusedVariables false
set_option maxRecDepth 100000

theorem hheld_any {g n : Nat} {s : St} {k : List UInt8} {b : Bool} (W : World) (ha : HA W g b s n k) (hn : n ≤ 4611686018427387904) :
    Calls Try.prog 35 #[.pointer (some ⟨g, 0, none⟩)] W fun e w' => e = .returned (.int .i64 ((n % 128 : Nat) : Int)) ∧ w' = W := by
  have hc := ha.cn
  obtain ⟨r, hr⟩ : ∃ r, n % 128 = r := ⟨_, rfl⟩
  rw [hr]
  have hr' : r < 128 := by omega
  have t1 : (n : Int).tmod 128 = (r : Int) := by rw [Int.tmod_eq_emod_of_nonneg (by omega)]; omega
  have t2 : (n : Int) % 128 = (r : Int) := by omega
  clear hr ha
  go_enter Try.func35, Try.ntmps35
  go_wp2
  go_ret
  first | exact ⟨rfl, rfl⟩ | exact ⟨rfl, trivial⟩

theorem slice_block (g r : Nat) (hr : r < 128) (u : World) : (Instr.sliceAt 50 (.pointer (some ⟨g, 10, none⟩)) (some (.int .i64 (r : Int))) none none).run Try.prog u = .ok (.slice (some ⟨g, 10 + r, none⟩) (128 - r) (128 - r)) u := by
  have hu : Try.prog.underlying 50 = some (.array (Try.prog.arrayLen 50) (Try.prog.elem 50)) := by kernel_rfl
  have hl : Try.prog.arrayLen 50 = 128 := by kernel_rfl
  have hz : ∀ W : World, (sizeOf (Try.prog.elem 50)).run Try.prog W = .ok 1 W := fun W => by kernel_rfl
  rw [run_sliceAt_array_l u _ _ hu .i64 (r : Int) (by omega) (by rw [hl]; omega), hz, hl]
  simp only [Result.andThen, slicedAt, Int.toNat_natCast, Nat.mul_one]
  rw [if_neg (by omega), addr_add]
theorem slice_block_all (g : Nat) (u : World) : (Instr.sliceAt 50 (.pointer (some ⟨g, 10, none⟩)) none none none).run Try.prog u = .ok (.slice (some ⟨g, 10, none⟩) 128 128) u := by
  have hu : Try.prog.underlying 50 = some (.array (Try.prog.arrayLen 50) (Try.prog.elem 50)) := by kernel_rfl
  have hl : Try.prog.arrayLen 50 = 128 := by kernel_rfl
  have hz : ∀ W : World, (sizeOf (Try.prog.elem 50)).run Try.prog W = .ok 1 W := fun W => by kernel_rfl
  rw [run_sliceAt_array_all u _ _ hu, hz, hl]
  simp only [Result.andThen, slicedAt]
  rfl
theorem slice_block_head (g r : Nat) (hr : r < 128) (u : World) : (Instr.sliceAt 50 (.pointer (some ⟨g, 10, none⟩)) none (some (.int .i64 (r : Int))) none).run Try.prog u = .ok (.slice (some ⟨g, 10, none⟩) r 128) u := by
  have hu : Try.prog.underlying 50 = some (.array (Try.prog.arrayLen 50) (Try.prog.elem 50)) := by kernel_rfl
  have hl : Try.prog.arrayLen 50 = 128 := by kernel_rfl
  have hz : ∀ W : World, (sizeOf (Try.prog.elem 50)).run Try.prog W = .ok 1 W := fun W => by kernel_rfl
  rw [run_sliceAt_array_h u _ _ hu .i64 (r : Int) (by omega) (by rw [hl]; omega), hz, hl]
  simp only [Result.andThen, slicedAt, Int.toNat_natCast]
  rfl

/-- bytes copied into the block -/
theorem wpList_copy_block {w : World} {ops : Array Oper} {rest : List Oper} {o : Oper} {a : Act} {Q : Exit → Act → World → Prop} (hgd : o.guard = none) (d x : Operand)
    (ho : o.op = .call { callee := .builtin .copy, args := #[d, x], argTypes := #[22, 22] }) {g n : Nat} {b : Bool} {s : St} {k : List UInt8} (r L C : Nat) (A : Option Addr) (l : List UInt8) (c : Nat)
    (hd : a.eval d = .slice (some ⟨g, 10 + r, none⟩) L C) (hx : a.eval x = .slice A l.length c) (ha : HA w g b s n k) (hb : Bs w A l) (hL : r + L = 128) (m : Nat) (hm : m = Nat.min l.length L)
    (h : ∀ w', HA w' g b s n (k.take r ++ l.take m ++ k.drop (r + m)) → Only (fun j => j = g) w w' → wpList Try.prog ops Q rest (a.put o.dst (goInt m)) w') : wpList Try.prog ops Q (o :: rest) a w := by
  refine wpList_plain hgd fun K hK => ?_
  have hml : m ≤ l.length := by rw [hm]; exact Nat.min_le_left _ _
  have hmL : m ≤ L := by rw [hm]; exact Nat.min_le_right _ _
  have hk := ha.len
  have hcl := hcells_len b (s := s.l) n (St.len s) hk
  have : ∃ w', (Builtin.copy_ #[22, 22] o.type #[.slice (some ⟨g, 10 + r, none⟩) L C, .slice A l.length c]).run Try.prog w = .ok (goInt m) w' ∧ HA w' g b s n (k.take r ++ l.take m ++ k.drop (r + m)) ∧ Only (fun j => j = g) w w' := by
    by_cases h0 : l.length = 0
    · have : l = [] := List.eq_nil_of_length_eq_zero h0
      subst this
      have hm0 : m = 0 := by simp at hml; omega
      subst hm0
      refine ⟨w, run_copy_none (P := Try.prog) w _ _ o.type 5 (some ⟨g, 10 + r, none⟩) A L C 0 c Try.underlying22 (by kernel_rfl) (by simp), ?_, Only.refl _ _⟩
      simpa using ha
    · obtain ⟨b', o', rfl, hc⟩ := hb (by omega)
      have hcs : ((l.take m).map bval).length = m := by simp; omega
      have hrun := run_copy_row (P := Try.prog) w 22 22 o.type 5 g (10 + r) L C ⟨b', o', none⟩ l.length c _ 52 ((l.take m).map bval) Try.underlying22 (by kernel_rfl) ha.row (by rw [hcs]; exact hm)
        (fun j v hj => (Bs.news (w := w) (a := ⟨b', o', none⟩) (l := l) hb) j v (by
          have : j < m := by
            rcases Nat.lt_or_ge j m with h | h
            · exact h
            · rw [List.getElem?_eq_none (by rw [hcs]; exact h)] at hj; cases hj
          simpa [List.getElem?_take, this] using hj)) (by rw [hcs]; simp [hcl]; omega) (fun v hv => by obtain ⟨x, _, rfl⟩ := List.mem_map.1 hv; rfl)
      rw [hcs] at hrun
      have hK := ha.setK r (l.take m) (by rw [List.length_take]; omega)
      rw [hcs, show (l.take m).length = m by rw [List.length_take]; omega] at hK
      exact ⟨_, hrun, hK, only_setRow⟩
  obtain ⟨w', hrun, h2, h3⟩ := this
  unfold Oper.wp execOp
  simp only [ho, resolve, invoke, builtin, Sem.run_bind, Sem.run_pure, Result.andThen_ok, List.map_toArray, List.map_cons, List.map_nil, hd, hx, hrun]
  exact hK _ _ (h w' h2 h3)

set_option maxHeartbeats 1600000 in
theorem hhold_any {g n : Nat} {s : St} {k : List UInt8} (W : World) (A : Option Addr) (l : List UInt8) (c : Nat) (ha : HA W g true s n k) (hb : Bs W A l) (hn : n ≤ 2305843009213693952) (hl : l.length ≤ 1000000) :
    Calls Try.prog 38 #[.pointer (some ⟨g, 0, none⟩), .slice A l.length c] W fun e w' => e = .returned (.int .i64 (heldN n l : Int)) ∧ HA w' g true s (n + heldN n l) (heldK n k l) ∧ Only (fun j => j = g) W w' := by
  unfold heldK
  obtain ⟨m, hm⟩ : ∃ m, heldN n l = m := ⟨_, rfl⟩
  obtain ⟨r, hr⟩ : ∃ r, n % 128 = r := ⟨_, rfl⟩
  have hm' : m = Nat.min l.length (128 - r) := by rw [← hm, heldN, hr]
  have hml : m ≤ 128 := by have : m ≤ 128 - r := by rw [hm']; exact Nat.min_le_right _ _
                           omega
  rw [hm, hr]
  have hr' : r < 128 := by omega
  have HHE : Hid (Calls Try.prog 35 #[.pointer (some ⟨g, 0, none⟩)] (W.drewN 1) fun e w' => e = .returned (.int .i64 (r : Int)) ∧ w' = W.drewN 1) := Lib.hid (by
    have := hheld_any (W.drewN 1) (ha.drewN 1) (by omega)
    rwa [hr] at this)
  have hsl := fun u => slice_block g r hr' u
  have HA1 : Hid (HA (W.drewN 1) g true s n k) := Lib.hid (ha.drewN 1)
  have HB1 : Hid (Bs (W.drewN 1) A l) := Lib.hid hb
  have HM := Lib.hid hm'
  have HR : Hid (r + (128 - r) = 128) := Lib.hid (by omega)
  have HO1 : Hid (∀ w', Only (fun j => j = g) (W.drewN 1) w' → Only (fun j => j = g) W w') := Lib.hid (fun w' h => ((Only.refl _ _).drewN 1).trans h)
  have t1 : IntKind.u64.wrap (m : Int) = (m : Int) := by rw [IntKind.wrap_u64]; omega
  have t2 : IntKind.u64.wrap ((n : Int) + (m : Int)) = ((n + m : Nat) : Int) := by rw [IntKind.wrap_u64]; omega
  obtain ⟨N, hN⟩ : ∃ N, n + m = N := ⟨_, rfl⟩
  rw [hN] at t2 ⊢
  obtain ⟨L, hL⟩ : ∃ L, 128 - r = L := ⟨_, rfl⟩
  rw [hL] at hsl HM HR
  clear ha hb hm hr hm' hN hL
  go_enter Try.func38, Try.ntmps38
  go_wp2_with fail
  refine wp_region_still_tail 7 (by kernel_rfl) (by kernel_rfl) ?_
  simp only [List.take_succ_cons, List.take_zero, List.drop_succ_cons, List.drop_zero]
  iterate 4 still_step
  still_call (HHE.out)
  iterate 2 still_step
  refine wpStill_nil ?_
  go_wp2_with (refine wpList_copy_block rfl (.tmp 11) (.tmp 12) rfl r L L A l c rfl rfl HA1.out HB1.out HR.out m HM.out ?_; intro w2 ha2 ho2; have hc2 := ha2.cn; have hf2 := ha2.fz 9; have HA2 := Lib.hid (ha2.setN N); have HO2 := Lib.hid (HO1.out _ ho2); clear ha2 ho2)
  go_ret
  exact ⟨rfl, HA2.out.1, HO2.out.trans HA2.out.2⟩

theorem build_hash (s : St) (u : World) : (Instr.build 52 #[(0, .bool true), (1, .agg (tabW s.l))]).run Try.prog u = .ok (.agg (hcells true s.l 0 (List.replicate 128 0)).toArray) u := by
  obtain ⟨a, b, c, d, e, f, g, h⟩ := s
  exact run_build u _ _ _ (by kernel_rfl)

set_option maxHeartbeats 1600000 in
theorem hnew_any (W : World) : Calls Try.prog 12 #[] W fun e w' => ∃ g, e = .returned (.pointer (some ⟨g, 0, none⟩)) ∧ HS w' g Sh.nil ∧ W.heap.size ≤ g ∧ Below W.heap.size W w' := by
  have HB : Hid (∀ W : World, Calls Try.prog 31 #[] W fun e w' => e = .returned (.agg (tabW begS.l)) ∧ Below W.heap.size W w') := Lib.hid (by rw [← tabW_beg]; exact fun W => begin_any W)
  have hbu := fun u => build_hash begS u
  have HP : Hid (∀ w1 : World, Below W.heap.size W w1 → HS (w1.alloc (.cells (hcells true begS.l 0 (List.replicate 128 0)).toArray 52)) w1.heap.size Sh.nil ∧ W.heap.size ≤ w1.heap.size ∧ Below W.heap.size W (w1.alloc (.cells (hcells true begS.l 0 (List.replicate 128 0)).toArray 52))) :=
    Lib.hid (fun w1 h1 => ⟨⟨Sh.nil_ok, List.replicate 128 0, ⟨heap_alloc_new _ _, by simp⟩, by simp [Sh.nil]⟩, h1.size, below_alloc h1 _⟩)
  obtain ⟨V, hV⟩ : ∃ V, (hcells true begS.l 0 (List.replicate 128 0)).toArray = V := ⟨_, rfl⟩
  obtain ⟨B, hB⟩ : ∃ B, tabW begS.l = B := ⟨_, rfl⟩
  rw [hV] at HP
  rw [hV, hB] at hbu
  rw [hB] at HB
  clear hV hB
  go_enter Try.func12, Try.ntmps12
  go_wp2_with fail
  with_reducible refine (HB.out _).mono ?_
  rintro e w1 ⟨rfl, hb1⟩
  have HP1 := Lib.hid (HP.out w1 hb1)
  have HBU := Lib.hid hbu
  clear HP HB hb1 hbu
  go_wp2_with (refine wpList_runs (o := ⟨some 2, _, _, _, _, _⟩) rfl (.agg V) (Eq.trans (b := Sem.run Try.prog (do pure (Next.value (← Instr.build 52 #[(0, .bool true), (1, .agg B)]))) w1) (by kernel_rfl) (run_value (HBU.out _))) ?_)
  go_ret
  exact ⟨_, rfl, HP1.out⟩

theorem hcount_any {g n : Nat} {s : St} {k : List UInt8} {b : Bool} (W : World) (ha : HA W g b s n k) (hn : n ≤ 4611686018427387904) :
    Calls Try.prog 15 #[.pointer (some ⟨g, 0, none⟩)] W fun e w' => e = .returned (.int .i64 (n : Int)) ∧ w' = W := by
  have hc := ha.cn
  have t : IntKind.i64.wrap (n : Int) = (n : Int) := by rw [IntKind.wrap_i64]; omega
  clear ha
  go_enter Try.func15, Try.ntmps15
  go_wp2
  go_ret
  first | exact ⟨rfl, rfl⟩ | exact ⟨rfl, trivial⟩
theorem hcountNo_any (W : World) : Calls Try.prog 15 #[.pointer none] W fun e w' => e = .returned (.int .i64 0) ∧ w' = W := by
  go_enter Try.func15, Try.ntmps15
  go_wp2
  go_ret
  first | exact ⟨rfl, rfl⟩ | exact ⟨rfl, trivial⟩

set_option maxHeartbeats 1600000 in
theorem hcopied_any {g : Nat} {h : Sh} (W : World) (hs : HS W g h) :
    Calls Try.prog 32 #[.pointer (some ⟨g, 0, none⟩)] W fun e w' => ∃ g', e = .returned (.pointer (some ⟨g', 0, none⟩)) ∧ HS w' g' h ∧ W.heap.size ≤ g' ∧ Below W.heap.size W w' := by
  obtain ⟨ho, k, ha, ht⟩ := hs
  have hcl := hcells_len true (s := h.s.l) h.n (St.len h.s) ha.len
  have hone : (hcells true h.s.l h.n k).toArray.all (·.oneCell') = true := all_oneCell_toArray (hcells_one _ _ _ _)
  obtain ⟨V, hV⟩ : ∃ V, (hcells true h.s.l h.n k).toArray = V := ⟨_, rfl⟩
  have hVs : V.size = 138 := by rw [← hV]; simpa using hcl
  rw [hV] at hone
  have hrow : W.heap[g]? = some (.cells V 52 (0, 0)) := by rw [← hV]; exact ha.row
  have hcb := ha.cb
  have iV : (Try.prog.info? 52).map (·.size) = some V.size := by rw [hVs]; kernel_rfl
  obtain ⟨Z, hZ, hZs⟩ : ∃ Z : Array Value, (∀ u, (zeroValue 52).run Try.prog u = .ok (.agg Z) u) ∧ Z.size = 138 := ⟨(.bool false :: (List.replicate 8 (.int .u64 0) ++ (.int .u64 0 :: List.replicate 128 (.int .u8 0)))).toArray, fun u => zero_arr _ _ 138 (by kernel_rfl) u, by simp⟩
  have h0 : (W.alloc (.cells Z 52)).heap[W.heap.size]? = some (.cells Z 52 (0, 0)) := heap_alloc_new _ _
  have sz : Z.size = V.size := by rw [hZs, hVs]
  have HP : Hid (HS ((W.alloc (.cells Z 52)).setRow W.heap.size V) W.heap.size h ∧ W.heap.size ≤ W.heap.size ∧ Below W.heap.size W ((W.alloc (.cells Z 52)).setRow W.heap.size V)) :=
    Lib.hid ⟨⟨ho, k, ⟨by rw [hV]; exact setRow_heap _ _ _ _ _ _ h0, ha.len⟩, ht⟩, Nat.le_refl _, below_setRow (below_alloc (Below.refl _ _) _) (Nat.le_refl _)⟩
  clear hV hcl ha ht hZs hVs
  go_enter Try.func32, Try.ntmps32
  go_wp2_with (first
    | (refine wpList_load_row rfl 52 (.tmp 15) rfl g rfl 52 V (0, 0) _ hrow Try.underlying52 rfl iV ?_)
    | (refine wpList_store_row rfl 52 (.tmp 3) (.tmp 16) rfl W.heap.size V rfl rfl 52 Z h0 iV sz hone ?_))
  go_ret
  exact ⟨_, rfl, HP.out⟩

set_option maxHeartbeats 1600000 in
/-- of a Hash that is not begun -/
theorem hcopied_new {g : Nat} {s : St} {k : List UInt8} (W : World) (ha : HA W g false s 0 k) :
    Calls Try.prog 32 #[.pointer (some ⟨g, 0, none⟩)] W fun e w' => ∃ g', e = .returned (.pointer (some ⟨g', 0, none⟩)) ∧ HS w' g' Sh.nil ∧ W.heap.size ≤ g' ∧ Below W.heap.size W w' := by
  have hcb := ha.cb
  have HN := Lib.hid (fun W => hnew_any W)
  clear ha
  go_enter Try.func32, Try.ntmps32
  go_wp2_with fail
  with_reducible refine (HN.out _).mono ?_
  rintro e w1 ⟨g1, rfl, h1⟩
  have H1 := Lib.hid h1
  clear h1
  go_wp2_with fail
  go_ret
  exact ⟨_, rfl, H1.out⟩
theorem hcopied_nil (W : World) :
    Calls Try.prog 32 #[.pointer none] W fun e w' => ∃ g', e = .returned (.pointer (some ⟨g', 0, none⟩)) ∧ HS w' g' Sh.nil ∧ W.heap.size ≤ g' ∧ Below W.heap.size W w' := by
  have HN := Lib.hid (fun W => hnew_any W)
  go_enter Try.func32, Try.ntmps32
  go_wp2_with fail
  with_reducible refine (HN.out _).mono ?_
  rintro e w1 ⟨g1, rfl, h1⟩
  have H1 := Lib.hid h1
  clear h1
  go_wp2_with fail
  go_ret
  exact ⟨_, rfl, H1.out⟩
end Go.Proofs.Ytbkcglfdliicpaa

