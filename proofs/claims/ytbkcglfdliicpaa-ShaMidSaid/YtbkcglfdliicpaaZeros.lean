/- append(b, make([]byte, k)...) to a row of the call's own, and make([]byte, 0, s). -/
import Derived.Test.YtbkcglfdliicpaaGsim
import Derived.Test.YtbkcglfdliicpaaGbase
import Derived.Lib.AppendZerosOnto
namespace Go.Proofs.Ytbkcglfdliicpaa
open Go.RowKit
set_option linter.unusedVariables false
set_option maxRecDepth 100000

theorem make_room (s : Nat) (hs : s ≤ 2147483648) (u : World) : (Instr.makeSlice 22 (.int .i64 0) (.int .i64 (s : Int))).run Try.prog u =
      .ok (.slice (some ⟨u.heap.size, 0, none⟩) 0 s) (u.alloc (.cells (madeCells #[.int .u8 0] s) 5)) := by
  obtain ⟨i0, hi, hz0, hz1, hz2⟩ := info_parts info5
  have h := run_make (P := Try.prog) u 22 5 i0 (.int .u8 0) Try.underlying22 hi hz0 .i64 .i64 0 (s : Int) (by omega) (by omega) (by rw [hz2]; omega) (by omega)
  simpa [hz1, Value.cells] using h

theorem own_room (w : World) (s : Nat) (E : TypeId) (hs : s ≤ 2147483648) : Ob E (w.alloc (.cells (madeCells #[.int .u8 0] s) E)) w.heap.size (.slice (some ⟨w.heap.size, 0, none⟩) 0 s) [] := by
  have h := World.ownsRow_made (base := w.heap.size) (e := E) (size := 1) w (madeCells #[.int .u8 0] s) s (Nat.le_refl _) (by unfold maxLen; omega) (by simp [size_madeCells])
  unfold Ob
  simpa using h

theorem zeroCells_one (v : Value) (k : Nat) : (Builtin.zeroCells #[v] k).toList = List.replicate k v := by
  apply List.ext_getElem
  · simp [Builtin.zeroCells]
  · intro i h1 h2
    simp [Builtin.zeroCells, Nat.mod_one]

theorem map_zeros (k : Nat) : (List.replicate k (0 : UInt8)).map bval = List.replicate k (.int .u8 0) := by simp [bval]

theorem run_append_zeros (w : World) (base : Nat) (ty : TypeId) (v : Value) (l : List UInt8) (hown : Ob 5 w base v l) (k : Nat)
    (hlen : l.length + k ≤ 2147483648) (hbase : base ≤ w.heap.size) :
    ∃ v' w', (Builtin.append_ #[22, 3] ty #[v, .int .i64 (k : Int)]).run Try.prog w = .ok v' w' ∧ Ob 5 w' base v' (l ++ List.replicate k 0) ∧ w.grownBy w' v.ownBlock := by
  obtain ⟨i0, hi, hz0, hz1, hz2⟩ := info_parts info5
  have hu := Try.underlying22
  have hun := Try.underlying3
  have hwr : IntKind.i64.wrap (k : Int) = k := by rw [IntKind.wrap_i64]; omega
  have hneg : ¬ ((k : Int) < 0) := by omega
  rcases hown.2 with ⟨rfl, h0⟩ | ⟨g, cap, cur, rfl, hbg, hg, hnc, hcm, hcs, htake⟩
  · have hl : l = [] := List.eq_nil_of_length_eq_zero h0
    subst hl
    by_cases hk : k = 0
    · subst hk
      refine ⟨.slice none 0 0, w, ?_, by simpa using hown, World.grownBy.refl w _⟩
      simp [Builtin.append_, run_underlying hu, run_underlying hun, sizeOf, typeInfo, hi, asInt, asIntOf, hz2, IntKind.wrap_i64]
    · have hr := Lib.run_append_grow_zeros (P := Try.prog) w 22 3 ty 5 i0 (.int .u8 0) .i64 .i64 hu hun hi hz0 none 0 0 [] (by simp [Builtin.firstCells]) k (by omega) (by omega) (by omega) (by omega) (by rw [hz2]; omega)
        (by rw [hz2]; simp [Builtin.nextslicecap]; split <;> omega)
      refine ⟨_, _, hr, ?_, ⟨rfl, rfl, rfl, by simp, fun j hj _ => heap_alloc_old w.drew _ hj⟩⟩
      simp only [Nat.zero_add, List.nil_append]
      refine ⟨by simp, .inr ⟨w.heap.size, grownCap w k 0 5, _, by simp, hbase, heap_alloc_new w.drew _, ?_, ?_, ?_, ?_⟩⟩
      · simpa using grownCap_ge w k 0 5
      · exact grownCap_le_maxLen w k 0 _ (by unfold maxLen; omega)
      · have := grownCap_ge w k 0 5
        simp [size_zeroCells, Value.cells]; omega
      · simp [Value.cells, zeroCells_one]
        right; rfl
  · by_cases hroom : l.length + k ≤ cap
    · have hst := run_storeCells_at Try.prog g l.length 5 (List.replicate k (.int .u8 0)) 0 cur w hg (by simp; omega) (fun u hu => by rw [List.eq_of_mem_replicate hu]; rfl)
      simp only [Nat.add_zero] at hst
      refine ⟨.slice (some ⟨g, 0, none⟩) (l.length + k) cap, w.setRow g (cur.toList.take l.length ++ List.replicate k (Value.int .u8 0) ++ cur.toList.drop (l.length + (List.replicate k (Value.int .u8 0)).length)).toArray, ?_, ?_, ?_⟩
      · by_cases hk : k = 0
        · subst hk
          have hr0 : l.length ≤ cap := by omega
          simp only [List.replicate_zero] at hst
          simp [Builtin.append_, run_underlying hu, run_underlying hun, sizeOf, typeInfo, hi, asInt, asIntOf, hz1, hz2, IntKind.wrap_i64, Addr.add_lit, hr0, hst]
        · have hzt : (Builtin.zeroCells (Value.int .u8 0).cells k).toList = List.replicate k (.int .u8 0) := by
            rw [show (Value.int .u8 0).cells = #[.int .u8 0] from rfl, zeroCells_one]
          have h48 : ¬ (281474976710656 < (k : Int)) := by omega
          simp [Builtin.append_, run_underlying hu, run_underlying hun, sizeOf, typeInfo, zeroValue, hi, hz0, hz1, hz2, asInt, asIntOf, hwr, hneg, hk, h48, Addr.add_lit, hroom, hzt, hst]
      · unfold Ob
        refine ⟨by simp, .inr ⟨g, cap, _, by simp, hbg, setRow_heap w g cur _ 5 _ hg, by simp; omega, hcm, ?_, ?_⟩⟩
        · simp; omega
        · rw [Nat.mul_one] at htake
          rw [List.map_append, map_zeros, htake]
          apply List.take_left'
          simp
      · exact ⟨rfl, rfl, rfl, by simp, fun j _ hj => setRow_other w g j _ (fun e => hj (by simp [Value.ownBlock, e]))⟩
    · have hks : 0 < k := by omega
      have holds : ∀ j u, (l.map bval)[j]? = some u → w.cell? ((⟨g, 0, none⟩ : Addr).add j) = some u := hown.cells (g := g) rfl
      have hold := run_firstCells_some (P := Try.prog) w.drew 1 l.length ⟨g, 0, none⟩ l.length cap (l.map bval) (by simp) holds
      have hr := Lib.run_append_grow_zeros (P := Try.prog) w 22 3 ty 5 i0 (.int .u8 0) .i64 .i64 hu hun hi hz0 (some ⟨g, 0, none⟩) l.length cap (l.map bval) (by rw [hz1]; exact hold) k hks (by omega) (by omega) (by omega) (by rw [hz2]; omega)
        (by have := growslice_fits (need := l.length + k) (old := cap) (bytes := 1) (by omega) (by omega); rw [hz2]; exact this)
      refine ⟨_, _, hr, ?_, ⟨rfl, rfl, rfl, by simp, fun j hj _ => heap_alloc_old w.drew _ hj⟩⟩
      unfold Ob
      have hge := grownCap_ge w (l.length + k) cap 5
      refine ⟨by simp, .inr ⟨w.heap.size, grownCap w (l.length + k) cap 5, _, by simp, hbase, heap_alloc_new w.drew _, by simpa using hge, grownCap_le_maxLen w _ _ _ (by unfold maxLen; omega), ?_, ?_⟩⟩
      · simp [size_zeroCells, Value.cells]; omega
      · simp only [Array.toList_append, Value.cells, zeroCells_one, List.map_append, map_zeros]
        apply List.take_left'
        simp

theorem wpList_append_zeros {w : World} {ops : Array Oper} {rest : List Oper} {o : Oper} {a : Act} {Q : Exit → Act → World → Prop} (hgd : o.guard = none) (s x : Operand)
    (ho : o.op = .call { callee := .builtin .append, args := #[s, x], argTypes := #[22, 3] }) (base : Nat)
    (v : Value) (l : List UInt8) (hs : a.eval s = v) (hown : Ob 5 w base v l) (k : Nat) (hx : a.eval x = .int .i64 (k : Int))
    (hlen : l.length + k ≤ 2147483648) (hbase : base ≤ w.heap.size)
    (h : ∀ v' w', Ob 5 w' base v' (l ++ List.replicate k 0) → w.grownBy w' v.ownBlock → wpList Try.prog ops Q rest (a.put o.dst v') w') : wpList Try.prog ops Q (o :: rest) a w := by
  refine wpList_plain hgd fun K hK => ?_
  obtain ⟨v', w', hrun, h2, h3⟩ := run_append_zeros w base o.type v l hown k hlen hbase
  unfold Oper.wp execOp
  simp only [ho, resolve, invoke, builtin, Sem.run_bind, Sem.run_pure, Result.andThen_ok, List.map_toArray, List.map_cons, List.map_nil, hs, hx, hrun]
  exact hK _ _ (h v' w' h2 h3)
end Go.Proofs.Ytbkcglfdliicpaa

