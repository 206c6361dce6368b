/- append of any bytes to an owned row: where the row lies then. -/
import Derived.Test.YtlbkpmcccipfhaaAppNear
import Derived.Test.YtlbkpmcccipfhaaGbase
namespace Go.Proofs.Ytlbkpmcccipfhaa
open Go.RowKit
set_option linter.unusedVariables false
set_option maxRecDepth 100000

theorem run_append_loc {P : Program} (W : World) (base : Nat) (t ty e : TypeId) (ht : P.underlying t = some (.slice e)) (he : (P.info? e).map (fun i => (i.zero, i.size, i.bytes)) = some (some (.int .u8 0), 1, 1))
    {A : Option Addr} {l : List UInt8} {c : Nat} (h2 : Ob e W base (.slice A l.length c) l) (hbase : base ≤ W.heap.size) {B : Option Addr} {m : List UInt8} {k : Nat} (hm : Bs W B m) (hlen : l.length + m.length ≤ 140737488355328) :
    ∃ A' c' w', (Builtin.append_ #[t, t] ty #[.slice A l.length c, .slice B m.length k]).run P W = .ok (.slice A' (l.length + m.length) c') w' ∧ Ob e w' base (.slice A' (l.length + m.length) c') (l ++ m) ∧ W.grownBy w' (A.map (·.block)) ∧ ∀ j, At A' j → At A j ∨ W.heap.size ≤ j := by
  obtain ⟨i0, hi, hz0, hz1, hz2⟩ := info_parts he
  cases B with
  | none =>
    have h0 : m = [] := by
      rcases Nat.eq_zero_or_pos m.length with h | h
      · exact List.eq_nil_of_length_eq_zero h
      · obtain ⟨b, o, e', _⟩ := hm h; cases e'
    subst h0
    exact ⟨A, c, W, run_append_nil_src W base t ty e i0 ht hi _ l h2 k, by simpa using h2, World.grownBy.refl W _, fun j hj => .inl hj⟩
  | some b =>
    obtain ⟨A', c', e1, hb, hf⟩ := h2.form
    injection e1 with e1 e2 e3
    subst e1
    rcases hf with hf | ⟨g, hf, hg1, hg2⟩
    · subst hf
      have hl : l = [] := by
        rcases Nat.eq_zero_or_pos l.length with h | h
        · exact List.eq_nil_of_length_eq_zero h
        · obtain ⟨b, o, e', _⟩ := hb h; cases e'
      subst hl
      have hc : c = 0 := by
        rcases h2.2 with ⟨e, _⟩ | ⟨g, cap, cur, e, _⟩
        · injection e
        · cases e
      subst hc
      obtain ⟨v', w', hr, hob, hgr⟩ := run_append_bs (P := P) W W.heap.size t ty e ht he (.slice none 0 0) [] (Ob.nil_ _ _ _) (some b) m k hm (by simpa using hlen) (Nat.le_refl _)
      obtain ⟨A2, c2, e4, hb2, hf2⟩ := hob.form
      rw [List.nil_append] at hob
      subst e4
      refine ⟨A2, c2, w', by simpa using hr, by simpa using hob.low hbase, hgr, fun j hj => .inr ?_⟩
      obtain ⟨a, ea, rfl⟩ := hj
      rcases hf2 with hf2 | ⟨g2, hf2, h3, -⟩
      · rw [hf2] at ea; cases ea
      · rw [hf2] at ea; injection ea with ea; subst ea; exact h3
    · subst hf
      by_cases h0 : 0 < m.length
      · obtain ⟨g', cap', w', hr, hob, hgr, hloc⟩ := run_append_near (P := P) W base t ty e ht he g l.length c l h2 b m k hm h0 hlen hbase
        refine ⟨some ⟨g', 0, none⟩, cap', w', hr, hob, hgr, ?_⟩
        rintro j ⟨a, ea, rfl⟩
        injection ea with ea
        subst ea
        rcases hloc with h | h
        · exact .inl ⟨_, rfl, h.symm⟩
        · exact .inr h
      · have hm0 : m = [] := List.eq_nil_of_length_eq_zero (by omega)
        subst hm0
        have hcap : l.length ≤ c := by
          rcases h2.2 with ⟨e, _⟩ | ⟨g', cap, cur, e, _, _, hnc, _⟩
          · cases e
          · injection e with e1 e2 e3
            omega
        obtain ⟨w', hr, h4, h5⟩ := run_append_fits (P := P) W base t ty e i0 1 ht hi hz1 g l.length c (l.map bval) h2 b 0 k ([] : List Value) (by simp) hm.news (fun u hu => by cases hu) (by simpa using hcap)
        refine ⟨some ⟨g, 0, none⟩, c, w', hr, ?_, ?_, fun j hj => .inl hj⟩
        · unfold Ob
          rw [List.append_nil]
          simpa using h4
        · exact h5
end Go.Proofs.Ytlbkpmcccipfhaa

