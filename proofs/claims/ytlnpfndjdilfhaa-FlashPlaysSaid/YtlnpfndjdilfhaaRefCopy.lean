/- The contract of the reference's Copy. -/
import Derived.Test.YtlnpfndjdilfhaaRefErase
import Derived.Test.YtlnpfndjdilfhaaRefNew
import Derived.Test.YtlnpfndjdilfhaaDevProg
namespace Go.Proofs.Ytlnpfndjdilfhaa
open Go.RowKit
set_option linter.unusedVariables false

theorem Ob.lt {E : TypeId} {w : World} {base : Nat} {A : Option Addr} {n c : Nat} {l : List UInt8} (h : Ob E w base (.slice A n c) l) : ∀ k, At A k → k < w.heap.size := by
  obtain ⟨A', c', e, -, hf⟩ := h.form
  injection e with e1
  subst e1
  rintro k ⟨a, rfl, rfl⟩
  rcases hf with hf | ⟨g', hf, -, hlt⟩
  · cases hf
  · injection hf with hf; subst hf; exact hlt

/-- a slice value that owns integers -/
def Wv (w : World) (base : Nat) (v : Value) (l : List Int) : Prop := w.ownsRow base 3 1 v l.length (l.map (Value.int .i64))

theorem Wv.below {w w' : World} {base : Nat} {v : Value} {l : List Int} (h : Wv w base v l) (hb : Below w.heap.size w w') : Wv w' base v l := by
  refine ⟨h.1, ?_⟩
  rcases h.2 with hn | ⟨g, cap, cur, rfl, hb', hg, rest⟩
  · exact .inl hn
  · refine .inr ⟨g, cap, cur, rfl, hb', ?_, rest⟩
    rw [hb.block g (Array.getElem?_eq_some_iff.1 hg).1]
    exact hg
theorem Wv.form {w : World} {base : Nat} {v : Value} {l : List Int} (h : Wv w base v l) (hpos : 0 < l.length) : ∃ g c, v = .slice (some ⟨g, 0, none⟩) l.length c ∧ base ≤ g ∧ Wb w g c l := by
  rcases h.2 with ⟨_, h0⟩ | ⟨g, cap, cur, rfl, hb', hg, rest⟩
  · omega
  · exact ⟨g, cap, rfl, hb', h.1, .inr ⟨g, cap, cur, rfl, Nat.zero_le _, hg, rest⟩⟩

/-- append of integers that lie in a row to no integers -/
theorem step_append_ws {P : Program} {ops : Array Oper} {o : Oper} {a : Act} {w : World} {K : Act → World → Prop} {Q : Exit → Act → World → Prop} {F : Prop} (hgd : o.guard = none) (s x : Operand) (t : TypeId)
    (ho : o.op = .call { callee := .builtin .append, args := #[s, x], argTypes := #[t, t] }) (base : Nat) (ht : P.underlying t = some (.slice 3))
    (he : (P.info? 3).map (fun i => (i.zero, i.size, i.bytes)) = some (some (.int .i64 0), 1, 8))
    (hs : a.eval s = .slice none 0 0) (g c : Nat) (l : List Int) (hx : a.eval x = .slice (some ⟨g, 0, none⟩) l.length c) (hm : Wb w g c l)
    (hlen : l.length ≤ 2147483648) (hbase : base ≤ w.heap.size)
    (h : ∀ v' w', Wv w' base v' l → w.grownBy w' none → K (a.put o.dst v') w') : if Region.wanted o (yielded ops a.tmps) = true then Oper.wp P o a w K Q else F := by
  have hw : Region.wanted o (yielded ops a.tmps) = true := by simp [Region.wanted, hgd]
  rw [if_pos hw]
  obtain ⟨i0, hi, hz0, hz1, hz2⟩ := info_parts he
  obtain ⟨v', w', hrun, h2, h3, _⟩ := run_append_own (P := P) w base t o.type 3 i0 (.int .i64 0) 1 8 ht hi hz0 hz1 hz2 rfl (by decide) (.slice none 0 0) 0 [] (World.ownsRow_nil w base 3 1) ⟨g, 0, none⟩ l.length c (l.map (Value.int .i64)) (by simp)
      (fun j u hj => by
        have hjl : j < l.length := by
          rcases Nat.lt_or_ge j l.length with h | h
          · exact h
          · rw [List.getElem?_eq_none (by simpa using h)] at hj; cases hj
        have hadd : (⟨g, 0, none⟩ : Addr).add j = ⟨g, j, none⟩ := by unfold Addr.add; split <;> simp_all
        rw [hadd, hm.at_ hjl]
        rw [List.getElem?_map, List.getElem?_eq_getElem hjl] at hj
        simp at hj
        subst hj
        simp [List.getD, List.getElem?_eq_getElem hjl]) (fun u hu => by obtain ⟨x, _, rfl⟩ := List.mem_map.1 hu; rfl) (by unfold maxLen; omega) (by omega) hbase
  unfold Oper.wp execOp
  simp only [ho, resolve, invoke, builtin, Sem.run_bind, Sem.run_pure, Result.andThen_ok, List.map_toArray, List.map_cons, List.map_nil, hs, hx, hrun]
  refine h v' w' ?_ h3
  have e : 0 + l.length = l.length := Nat.zero_add _
  rw [e, List.nil_append] at h2
  exact h2

def CopyPost (w : World) (d : Fl) (N : Nat) (e : Ending) (w' : World) : Prop :=
  ∃ g gB gW cB cW, e = .returned (.pointer (some ⟨g, 0, none⟩)) ∧ RefFl w' g gB gW cB cW N d ∧ Below w.heap.size w w' ∧ w.heap.size ≤ g

set_option maxRecDepth 100000 in
set_option maxHeartbeats 3200000 in
theorem rcopy_any {g gB gW cB cW N : Nat} {d : Fl} {w : World} (h : RefFl w g gB gW cB cW N d) (ok : FlOk d) (hpos : 0 < d.worn.length) (hN : N ≤ w.heap.size) :
    Calls Try.prog 36 #[.pointer (some ⟨g, 0, none⟩)] w (CopyPost w d N) := by
  obtain ⟨AP, cP, hg, hbp, -⟩ := h.cells
  have hblen : 0 < d.b.length := by have := ok.len; omega
  have hbl2 : d.b.length ≤ 67108864 := by have := ok.len; have := ok.few; omega
  have hwl2 : d.worn.length ≤ 65536 := ok.few
  have hpl2 : d.pick.length ≤ 2147483648 := ok.p
  have L : ∀ W, Below w.heap.size w W → ∀ i v, w.cell? ⟨g, i, none⟩ = some v → W.cell? ⟨g, i, none⟩ = some v := fun W hW i v hv => by
    rw [hW.cell (p := ⟨g, i, none⟩) h.blk.1]; exact hv
  have L0 : ∀ W, Below w.heap.size w W → W.cell? ⟨g, 0, none⟩ = some (.slice (some ⟨gB, 0, none⟩) d.b.length cB) := fun W hW => L W hW 0 _ (by rw [cell_of_row _ _ _ _ _ _ hg]; rfl)
  have L1 : ∀ W, Below w.heap.size w W → W.cell? ⟨g, 1, none⟩ = some (.slice (some ⟨gW, 0, none⟩) d.worn.length cW) := fun W hW => L W hW 1 _ (by rw [cell_of_row _ _ _ _ _ _ hg]; rfl)
  have L2 : ∀ W, Below w.heap.size w W → W.cell? ⟨g, 2, none⟩ = some (.int .i64 d.steps) := fun W hW => L W hW 2 _ (by rw [cell_of_row _ _ _ _ _ _ hg]; rfl)
  have L3 : ∀ W, Below w.heap.size w W → W.cell? ⟨g, 3, none⟩ = some (.int .i64 d.left) := fun W hW => L W hW 3 _ (by rw [cell_of_row _ _ _ _ _ _ hg]; rfl)
  have L4 : ∀ W, Below w.heap.size w W → W.cell? ⟨g, 4, none⟩ = some (.slice AP d.pick.length cP) := fun W hW => L W hW 4 _ (by rw [cell_of_row _ _ _ _ _ _ hg]; rfl)
  have L5 : ∀ W, Below w.heap.size w W → W.cell? ⟨g, 5, none⟩ = some (.bool d.dark) := fun W hW => L W hW 5 _ (by rw [cell_of_row _ _ _ _ _ _ hg]; rfl)
  have HBb : Hid (∀ W, Below w.heap.size w W → Bs W (some ⟨gB, 0, none⟩) d.b) := Lib.hid (fun W hW => h.bytes.bs.below hW)
  have HBp : Hid (∀ W, Below w.heap.size w W → Bs W AP d.pick) := Lib.hid (fun W hW => hbp.below hW)
  have HBw : Hid (∀ W, Below w.heap.size w W → Wb W gW cW d.worn) := Lib.hid (fun W hW => by
    have := (show Wv w 0 (.slice (some ⟨gW, 0, none⟩) d.worn.length cW) d.worn from h.counts).below hW
    exact this)
  have Hfin : Hid (∀ (u : World) (g1 c1 g2 c2 : Nat) (A3 : Option Addr) (c3 : Nat), Ob 5 u w.heap.size (.slice (some ⟨g1, 0, none⟩) d.b.length c1) d.b → Wv u w.heap.size (.slice (some ⟨g2, 0, none⟩) d.worn.length c2) d.worn → Ob 5 u w.heap.size (.slice A3 d.pick.length c3) d.pick → Below w.heap.size w u →
      (∀ k, At A3 k → k ≠ g1) → 
      CopyPost w d N (.returned (.pointer (some ⟨u.heap.size, 0, none⟩))) (u.alloc (.cells #[.slice (some ⟨g1, 0, none⟩) d.b.length c1, .slice (some ⟨g2, 0, none⟩) d.worn.length c2, .int .i64 d.steps, .int .i64 d.left, .slice A3 d.pick.length c3, .bool d.dark] 35))) := Lib.hid (by
    intro u g1 c1 g2 c2 A3 c3 h1 h2 h3 hb hne
    have hu : Below u.heap.size u (u.alloc (.cells #[.slice (some ⟨g1, 0, none⟩) d.b.length c1, .slice (some ⟨g2, 0, none⟩) d.worn.length c2, .int .i64 d.steps, .int .i64 d.left, .slice A3 d.pick.length c3, .bool d.dark] 35)) := (Below.refl _ _).alloc (Nat.le_refl _) _
    obtain ⟨g2', c2', e, hg2, hwb⟩ := h2.form hpos
    injection e with e1 e2 e3
    injection e1 with e1
    injection e1 with e1
    subst e1
    subst e3
    obtain ⟨cur2, hcur2⟩ := hwb.heap
    refine ⟨u.heap.size, g1, g2, c1, c2, rfl, ⟨⟨A3, c3, heap_alloc_new _ _, h3.bs.below hu, fun k hk => ⟨fun e => ?_, hne k hk, ?_, ?_⟩⟩, (h1.low (Nat.zero_le _)).below hu, ?_⟩, hb.alloc hb.size _, hb.size⟩
    · subst e
      obtain ⟨A', c', e, -, hf⟩ := h3.form
      injection e with e1
      subst e1
      obtain ⟨a, rfl, ha⟩ := hk
      rcases hf with hf | ⟨g', hf, -, hlt⟩
      · cases hf
      · injection hf with hf
        subst hf
        simp at ha
        omega
    · exact h3.ne hcur2 (by decide) k hk
    · exact Nat.le_trans hN (h3.fresh k hk)
    · have := (show Wv u 0 (.slice (some ⟨g2, 0, none⟩) d.worn.length c2) d.worn from hwb).below hu
      exact this)
  have HGz : Hid (w.heap.size = w.heap.size) := rfl
  clear hg hbp h ok L
  go_enter Try.func36, Try.ntmps36
  go_wp2_with fail
  have hS0 : Below w.heap.size w w := Below.refl _ _
  go_region_held3 (fun W => Below w.heap.size w W) (first | assumption | exact below_drewN' hS0 1 | exact Below.alloc (by assumption) (Below.size (by assumption)) _) (first
    | (refine step_append_bs rfl (.const (.slice none 0 0)) (.tmp 6) 30 rfl _ 5 Try.underlying30 info5 (.slice none 0 0) [] rfl (Ob.nil_ _ _ _) (some ⟨gB, 0, none⟩) d.b _ cB rfl rfl (HBb.out _ (by assumption)) (by simp; omega) (Nat.le_refl _) ?_; intro v5 w5 ho5 hgr5; have kb := below_of_grown hgr5; obtain ⟨g1, c1, rfl, -, -, hfr⟩ := ho5.formN rfl hblen; (try (have HNE : Hid (∀ k, At A3 k → k ≠ g1) := Lib.hid (fun k hk e => by have := OP.out.lt k hk; omega))); have OB := Lib.hid (ho5.low (Below.size (by assumption))); have kS := below_on (by assumption) kb; (try (have OW := Lib.hid (OW.out.below kb))); (try (have OP := Lib.hid (OP.out.below kb))); clear hgr5 ho5 hfr)
    | (refine step_append_bs rfl (.const (.slice none 0 0)) (.tmp 24) 30 rfl _ 5 Try.underlying30 info5 (.slice none 0 0) [] rfl (Ob.nil_ _ _ _) AP d.pick _ cP rfl rfl (HBp.out _ (by assumption)) (by simp; omega) (Nat.le_refl _) ?_; intro v5 w5 ho5 hgr5; have kb := below_of_grown hgr5; obtain ⟨A3, c3, rfl, -, -⟩ := ho5.form; (try (have HNE : Hid (∀ k, At A3 k → k ≠ g1) := Lib.hid (fun k hk e => by have := ho5.fresh k hk; have := OB.out.lt g1 ⟨_, rfl, rfl⟩; omega))); have OP := Lib.hid (ho5.low (Below.size (by assumption))); have kS := below_on (by assumption) kb; (try (have OW := Lib.hid (OW.out.below kb))); (try (have OB := Lib.hid (OB.out.below kb))); clear hgr5 ho5)
    | (refine step_append_ws rfl (.const (.slice none 0 0)) (.tmp 11) 33 rfl w.heap.size Try.underlying33 info3 rfl gW cW d.worn rfl (HBw.out _ (by assumption)) (by omega) (Below.size (by assumption)) ?_; intro v5 w5 ho5 hgr5; have kb := below_of_grown hgr5; obtain ⟨g2, c2, rfl, -, -⟩ := ho5.form hpos; have OW := Lib.hid ho5; have kS := below_on (by assumption) kb; (try (have OP := Lib.hid (OP.out.below kb))); (try (have OB := Lib.hid (OB.out.below kb))); clear hgr5 ho5))
  all_goals
    go_wp2_with fail
    go_ret
    exact Hfin.out _ _ _ _ _ _ _ OB.out OW.out OP.out kS HNE.out
end Go.Proofs.Ytlnpfndjdilfhaa
