/- The builtin copy into a row of bytes that a slice owns: the law, alone and as one step of a region that draws. -/
import Derived.Test.YtlnpfndjdilfhaaRefSet
import Derived.Laws.CopyOwn
namespace Go.Proofs.Ytlnpfndjdilfhaa
open Go.RowKit
set_option linter.unusedVariables false

theorem laid_eq {l : List UInt8} {a : Nat} {s : List UInt8} (h : a + s.length ≤ l.length) : laid l a s = l.take a ++ (s ++ l.drop (a + s.length)) := by
  apply list_ext_getD (by rw [laid_len]; simp; omega)
  intro i hi
  rw [laid_len] at hi
  unfold laid
  rw [laidTo_get hi]
  simp only [List.getD, List.getElem?_append, List.getElem?_take, List.getElem?_drop, List.length_take]
  have e : min a l.length = a := by omega
  rw [e]
  grind
theorem laid_nil (l : List UInt8) (a : Nat) : laid l a [] = l := laidTo_zero _ _ _

theorem take_splice {X cs : List Value} {n a : Nat} (h : a + cs.length ≤ n) : (X.take a ++ cs ++ X.drop (a + cs.length)).take n = (X.take n).take a ++ (cs ++ (X.take n).drop (a + cs.length)) := by
  apply List.ext_getElem?
  intro i
  simp only [List.getElem?_append, List.getElem?_take, List.getElem?_drop, List.length_take, List.length_append]
  grind

section
variable {P : Program}
theorem run_copy_bs (w : World) (base : Nat) (dT sT ty E : TypeId) (hu : P.underlying dT = some (.slice E)) (hs : (P.info? E).map (·.size) = some 1)
    (g n c : Nat) (l : List UInt8) (hown : Ob E w base (.slice (some ⟨g, 0, none⟩) n c) l) (dp : Option Addr) (off dLen dCap : Nat) (A : Option Addr) (m : List UInt8) (sLen sCap k : Nat) (hm : Bs w A m) (hsl : sLen = m.length)
    (hk : k = Nat.min sLen dLen) (hdp : 0 < k → dp = some ⟨g, off, none⟩) (hfit : off + k ≤ l.length) :
    ∃ w', (Builtin.copy_ #[dT, sT] ty #[.slice dp dLen dCap, .slice A sLen sCap]).run P w = .ok (goInt k) w' ∧ Ob E w' base (.slice (some ⟨g, 0, none⟩) n c) (laid l off (m.take k)) ∧ Only (fun j => j = g) w w' := by
  subst hsl
  have hkm : k ≤ m.length := by rw [hk]; exact Nat.min_le_left _ _
  by_cases h0 : k = 0
  · subst h0
    refine ⟨w, run_copy_none (P := P) w dT sT ty E dp A dLen dCap m.length sCap hu hs hk.symm, ?_, Only.refl _ _⟩
    rw [List.take_zero, laid_nil]
    exact hown
  · obtain rfl := hdp (by omega)
    obtain ⟨b, o, rfl, hc⟩ := hm (by omega)
    have hlen := hown.len
    subst hlen
    rcases hown.2 with ⟨h', _⟩ | ⟨g', cap, cur, e, hb', hg, hnc, hcm, hsz, htk⟩
    · simp at h'
    · injection e with e1 e2 e3
      injection e1 with e1
      injection e1 with e1
      subst e1
      subst e3
      rw [Nat.mul_one] at hsz htk
      have hcs : ((m.take k).map bval).length = k := by simp; omega
      have hrun := run_copy_row (P := P) w dT sT ty E g off dLen dCap ⟨b, o, none⟩ m.length sCap cur E ((m.take k).map bval) hu hs hg (by rw [hcs]; exact hk)
        (fun j v hj => (Bs.news (w := w) (a := ⟨b, o, none⟩) (l := m) hm) j v (by
          have : j < k := by
            rcases Nat.lt_or_ge j k with h | h
            · exact h
            · rw [List.getElem?_eq_none (by rw [hcs]; exact h)] at hj; cases hj
          simpa [List.getElem?_take, this] using hj)) (by rw [hcs]; omega) (fun v hv => by obtain ⟨x, _, rfl⟩ := List.mem_map.1 hv; rfl)
      rw [hcs] at hrun
      refine ⟨_, hrun, ⟨?_, .inr ⟨g, c, _, ?_, hb', setRow_heap w g _ _ E _ hg, ?_, hcm, ?_, ?_⟩⟩, ⟨rfl, rfl, rfl, by simp [World.setRow], fun j hj hn => setRow_other w g j _ hn⟩⟩
      · simp
      · rw [laid_len]
      · rw [laid_len]; exact hnc
      · simp; omega
      · rw [laid_len, Nat.mul_one]
        have := take_splice (X := cur.toList) (cs := (m.take k).map bval) (n := l.length) (a := off) (by rw [hcs]; exact hfit)
        rw [hcs] at this
        simp only at this ⊢
        rw [this, htk, laid_eq (by simp; omega)]
        simp only [List.map_append, List.map_take, List.map_drop, List.length_take, Nat.min_eq_left hkm]

theorem wpList_copy_bs {w : World} {ops : Array Oper} {rest : List Oper} {o : Oper} {a : Act} {Q : Exit → Act → World → Prop} (hgd : o.guard = none) (d s : Operand) (dT sT : TypeId)
    (ho : o.op = .call { callee := .builtin .copy, args := #[d, s], argTypes := #[dT, sT] }) (base : Nat) (E : TypeId) (hu : P.underlying dT = some (.slice E)) (hs : (P.info? E).map (·.size) = some 1)
    (g n c : Nat) (l : List UInt8) (hown : Ob E w base (.slice (some ⟨g, 0, none⟩) n c) l) (dp : Option Addr) (off dLen dCap : Nat) (hd : a.eval d = .slice dp dLen dCap) (A : Option Addr) (m : List UInt8) (sLen sCap k : Nat) (hx : a.eval s = .slice A sLen sCap) (hm : Bs w A m) (hsl : sLen = m.length)
    (hk : k = Nat.min sLen dLen) (hdp : 0 < k → dp = some ⟨g, off, none⟩) (hfit : off + k ≤ l.length)
    (h : ∀ w', Ob E w' base (.slice (some ⟨g, 0, none⟩) n c) (laid l off (m.take k)) → Only (fun j => j = g) w w' → wpList P ops Q rest (a.put o.dst (goInt k)) w') : wpList P ops Q (o :: rest) a w := by
  refine wpList_plain hgd fun K hK => ?_
  obtain ⟨w', hrun, h2, h3⟩ := run_copy_bs (P := P) w base dT sT o.type E hu hs g n c l hown dp off dLen dCap A m sLen sCap k hm hsl hk hdp hfit
  unfold Oper.wp execOp
  simp only [ho, resolve, invoke, builtin, Sem.run_bind, Sem.run_pure, Result.andThen_ok, List.map_toArray, List.map_cons, List.map_nil, hd, hx, hrun]
  exact hK _ _ (h w' h2 h3)

/-- as one step of a region that draws -/
theorem step_copy_bs {w : World} {ops : Array Oper} {o : Oper} {a : Act} {K : Act → World → Prop} {Q : Exit → Act → World → Prop} {F : Prop} (hgd : o.guard = none) (d s : Operand) (dT sT : TypeId)
    (ho : o.op = .call { callee := .builtin .copy, args := #[d, s], argTypes := #[dT, sT] }) (base : Nat) (E : TypeId) (hu : P.underlying dT = some (.slice E)) (hs : (P.info? E).map (·.size) = some 1)
    (g n c : Nat) (l : List UInt8) (hown : Ob E w base (.slice (some ⟨g, 0, none⟩) n c) l) (dp : Option Addr) (off dLen dCap : Nat) (hd : a.eval d = .slice dp dLen dCap) (A : Option Addr) (m : List UInt8) (sLen sCap k : Nat) (hx : a.eval s = .slice A sLen sCap) (hm : Bs w A m) (hsl : sLen = m.length)
    (hk : k = Nat.min sLen dLen) (hdp : 0 < k → dp = some ⟨g, off, none⟩) (hfit : off + k ≤ l.length)
    (h : ∀ w', Ob E w' base (.slice (some ⟨g, 0, none⟩) n c) (laid l off (m.take k)) → Only (fun j => j = g) w w' → K (a.put o.dst (goInt k)) w') : if Region.wanted o (yielded ops a.tmps) = true then Oper.wp P o a w K Q else F := by
  have hw : Region.wanted o (yielded ops a.tmps) = true := by simp [Region.wanted, hgd]
  rw [if_pos hw]
  obtain ⟨w', hrun, h2, h3⟩ := run_copy_bs (P := P) w base dT sT o.type E hu hs g n c l hown dp off dLen dCap A m sLen sCap k hm hsl hk hdp hfit
  unfold Oper.wp execOp
  simp only [ho, resolve, invoke, builtin, Sem.run_bind, Sem.run_pure, Result.andThen_ok, List.map_toArray, List.map_cons, List.map_nil, hd, hx, hrun]
  exact h w' h2 h3
end

theorem info5s : (Try.prog.info? 5).map (·.size) = some 1 := by kernel_rfl
end Go.Proofs.Ytlnpfndjdilfhaa
