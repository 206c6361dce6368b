/- A struct of arrays: one part of it loaded, the whole built of its parts. No program is named here. -/
import Derived.Test.YtfejabfmhddepaaGheld
namespace Go.Proofs.Ytfejabfmhddepaa
open Go.RowKit
set_option linter.unusedVariables false
set_option maxRecDepth 100000

theorem run_loadVar_part {P : Program} (w : World) (g k : Nat) (t ty : TypeId) (cs ds : Array Value) (fr : Nat × Nat) (d : TypeDesc) (hg : w.heap[g]? = some (.cells cs t fr))
    (hu : P.underlying ty = some d) (hd : (match d with | .struct _ | .array _ _ => true | _ => false) = true) (hi : (P.info? ty).map (·.size) = some ds.size)
    (hc : ∀ j, j < ds.size → cs[k + j]? = ds[j]?) :
    (loadVar ty ⟨g, k, none⟩).run P w = .ok (.agg ds) w := by
  have hl : (loadCells ⟨g, k, none⟩ ds.toList.length).run P w = .ok ds.toList.toArray w :=
    run_loadCells_list (P := P) w ⟨g, k, none⟩ ds.toList (fun j v hv => by
      have hadd : (⟨g, k, none⟩ : Addr).add j = ⟨g, k + j, none⟩ := by unfold Addr.add; split <;> simp_all
      have hj : j < ds.size := by
        have := (List.getElem?_eq_some_iff.1 hv).1
        simpa using this
      rw [hadd, cell_of_row w g (k + j) cs t fr hg, hc j hj]
      simpa using hv)
  cases hq : P.info? ty with
  | none => simp [hq] at hi
  | some i =>
    have hs : i.size = ds.size := by simpa [hq] using hi
    have hagg : (isAgg ty).run P w = .ok true w := by
      unfold isAgg
      rw [Sem.run_bind, run_underlying hu w]
      cases d <;> simp_all
    simp only [Array.length_toList, Array.toArray_toList] at hl
    simp [loadVar, Sem.run_bind, hagg, sizeOf, typeInfo, hq, hs, hl]
theorem run_loadP {P : Program} {ρ : Operand → Value} {o : Oper} {w : World} {ty : TypeId} {x : Operand} (ho : o.op = .load ty x) {g k : Nat} (hx : ρ x = .pointer (some ⟨g, k, none⟩)) {t : TypeId} {cs ds : Array Value} {fr : Nat × Nat} {d : TypeDesc}
    (hg : w.heap[g]? = some (.cells cs t fr)) (hu : P.underlying ty = some d) (hd : (match d with | .struct _ | .array _ _ => true | _ => false) = true) (hi : (P.info? ty).map (·.size) = some ds.size)
    (hc : ∀ j, j < ds.size → cs[k + j]? = ds[j]?) :
    (execOp ρ o).run P w = .ok (.value (.agg ds)) w := by
  unfold execOp
  simp only [ho, hx, Instr.loadAt, Instr.sureAddr, Sem.run_bind, Sem.run_pure, Result.andThen_ok, run_loadVar_part w g k t ty cs ds fr d hg hu hd hi hc]

/-- cells laid one by one from a place on -/
theorem lay_get (vs : List Value) : ∀ (n off : Nat) (cs : Array Value) (i : Nat),
    ((vs.zipIdx n).foldl (fun cs (p : Value × Nat) => cs.setIfInBounds (off + p.2) p.1) cs)[i]? = if off + n ≤ i ∧ i < off + n + vs.length ∧ i < cs.size then vs[i - (off + n)]? else cs[i]? := by
  induction vs with
  | nil => intro n off cs i; rw [if_neg (by simp; omega)]; simp
  | cons v vs ih =>
    intro n off cs i
    rw [List.zipIdx_cons, List.foldl_cons, ih (n + 1) off (cs.setIfInBounds (off + n) v) i]
    simp only [Array.size_setIfInBounds, List.length_cons]
    by_cases h1 : i = off + n
    · subst h1
      rw [if_neg (by omega)]
      by_cases h2 : off + n < cs.size
      · rw [if_pos ⟨by omega, by omega, h2⟩, Array.getElem?_setIfInBounds_self_of_lt h2, Nat.sub_self, List.getElem?_cons_zero]
      · rw [if_neg (by omega), Array.getElem?_setIfInBounds, if_pos rfl, if_neg h2, Array.getElem?_eq_none (by omega)]
    · by_cases h2 : off + n ≤ i ∧ i < off + n + (vs.length + 1) ∧ i < cs.size
      · rw [if_pos (by omega), if_pos h2, show i - (off + n) = (i - (off + (n + 1))) + 1 by omega, List.getElem?_cons_succ]
      · rw [if_neg (by omega), if_neg h2, Array.getElem?_setIfInBounds_ne (Ne.symm h1)]
theorem lay_size (vs : List (Value × Nat)) : ∀ (off : Nat) (cs : Array Value), (vs.foldl (fun cs (p : Value × Nat) => cs.setIfInBounds (off + p.2) p.1) cs).size = cs.size := by
  induction vs with
  | nil => intro off cs; rfl
  | cons v vs ih => intro off cs; rw [List.foldl_cons, ih, Array.size_setIfInBounds]
/-- the part of an array laid anew -/
theorem lay_part (a : Array Value) (off : Nat) (cs : Array Value) (h : off + a.size ≤ cs.size) :
    a.zipIdx.foldl (fun cs (p : Value × Nat) => cs.setIfInBounds (off + p.2) p.1) cs = cs.extract 0 off ++ a ++ cs.extract (off + a.size) cs.size := by
  apply Array.ext_getElem?
  intro i
  have hl := lay_get a.toList 0 off cs i
  rw [← Array.foldl_toList, Array.toList_zipIdx, hl]
  simp only [Array.length_toList, Nat.add_zero]
  by_cases h1 : i < off
  · rw [if_neg (by omega), Array.append_assoc, Array.getElem?_append_left (by simp; omega), Array.getElem?_extract]
    simp
    omega
  · by_cases h2 : i < off + a.size
    · rw [if_pos ⟨by omega, h2, by omega⟩, Array.append_assoc, Array.getElem?_append_right (by simp; omega), Array.getElem?_append_left (by simp; omega)]
      simp
      congr 1
      omega
    · rw [if_neg (by omega), Array.getElem?_append_right (by simp; omega), Array.getElem?_extract]
      simp
      by_cases h3 : i < cs.size
      · rw [if_pos (by omega)]
        congr 1
        omega
      · rw [if_neg (by omega), Array.getElem?_eq_none (by omega)]
/-- four parts, one behind the other -/
def quad (a b c d : Array Value) : Array Value := a ++ b ++ c ++ d
section
variable {a b c d v : Array Value} {n : Nat}
theorem quad_size : (quad a b c d).size = a.size + b.size + c.size + d.size := by simp [quad]; omega
theorem quad_one : (quad a b c d).all (·.oneCell') = (a.all (·.oneCell') && b.all (·.oneCell') && c.all (·.oneCell') && d.all (·.oneCell')) := by simp [quad, Bool.and_assoc]
theorem quad_0 (j : Nat) (hj : j < a.size) : (quad a b c d)[0 + j]? = a[j]? := by
  unfold quad
  rw [Nat.zero_add, Array.getElem?_append_left (by simp; omega), Array.getElem?_append_left (by simp; omega), Array.getElem?_append_left hj]
theorem quad_1 (ha : a.size = n) (j : Nat) (hj : j < b.size) : (quad a b c d)[n + j]? = b[j]? := by
  unfold quad
  rw [Array.getElem?_append_left (by simp; omega), Array.getElem?_append_left (by simp; omega), Array.getElem?_append_right (by omega)]
  congr 1; omega
theorem quad_2 {m : Nat} (ha : a.size + b.size = m) (j : Nat) (hj : j < c.size) : (quad a b c d)[m + j]? = c[j]? := by
  unfold quad
  rw [Array.getElem?_append_left (by simp; omega), Array.getElem?_append_right (by simp; omega)]
  congr 1; simp; omega
theorem quad_3 {m : Nat} (ha : a.size + b.size + c.size = m) (j : Nat) (hj : j < d.size) : (quad a b c d)[m + j]? = d[j]? := by
  unfold quad
  rw [Array.getElem?_append_right (by simp; omega)]
  congr 1; simp; omega
theorem ext_pre {x y : Array Value} {m : Nat} (h : x.size = m) : (x ++ y).extract 0 m = x := by
  subst h; simp
theorem ext_post {x y : Array Value} {m k : Nat} (h : x.size = m) (hk : (x ++ y).size = k) : (x ++ y).extract m k = y := by
  subst h hk; simp
/-- one part laid anew -/
theorem lay_mid {x y z v : Array Value} {off : Nat} (h : x.size = off) (hs : y.size = v.size) : v.zipIdx.foldl (fun cs (p : Value × Nat) => cs.setIfInBounds (off + p.2) p.1) (x ++ y ++ z) = x ++ v ++ z := by
  have e1 : (x ++ y ++ z).extract 0 off = x := by rw [Array.append_assoc]; exact ext_pre h
  have e2 : (x ++ y ++ z).extract (off + v.size) (x ++ y ++ z).size = z := ext_post (x := x ++ y) (by simp; omega) rfl
  rw [lay_part v off (x ++ y ++ z) (by simp; omega), e1, e2]
theorem fill_part {place : Nat → Option (Nat × Nat)} {i off : Nat} {cs cs' : Array Value} {rest : List (Nat × Value)} (hp : place i = some (off, v.size)) (hs : off + v.size ≤ cs.size)
    (h : v.zipIdx.foldl (fun cs (p : Value × Nat) => cs.setIfInBounds (off + p.2) p.1) cs = cs') : Instr.fill place cs ((i, .agg v) :: rest) = Instr.fill place cs' rest := by
  have hc : (decide ((Value.agg v).cells.size ≠ v.size) || decide (off + (Value.agg v).cells.size > cs.size)) = false := by
    rw [show (Value.agg v).cells = v from rfl]
    simp
    omega
  rw [Instr.fill, hp]
  show (if (decide ((Value.agg v).cells.size ≠ v.size) || decide (off + (Value.agg v).cells.size > cs.size)) = true then none else _) = _
  rw [hc, if_neg (by decide), ← h]
  rfl
theorem fill_0 {place : Nat → Option (Nat × Nat)} {rest : List (Nat × Value)} (hs : a.size = v.size) (hp : place 0 = some (0, v.size)) : Instr.fill place (quad a b c d) ((0, .agg v) :: rest) = Instr.fill place (quad v b c d) rest :=
  fill_part hp (by rw [quad_size]; omega) (by
    have h := lay_mid (x := #[]) (y := a) (z := b ++ c ++ d) (v := v) (off := 0) rfl hs
    simpa [quad] using h)
theorem fill_1 {place : Nat → Option (Nat × Nat)} {rest : List (Nat × Value)} (ha : a.size = n) (hs : b.size = v.size) (hp : place 1 = some (n, v.size)) : Instr.fill place (quad a b c d) ((1, .agg v) :: rest) = Instr.fill place (quad a v c d) rest :=
  fill_part hp (by rw [quad_size]; omega) (by
    have h := lay_mid (x := a) (y := b) (z := c ++ d) (v := v) ha hs
    simpa [quad] using h)
theorem fill_2 {place : Nat → Option (Nat × Nat)} {rest : List (Nat × Value)} (ha : a.size + b.size = n) (hs : c.size = v.size) (hp : place 2 = some (n, v.size)) : Instr.fill place (quad a b c d) ((2, .agg v) :: rest) = Instr.fill place (quad a b v d) rest :=
  fill_part hp (by rw [quad_size]; omega) (by
    have h := lay_mid (x := a ++ b) (y := c) (z := d) (v := v) (by simpa using ha) hs
    simpa [quad] using h)
theorem fill_3 {place : Nat → Option (Nat × Nat)} {rest : List (Nat × Value)} (ha : a.size + b.size + c.size = n) (hs : d.size = v.size) (hp : place 3 = some (n, v.size)) : Instr.fill place (quad a b c d) ((3, .agg v) :: rest) = Instr.fill place (quad a b c v) rest :=
  fill_part hp (by rw [quad_size]; omega) (by
    have h := lay_mid (x := a ++ b ++ c) (y := d) (z := #[]) (v := v) (off := n) (by simp; omega) hs
    simpa [quad] using h)
end
end Go.Proofs.Ytfejabfmhddepaa

