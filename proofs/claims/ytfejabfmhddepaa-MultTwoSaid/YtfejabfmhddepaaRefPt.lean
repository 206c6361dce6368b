/- The reference's points: four numbers' digits in a row. -/
import Derived.Test.YtfejabfmhddepaaPart
import Derived.Test.YtfejabfmhddepaaPtN4
import Derived.Test.YtfejabfmhddepaaLaw9Spec
namespace Go.Proofs.Ytfejabfmhddepaa
open Go.RowKit
set_option linter.unusedVariables false
set_option maxRecDepth 100000

/-- a reference's point -/
def refP (X Y Z T : Nat) : Array Value := quad (refT X) (refT Y) (refT Z) (refT T)
theorem refT_len (x : Nat) : (refT x).size = 16 := by unfold refT; rw [tabI_size, dgN_len]
theorem refP_size (X Y Z T : Nat) : (refP X Y Z T).size = 64 := by unfold refP; rw [quad_size, refT_len, refT_len, refT_len, refT_len]
theorem refP_sizes (X Y Z T X' Y' Z' T' : Nat) : (refP X Y Z T).size = (refP X' Y' Z' T').size := by rw [refP_size, refP_size]
theorem refP_info (X Y Z T : Nat) : (Try.prog.info? 33).map (·.size) = some (refP X Y Z T).size := by rw [refP_size]; kernel_rfl
theorem refP_one (X Y Z T : Nat) : (refP X Y Z T).all (·.oneCell') = true := by unfold refP; rw [quad_one, refT_one, refT_one, refT_one, refT_one]; rfl
theorem refP_0 (X Y Z T j : Nat) (h : j < (refT X).size) : (refP X Y Z T)[0 + j]? = (refT X)[j]? := quad_0 j h
theorem refP_1 (X Y Z T j : Nat) (h : j < (refT Y).size) : (refP X Y Z T)[16 + j]? = (refT Y)[j]? := quad_1 (refT_len X) j h
theorem refP_2 (X Y Z T j : Nat) (h : j < (refT Z).size) : (refP X Y Z T)[32 + j]? = (refT Z)[j]? := quad_2 (m := 32) (by rw [refT_len, refT_len]) j h
theorem refP_3 (X Y Z T j : Nat) (h : j < (refT T).size) : (refP X Y Z T)[48 + j]? = (refT T)[j]? := quad_3 (m := 48) (by rw [refT_len, refT_len, refT_len]) j h
theorem refP_zero (u : World) : (zeroValue 33).run Try.prog u = .ok (.agg (refP 0 0 0 0)) u := by kernel_rfl
/-- where the four parts of a point lie -/
def placeP : Array (Nat × Nat) := #[(0, 16), (16, 16), (32, 16), (48, 16)]
theorem refP_under : ∃ f : Array Field, Try.prog.underlying 33 = some (.struct f) ∧ ∀ w : World, (f.mapM fun x => (do pure (x.offset, ← sizeOf x.type) : Sem (Nat × Nat))).run Try.prog w = .ok placeP w :=
  ⟨_, Try.underlying33, fun w => by kernel_rfl⟩
theorem run_build_of {parts : Array (Nat × Value)} {cells : Array Value} (w : World) (h : Instr.fill (fun i => placeP[i]?) (refP 0 0 0 0) parts.toList = some cells) :
    (Instr.build 33 parts).run Try.prog w = .ok (.agg cells) w := by
  obtain ⟨f, hu, hp⟩ := refP_under
  unfold Instr.build
  rw [Sem.run_bind, refP_zero w, Result.andThen_ok]
  simp only [Sem.run_bind, run_underlying hu w, Result.andThen_ok]
  rw [hp w]
  simp only [Result.andThen_ok, Value.cells]
  have h' : Instr.fill (fun x => placeP[x]?) (refP 0 0 0 0) parts.toList = some cells := h
  rw [h']
  rfl
theorem run_build4 {ρ : Operand → Value} {o : Oper} {w : World} {x0 x1 x2 x3 : Operand} {a b c d : Nat} (ho : o.op = .build 33 #[(0, x0), (1, x1), (2, x2), (3, x3)])
    (h0 : ρ x0 = .agg (refT a)) (h1 : ρ x1 = .agg (refT b)) (h2 : ρ x2 = .agg (refT c)) (h3 : ρ x3 = .agg (refT d)) :
    (execOp ρ o).run Try.prog w = .ok (.value (.agg (refP a b c d))) w := by
  have h := run_build_of (parts := #[(0, .agg (refT a)), (1, .agg (refT b)), (2, .agg (refT c)), (3, .agg (refT d))]) (cells := refP a b c d) w (by
    show Instr.fill _ (quad _ _ _ _) ((0, .agg (refT a)) :: (1, .agg (refT b)) :: (2, .agg (refT c)) :: (3, .agg (refT d)) :: []) = _
    rw [fill_0 (by rw [refT_len, refT_len]) (by rw [refT_len]; rfl), fill_1 (n := 16) (by rw [refT_len]) (by rw [refT_len, refT_len]) (by rw [refT_len]; rfl), fill_2 (n := 32) (by rw [refT_len, refT_len]) (by rw [refT_len, refT_len]) (by rw [refT_len]; rfl), fill_3 (n := 48) (by rw [refT_len, refT_len, refT_len]) (by rw [refT_len, refT_len]) (by rw [refT_len]; rfl)]
    rfl)
  unfold execOp
  simp only [ho, List.map_toArray, List.map_cons, List.map_nil, h0, h1, h2, h3, Sem.run_bind, h, Result.andThen_ok, Sem.run_pure]
theorem run_build2 {ρ : Operand → Value} {o : Oper} {w : World} {x1 x2 : Operand} {b c : Nat} (ho : o.op = .build 33 #[(1, x1), (2, x2)])
    (h1 : ρ x1 = .agg (refT b)) (h2 : ρ x2 = .agg (refT c)) :
    (execOp ρ o).run Try.prog w = .ok (.value (.agg (refP 0 b c 0))) w := by
  have h := run_build_of (parts := #[(1, .agg (refT b)), (2, .agg (refT c))]) (cells := refP 0 b c 0) w (by
    show Instr.fill _ (quad _ _ _ _) ((1, .agg (refT b)) :: (2, .agg (refT c)) :: []) = _
    rw [fill_1 (n := 16) (by rw [refT_len]) (by rw [refT_len, refT_len]) (by rw [refT_len]; rfl), fill_2 (n := 32) (by rw [refT_len, refT_len]) (by rw [refT_len, refT_len]) (by rw [refT_len]; rfl)]
    rfl)
  unfold execOp
  simp only [ho, List.map_toArray, List.map_cons, List.map_nil, h1, h2, Sem.run_bind, h, Result.andThen_ok, Sem.run_pure]
/-- the cells stand for the point -/
def RQ (c : Array Value) (p : PtD) : Prop := ∃ X Y Z T, c = refP X Y Z T ∧ Co X Y Z T p
/-- a point comes back, in whatever form -/
def RetPt (R : Array Value → PtD → Prop) (W : World) (p : PtD) (e : Ending) (w' : World) : Prop := ∃ c, e = .returned (.agg c) ∧ R c p ∧ Below W.heap.size W w'
/-- a point and a flag -/
def RetPtB (R : Array Value → PtD → Prop) (W : World) (p : PtD) (b : Bool) (e : Ending) (w' : World) : Prop := ∃ c, e = .returned (.tuple #[.agg c, .bool b]) ∧ R c p ∧ Below W.heap.size W w'
end Go.Proofs.Ytfejabfmhddepaa

