/- Steps for a region that draws its order: two operations that may both come up; a conversion, told as a whole. -/
import Derived.Test.YtbkcglfdliicpaaGbase
namespace Go.Proofs.Ytbkcglfdliicpaa
open Go.RowKit
section
variable {P : Program} {ops : Array Oper} {Q : Exit → Act → World → Prop} {md : Region.Mode} {S : World → Prop}

theorem call2_at (i j : Nat) {d d2 : Option Tmp} {op op2 : Op} {ty ty2 : TypeId} {pos pos2 : String} {after after2 : Array Edge} {guard guard2 : Option (Nat × Bool)} {fuel : Nat} {listed : Array Bool} {a : Act} {w : World}
    (ho : ops[i]? = some ⟨d, op, ty, pos, after, guard⟩) (ho2 : ops[j]? = some ⟨d2, op2, ty2, pos2, after2, guard2⟩) (hr : Region.ready md ops listed = [i, j])
    (hw : Region.wanted ⟨d, op, ty, pos, after, guard⟩ (yielded ops a.tmps) = true) (hw2 : Region.wanted ⟨d2, op2, ty2, pos2, after2, guard2⟩ (yielded ops a.tmps) = true)
    (h : ∀ K' : Act → World → Prop, Shut (∀ a w, S w → (S w → wpAnyH P md ops Q S fuel (listed.setIfInBounds i true) a w) → K' a w) → Oper.wp P ⟨d, op, ty, pos, after, guard⟩ a w K' Q)
    (h2 : ∀ K' : Act → World → Prop, Shut (∀ a w, S w → (S w → wpAnyH P md ops Q S fuel (listed.setIfInBounds j true) a w) → K' a w) → Oper.wp P ⟨d2, op2, ty2, pos2, after2, guard2⟩ a w K' Q) :
    wpAnyH P md ops Q S (fuel + 1) listed a w :=
  wpAnyH_ready hr (by simp) (AllReadyH.cons ho (fun K' hK => by rw [if_pos hw]; exact h K' hK) (AllReadyH.cons ho2 (fun K' hK => by rw [if_pos hw2]; exact h2 K' hK) AllReadyH.nil))

theorem run_conv_op {ρ : Operand → Value} {o : Oper} {w : World} {src dst : TypeId} {x : Operand} {v s : Value} (ho : o.op = .convert src dst x) (hx : ρ x = v) (h : (convert src dst v).run P w = .ok s w) :
    (execOp ρ o).run P w = .ok (.value s) w := by
  unfold execOp
  simp only [ho, hx, Sem.run_bind, h, Result.andThen_ok, Sem.run_pure]
end
end Go.Proofs.Ytbkcglfdliicpaa

