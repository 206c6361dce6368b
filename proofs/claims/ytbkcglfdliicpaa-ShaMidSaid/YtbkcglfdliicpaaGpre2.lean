/- What layer 7's walks ask of package press; the document's example. PressWords. PressTells walked. Written by wip/tools/mk_tells7.py. -/
import Derived.Test.YtbkcglfdliicpaaGpre
import Derived.Test.YtbkcglfdliicpaaGbase
namespace Go.Proofs.Ytbkcglfdliicpaa
open Go.RowKit
set_option linter.unusedVariables false
set_option maxRecDepth 100000

/-- what Words tells of bytes -/
def wordsV (l : List UInt8) : List W64 := if l.length = 128 then wordsL l else List.replicate 16 0
theorem wordsV_len (l : List UInt8) : (wordsV l).length = 16 := by
  unfold wordsV wordsL
  split
  · exact wordsTo_len _ _
  · simp

end Go.Proofs.Ytbkcglfdliicpaa

namespace Go.Proofs.Ytbkcglfdliicpaa
open Go.RowKit
set_option linter.unusedVariables false
set_option maxRecDepth 100000

theorem eq16 (l : List W64) (hl : l.length = 16) (u : World) : (binOp .eql 64 (.agg (tabW l)) (.agg (tabW l))).run Try.prog u = .ok (.bool true) u :=
  eqW_refl 64 48 16 l hl Try.underlying64 Try.underlying48 (fun w => by kernel_rfl) (fun w => by kernel_rfl) u
theorem eq16' (l : List W64) (hl : l.length = 16) (u : World) : (Op.equalIn 10000 64 (.agg (tabW l)) (.agg (tabW l))).run Try.prog u = .ok true u :=
  eqW_in 64 48 16 l hl Try.underlying64 Try.underlying48 (fun w => by kernel_rfl) (fun w => by kernel_rfl) u

end Go.Proofs.Ytbkcglfdliicpaa

namespace Go.Proofs.Ytbkcglfdliicpaa
open Go.RowKit
set_option linter.unusedVariables false
set_option maxRecDepth 100000

theorem run_load_row {P : Program} {ρ : Operand → Value} {o : Oper} {w : World} {ty : TypeId} {x : Operand} (ho : o.op = .load ty x) {g : Nat} (hx : ρ x = .pointer (some ⟨g, 0, none⟩)) {t : TypeId} {cs : Array Value} {fr : Nat × Nat} {d : TypeDesc} (hg : w.heap[g]? = some (.cells cs t fr))
    (hu : P.underlying ty = some d) (hd : (match d with | .struct _ | .array _ _ => true | _ => false) = true) (hi : (P.info? ty).map (·.size) = some cs.size) :
    (execOp ρ o).run P w = .ok (.value (.agg cs)) w := by
  unfold execOp
  simp only [ho, hx, Instr.loadAt, Instr.sureAddr, Sem.run_bind, Sem.run_pure, Result.andThen_ok, run_loadVar_row w g t ty cs fr d hg hu hd hi]

theorem run_eql_agg {P : Program} {ρ : Operand → Value} {o : Oper} {w : World} {T T' : TypeId} {x y : Operand} {cs : Array Value} {b : Bool} (ho : o.op = .binOp .eql T x y T') (hx : ρ x = .agg cs) (hy : ρ y = .agg cs) (hm : P.eqGuardType P.depth T = false)
    (he : (binOp .eql T (.agg cs) (.agg cs)).run P w = .ok (.bool b) w) : (execOp ρ o).run P w = .ok (.value (.bool b)) w := by
  unfold execOp
  simp only [ho, hx, hy, Sem.run_bind, run_eqGuard_agg w .eql T x y cs cs hm, Result.andThen_ok, he, Sem.run_pure]

theorem eq8 (l : List W64) (hl : l.length = 8) (u : World) : (binOp .eql 49 (.agg (tabW l)) (.agg (tabW l))).run Try.prog u = .ok (.bool true) u :=
  eqW_refl 49 48 8 l hl Try.underlying49 Try.underlying48 (fun w => by kernel_rfl) (fun w => by kernel_rfl) u
theorem eq80 (l : List W64) (hl : l.length = 80) (u : World) : (binOp .eql 54 (.agg (tabW l)) (.agg (tabW l))).run Try.prog u = .ok (.bool true) u :=
  eqW_refl 54 48 80 l hl Try.underlying54 Try.underlying48 (fun w => by kernel_rfl) (fun w => by kernel_rfl) u

end Go.Proofs.Ytbkcglfdliicpaa

