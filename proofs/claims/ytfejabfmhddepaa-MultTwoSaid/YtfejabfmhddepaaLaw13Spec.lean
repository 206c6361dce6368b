/- What layer 13's walks ask of packages mult and scalar. -/
import Derived.Test.YtfejabfmhddepaaLaw12Spec
import Derived.Test.YtfejabfmhddepaaMulN
import Derived.Test.YtfejabfmhddepaaMod11
namespace Go.Proofs.Ytfejabfmhddepaa
open Go.RowKit
set_option linter.unusedVariables false
set_option maxRecDepth 100000

abbrev MuMultC (R : Array Value → PtD → Prop) : Prop := ∀ (l : List UInt8), l.length = 32 → ∀ {c p}, R c p → ∀ W : World, Calls Try.prog 12 #[.agg (arrB l), .agg c] W (RetPt R W (pmul (leN l) p))
abbrev MuBaseC (R : Array Value → PtD → Prop) : Prop := ∀ (l : List UInt8), l.length = 32 → ∀ W : World, Calls Try.prog 15 #[.agg (arrB l)] W (RetPt R W (pmul (leN l) F25519.base))
abbrev MuTwoC (R : Array Value → PtD → Prop) : Prop := ∀ (l m : List UInt8), l.length = 32 → m.length = 32 → ∀ {c p}, R c p → ∀ W : World, Calls Try.prog 26 #[.agg (arrB l), .agg c, .agg (arrB m)] W (RetPt R W (padd (pmul (leN l) p) (pmul (leN m) F25519.base)))
/-- package mult, function by function -/
structure MuC (R : Array Value → PtD → Prop) : Prop where
  mult : MuMultC R
  base : MuBaseC R
  two : MuTwoC R
abbrev ScOrderC : Prop := ∀ W : World, Calls Try.prog 24 #[] W (RetV W (.agg (bytT LL)))
abbrev ScAddC : Prop := ∀ l m : List UInt8, l.length = 32 → m.length = 32 → ∀ W : World, Calls Try.prog 23 #[.agg (arrB l), .agg (arrB m)] W (RetV W (.agg (bytT ((leN l + leN m) % LL))))
abbrev ScMulAddC : Prop := ∀ l m n : List UInt8, l.length = 32 → m.length = 32 → n.length = 32 → ∀ W : World, Calls Try.prog 25 #[.agg (arrB l), .agg (arrB m), .agg (arrB n)] W (RetV W (.agg (bytT ((leN l * leN m + leN n) % LL))))
/-- what layer 13 calls of package scalar -/
structure Sc13C : Prop where
  order : ScOrderC
  add : ScAddC
  mulAdd : ScMulAddC
theorem LL_is : LL = F25519.L := by decide +kernel
theorem LL_lt : LL < 256 ^ 32 := by decide
theorem modLL_lt (x : Nat) : x % LL < 256 ^ 32 := Nat.lt_trans (Nat.mod_lt _ (by decide)) LL_lt
theorem base_modLL (n : Nat) : pmul (n % LL) F25519.base = pmul n F25519.base := by rw [LL_is]; exact base_mod n
theorem base_LL : pmul LL F25519.base = pzero := by rw [LL_is]; exact base_L
theorem topC_lt {l : List UInt8} (h : l.length = 32) : leN (topC l) < TT := by rw [leN_topC h]; exact Nat.mod_lt _ (by decide)
theorem two_tops {l m : List UInt8} (h : l.length = 32) (k : m.length = 32) : leN (topC l) + leN (topC m) < 256 ^ 32 := by
  have a := topC_lt h
  have b := topC_lt k
  have c := two256
  omega
theorem top_one {l : List UInt8} (h : l.length = 32) : leN (topC l) + 1 < 256 ^ 32 := by
  have a := topC_lt h
  have c := two256
  unfold TT at *
  omega
theorem run_emp {a : Act} {o : Oper} (ho : o.op = .build 22 #[]) (W : World) : (execOp (Act.eval a) o).run Try.prog W = .ok (.value (.agg (bytT 0))) W := by
  unfold execOp
  simp only [ho]
  kernel_rfl
theorem run_one {a : Act} {o : Oper} (ho : o.op = .build 22 #[(0, .const (.int .u8 1))]) (W : World) : (execOp (Act.eval a) o).run Try.prog W = .ok (.value (.agg (bytT 1))) W := by
  have h : (Instr.build 22 #[(0, .int .u8 1)]).run Try.prog W = .ok (.agg (bytT 1)) W := by kernel_rfl
  unfold execOp
  simp only [ho]
  simp [Act.eval, h]
theorem run_two {a : Act} {o : Oper} (ho : o.op = .build 22 #[(0, .const (.int .u8 2))]) (W : World) : (execOp (Act.eval a) o).run Try.prog W = .ok (.value (.agg (bytT 2))) W := by
  have h : (Instr.build 22 #[(0, .int .u8 2)]).run Try.prog W = .ok (.agg (bytT 2)) W := by kernel_rfl
  unfold execOp
  simp only [ho]
  simp [Act.eval, h]
end Go.Proofs.Ytfejabfmhddepaa

