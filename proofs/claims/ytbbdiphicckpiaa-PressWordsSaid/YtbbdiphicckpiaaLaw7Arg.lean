/- Layer 7's laws over arguments as they come in. -/
import Derived.Test.YtbbdiphicckpiaaArrArg
import Derived.Test.YtbbdiphicckpiaaLaw7Rotr
import Derived.Test.YtbbdiphicckpiaaLaw7Bits
import Derived.Test.YtbbdiphicckpiaaLaw7Schedule
import Derived.Test.YtbbdiphicckpiaaLaw7Tells
namespace Go.Proofs.Ytbbdiphicckpiaa
open Go.RowKit
set_option linter.unusedVariables false
set_option maxRecDepth 100000

theorem word_int {a : Int} (h : (Lit.int .u64 a).wf = true) : ∃ x : W64, a = (x.toNat : Int) := by
  have hb : 0 ≤ a ∧ a < 18446744073709551616 := by
    simp [Lit.wf, IntKind.min, IntKind.max, IntKind.signed, IntKind.bits] at h
    omega
  refine ⟨BitVec.ofInt 64 a, ?_⟩
  rw [BitVec.toNat_ofInt]
  omega
theorem st_of {l : List W64} (h : l.length = 8) : ∃ s : St, l = s.l := by
  match l, h with
  | [a, b, c, d, e, f, g, i], _ => exact ⟨⟨a, b, c, d, e, f, g, i⟩, rfl⟩

theorem law7RotrI (P : PressC) (a n k : Int) (w : World) (ha : (Lit.int .u64 a).wf = true) (n1 : -9223372036854775808 ≤ n) (n2 : n ≤ 9223372036854775807) (k1 : -9223372036854775808 ≤ k) (k2 : k ≤ 9223372036854775807) :
    Calls Try.prog 5 #[.int .u64 a, .int .i64 n, .int .i64 k] w fun e w' => e = .returned (.bool true) ∧ Below w.heap.size w w' := by
  obtain ⟨x, rfl⟩ := word_int ha
  exact law7Rotr P x n k n1 n2 k1 k2 w
theorem law7BitsI (P : PressC) (a b c : Int) (w : World) (ha : (Lit.int .u64 a).wf = true) (hb : (Lit.int .u64 b).wf = true) (hc : (Lit.int .u64 c).wf = true) :
    Calls Try.prog 6 #[.int .u64 a, .int .u64 b, .int .u64 c] w fun e w' => e = .returned (.bool true) ∧ Below w.heap.size w w' := by
  obtain ⟨x, rfl⟩ := word_int ha
  obtain ⟨y, rfl⟩ := word_int hb
  obtain ⟨z, rfl⟩ := word_int hc
  exact law7Bits P x y z w
theorem law7TellsI (P : PressC) (l m : List W64) (hl : l.length = 8) (hm : m.length = 16) (a b c n : Int) (w : World) (ha : (Lit.int .u64 a).wf = true) (hb : (Lit.int .u64 b).wf = true) (hc : (Lit.int .u64 c).wf = true) (n1 : -9223372036854775808 ≤ n) (n2 : n ≤ 9223372036854775807) :
    Calls Try.prog 3 #[.agg (tabW l), .agg (tabW m), .int .u64 a, .int .u64 b, .int .u64 c, .int .i64 n] w fun e w' => e = .returned (.bool true) ∧ Below w.heap.size w w' := by
  obtain ⟨s, rfl⟩ := st_of hl
  obtain ⟨x, rfl⟩ := word_int ha
  obtain ⟨y, rfl⟩ := word_int hb
  obtain ⟨z, rfl⟩ := word_int hc
  exact law7Tells P s m hm x y z n n1 n2 w
end Go.Proofs.Ytbbdiphicckpiaa

