/- Layer 6: the reference's Square and Cube; alive; RootsTell. RootsWhole. RootsPrimes. RootsNear. -/
import Derived.Test.YtfejabfmhddepaaGroo2
namespace Go.Proofs.Ytfejabfmhddepaa
open Go.RowKit
set_option linter.unusedVariables false
set_option maxRecDepth 100000

theorem sqv_2 : sqv false 2 = 7640891576956012808 := by
  unfold sqv
  rw [if_pos (by omega), rt_eq false (y := 26087635650665564424) (by omega) (by decide) (by decide)]
theorem cuv_2 : sqv true 2 = 4794697086780616226 := by
  unfold sqv
  rw [if_pos (by omega), rt_eq true (y := 23241441160490167842) (by omega) (by decide) (by decide)]

/-- the call returns a slice of the first K primes -/
def PrimesPost (w : World) (K : Nat) (e : Ending) (w' : World) : Prop :=
  ∃ A c, e = .returned (.slice A K c) ∧ Us w' A (P100.take K) ∧ Below w.heap.size w w'

theorem primes_post {w w' : World} {e : Ending} {n : Int} {K : Nat} (hK : clampN n = K) (h : ∃ v, e = .returned v ∧ Uo 24 w' w.heap.size v (P100.take (clampN n)) ∧ Below w.heap.size w w') : PrimesPost w K e w' := by
  obtain ⟨v, rfl, ho, hb⟩ := h
  have hl : (P100.take K).length = K := by
    rw [List.length_take, P100_len, ← hK]
    unfold clampN
    omega
  rw [hK] at ho
  obtain ⟨A, c, rfl, hu, -⟩ := ho.form
  exact ⟨A, c, by rw [hl], hu, hb⟩

end Go.Proofs.Ytfejabfmhddepaa

namespace Go.Proofs.Ytfejabfmhddepaa
open Go.RowKit
set_option linter.unusedVariables false
set_option maxRecDepth 100000

theorem and_ones (n k : Nat) (m : Nat) (hm : 2 ^ k - 1 = m) (hn : n < 18446744073709551616) (hml : m < 18446744073709551616) : bits .and .u64 (n : Int) (m : Int) = ((n % 2 ^ k : Nat) : Int) := by
  rw [u64_and_nat n m hn hml, ← hm, Nat.and_two_pow_sub_one_eq_mod]

theorem u64_bounds {p : Int} (hp : (Lit.int .u64 p).wf = true) : 0 ≤ p ∧ p ≤ 18446744073709551615 := by
  simpa [Lit.wf, IntKind.min, IntKind.max, IntKind.signed, IntKind.bits] using hp
end Go.Proofs.Ytfejabfmhddepaa

namespace Go.Proofs.Ytfejabfmhddepaa
open Go.RowKit
set_option linter.unusedVariables false
set_option maxRecDepth 100000

theorem i64_bounds {p : Int} (hp : (Lit.int .i64 p).wf = true) : -9223372036854775808 ≤ p ∧ p ≤ 9223372036854775807 := by
  simpa [Lit.wf, IntKind.min, IntKind.max, IntKind.signed, IntKind.bits] using hp
end Go.Proofs.Ytfejabfmhddepaa

namespace Go.Proofs.Ytfejabfmhddepaa
open Go.RowKit
set_option linter.unusedVariables false
set_option maxRecDepth 100000

def NearCut (w wx : World) : Prop := Hid (Below w.heap.size w wx)

end Go.Proofs.Ytfejabfmhddepaa

