/- The contract of nor.Risen. -/
import Derived.Test.YtlnpfndjdilfhaaNorCan
namespace Go.Proofs.Ytlnpfndjdilfhaa
open Go.RowKit
set_option linter.unusedVariables false

set_option maxHeartbeats 400000 in
theorem risen_any (A1 A2 : Option Addr) (l m : List UInt8) (c1 c2 : Nat) (w : World) (h1 : Bs w A1 l) (h2 : Bs w A2 m) (hl : m.length ≤ 2147483648) :
    Calls Try.prog 23 #[.slice A1 l.length c1, .slice A2 m.length c2] w (RetB w (canB m l)) := by
  go_enter Try.func23, Try.ntmps23
  go_wp2_with fail
  refine (can_any A2 A1 m l c2 c1 _ h2 h1 hl).mono ?_
  rintro e w' ⟨rfl, n, rfl⟩
  go_wp2_with fail
  go_ret
  exact ⟨rfl, n, rfl⟩

section
variable {w W : World} {A1 A2 A3 : Option Addr} {l m p : List UInt8} {n1 n2 n3 c1 c2 c3 : Nat}

theorem risen_in {b : Bool} (hb : Below w.heap.size w W) (H : Hid (canB m l = b)) (h1 : Bs W A1 l) (h2 : Bs W A2 m) (e1 : n1 = l.length) (e2 : n2 = m.length) (hl : n2 ≤ 65536) :
    Calls Try.prog 23 #[.slice A1 n1 c1, .slice A2 n2 c2] W (BoolIn w b) := by
  subst e1
  subst e2
  rw [← H.out]
  exact (risen_any A1 A2 l m c1 c2 W h1 h2 (by omega)).mono (boolIn_of hb)
end
end Go.Proofs.Ytlnpfndjdilfhaa
