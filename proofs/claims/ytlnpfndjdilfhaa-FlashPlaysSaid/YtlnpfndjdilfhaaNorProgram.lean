/- The contract of nor.Program. -/
import Derived.Test.YtlnpfndjdilfhaaNorCan
import Derived.Test.YtlnpfndjdilfhaaClone
namespace Go.Proofs.Ytlnpfndjdilfhaa
open Go.RowKit
set_option linter.unusedVariables false

set_option maxHeartbeats 400000 in
theorem program_yes (A1 A2 : Option Addr) (l m : List UInt8) (c1 c2 : Nat) (w : World) (Hc : Hid (canB l m = true)) (h1 : Bs w A1 l) (h2 : Bs w A2 m) (hl : l.length ≤ 2147483648) (hm : m.length ≤ 2147483648) :
    Calls Try.prog 52 #[.slice A1 l.length c1, .slice A2 m.length c2] w (RetOb 5 w m) := by
  go_enter Try.func52, Try.ntmps52
  go_wp2_with fail
  refine (can_is Hc h1 h2 hl).mono ?_
  rintro e w' ⟨rfl, n, rfl⟩
  go_wp2_with fail
  refine (clone_any A2 m c2 _ (h2.drewN n) hm).mono ?_
  rintro e w' ⟨v, rfl, ho, hb⟩
  go_wp2_with fail
  go_ret
  exact ⟨_, rfl, ho, below_of_drewN hb⟩

theorem program_no (A1 A2 : Option Addr) (l m : List UInt8) (c1 c2 : Nat) (w : World) (Hc : Hid (canB l m = false)) (h1 : Bs w A1 l) (h2 : Bs w A2 m) (hl : l.length ≤ 2147483648) :
    Calls Try.prog 52 #[.slice A1 l.length c1, .slice A2 m.length c2] w (RetOb 5 w []) := by
  go_enter Try.func52, Try.ntmps52
  go_wp2_with fail
  refine (can_is Hc h1 h2 hl).mono ?_
  rintro e w' ⟨rfl, n, rfl⟩
  go_wp2_with fail
  go_ret
  exact ⟨_, rfl, Ob.nil_ _ _ _, below_drewN' (Below.refl _ _) n⟩

theorem program_any (A1 A2 : Option Addr) (l m : List UInt8) (c1 c2 : Nat) (w : World) (h1 : Bs w A1 l) (h2 : Bs w A2 m) (hl : l.length ≤ 2147483648) (hm : m.length ≤ 2147483648) :
    Calls Try.prog 52 #[.slice A1 l.length c1, .slice A2 m.length c2] w (RetOb 5 w (if canB l m then m else [])) := by
  by_cases hc : canB l m = true
  · rw [if_pos hc]; exact program_yes A1 A2 l m c1 c2 w hc h1 h2 hl hm
  · rw [if_neg hc]; exact program_no A1 A2 l m c1 c2 w (show canB l m = false by simpa using hc) h1 h2 hl

section
variable {w W : World} {A1 A2 A3 : Option Addr} {l m p : List UInt8} {n1 n2 n3 c1 c2 c3 : Nat}

theorem program_in (hb : Below w.heap.size w W) (h1 : Bs W A1 l) (h2 : Bs W A2 m) (e1 : n1 = l.length) (e2 : n2 = m.length) (hl : n1 ≤ 65536) (hm : n2 ≤ 65536) :
    Calls Try.prog 52 #[.slice A1 n1 c1, .slice A2 n2 c2] W (RetIn 5 w (if canB l m then m else [])) := by
  subst e1
  subst e2
  exact (program_any A1 A2 l m c1 c2 W h1 h2 (by omega) (by omega)).mono (retIn_of hb)

theorem program_r {r : List UInt8} (hb : Below w.heap.size w W) (hr : Hid ((if canB l m then m else []) = r)) (h1 : Bs W A1 l) (h2 : Bs W A2 m) (e1 : n1 = l.length) (e2 : n2 = m.length) (hl : n1 ≤ 65536) (hm : n2 ≤ 65536) :
    Calls Try.prog 52 #[.slice A1 n1 c1, .slice A2 n2 c2] W (RetIn 5 w r) := by
  rw [← hr.out]; exact program_in hb h1 h2 e1 e2 hl hm
end
end Go.Proofs.Ytlnpfndjdilfhaa
