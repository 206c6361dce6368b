/- The contracts of bootjackref1, told in a world later than the one in which the arguments were known. -/
import Derived.Test.YtlbododoooibbaaRefE
namespace Go.Proofs.Ytlbododoooibbaa
open Go.RowKit
set_option linter.unusedVariables false
section
variable {w W : World} {A1 A2 A3 : Option Addr} {l m p : List UInt8} {n1 n2 n3 c1 c2 c3 : Nat}

theorem blankPost_in {n : Int} {K : Nat} (hb : Below w.heap.size w W) (hK : Hid (K = (max 0 (min n 65536)).toNat)) : ∀ e w', BlankPost W n e w' → RetIn 5 w (List.replicate K 255) e w' := by
  rintro e w' ⟨v, he, ho, hw⟩
  rw [← hK.out] at ho
  exact retIn_of hb e w' ⟨v, he, ho, hw⟩
theorem blankN_in {n : Int} {K : Nat} (hb : Below w.heap.size w W) (hK : Hid (K = (max 0 (min n 65536)).toNat)) (hn1 : -9223372036854775808 ≤ n) (hn2 : n ≤ 9223372036854775807) :
    Calls Try.prog 10 #[.int .i64 n] W (RetIn 5 w (List.replicate K 255)) :=
  (blank_any n W hn1 hn2).mono (blankPost_in hb hK)
theorem rblankN_in {n : Int} {K : Nat} (hb : Below w.heap.size w W) (hK : Hid (K = (max 0 (min n 65536)).toNat)) (hn1 : -9223372036854775808 ≤ n) (hn2 : n ≤ 9223372036854775807) :
    Calls Try.prog 11 #[.int .i64 n] W (RetIn 5 w (List.replicate K 255)) :=
  (rblank_any n W hn1 hn2).mono (blankPost_in hb hK)
theorem risBlank_in {b : Bool} (hb : Below w.heap.size w W) (H : Hid (l.all (· == 255) = b)) (h1 : Bs W A1 l) (e1 : n1 = l.length) (hl : n1 ≤ 65536) :
    Calls Try.prog 13 #[.slice A1 n1 c1] W (BoolIn w b) := by
  subst e1
  rw [← H.out]
  exact (risBlank_any A1 l c1 W h1 (by omega)).mono fun e w' ⟨he, hw⟩ => ⟨he, hw ▸ hb⟩
theorem rcan_in {b : Bool} (hb : Below w.heap.size w W) (H : Hid (canB l m = b)) (h1 : Bs W A1 l) (h2 : Bs W A2 m) (e1 : n1 = l.length) (e2 : n2 = m.length) (hl : n1 ≤ 65536) :
    Calls Try.prog 15 #[.slice A1 n1 c1, .slice A2 n2 c2] W (BoolIn w b) := by
  subst e1
  subst e2
  exact (rcan_is H h1 h2 (by omega)).mono fun e w' ⟨he, n, hw⟩ => boolIn_of hb e w' ⟨he, n, hw⟩
theorem rrisen_in {b : Bool} (hb : Below w.heap.size w W) (H : Hid (canB m l = b)) (h1 : Bs W A1 l) (h2 : Bs W A2 m) (e1 : n1 = l.length) (e2 : n2 = m.length) (hl : n2 ≤ 65536) :
    Calls Try.prog 25 #[.slice A1 n1 c1, .slice A2 n2 c2] W (BoolIn w b) := by
  subst e1
  subst e2
  rw [← H.out]
  exact (rrisen_any A1 A2 l m c1 c2 W h1 h2 (by omega)).mono (boolIn_of hb)
theorem rbetween_in {b : Bool} (hb : Below w.heap.size w W) (H : Hid ((canB l p && canB p m) = b)) (h1 : Bs W A1 l) (h2 : Bs W A2 m) (h3 : Bs W A3 p) (e1 : n1 = l.length) (e2 : n2 = m.length) (e3 : n3 = p.length) (hl : n1 ≤ 65536) (hp : n3 ≤ 65536) :
    Calls Try.prog 21 #[.slice A1 n1 c1, .slice A2 n2 c2, .slice A3 n3 c3] W (BoolIn w b) := by
  subst e1
  subst e2
  subst e3
  rw [← H.out]
  exact (rbetween_any A1 A2 A3 l m p c1 c2 c3 W h1 h2 h3 (by omega) (by omega)).mono (boolIn_of hb)
theorem rhalf_in (hb : Below w.heap.size w W) (h1 : Bs W A1 l) (h2 : Bs W A2 m) (e1 : n1 = l.length) (e2 : n2 = m.length) (hl : n1 ≤ 65536) (hm : n2 ≤ 65536) :
    Calls Try.prog 23 #[.slice A1 n1 c1, .slice A2 n2 c2] W (RetIn 5 w (halfB l m)) := by
  subst e1
  subst e2
  exact (rhalf_any A1 A2 l m c1 c2 W h1 h2 (by omega) (by omega)).mono (retIn_of hb)
theorem rtorn_in (hb : Below w.heap.size w W) (h1 : Bs W A1 l) (h2 : Bs W A2 m) (h3 : Bs W A3 p) (e1 : n1 = l.length) (e2 : n2 = m.length) (e3 : n3 = p.length) (hl : n1 ≤ 65536) (hm : n2 ≤ 65536) (hp : n3 ≤ 65536) :
    Calls Try.prog 19 #[.slice A1 n1 c1, .slice A2 n2 c2, .slice A3 n3 c3] W (RetIn 5 w (if canB l m then tornB l m p else [])) := by
  subst e1
  subst e2
  subst e3
  exact (rtorn_any A1 A2 A3 l m p c1 c2 c3 W h1 h2 h3 (by omega) (by omega) (by omega)).mono (retIn_of hb)
theorem rprogram_in (hb : Below w.heap.size w W) (h1 : Bs W A1 l) (h2 : Bs W A2 m) (e1 : n1 = l.length) (e2 : n2 = m.length) (hl : n1 ≤ 65536) (hm : n2 ≤ 65536) :
    Calls Try.prog 17 #[.slice A1 n1 c1, .slice A2 n2 c2] W (RetIn 5 w (if canB l m then m else [])) := by
  subst e1
  subst e2
  exact (rprogram_any A1 A2 l m c1 c2 W h1 h2 (by omega) (by omega)).mono (retIn_of hb)
theorem program_r {r : List UInt8} (hb : Below w.heap.size w W) (hr : Hid ((if canB l m then m else []) = r)) (h1 : Bs W A1 l) (h2 : Bs W A2 m) (e1 : n1 = l.length) (e2 : n2 = m.length) (hl : n1 ≤ 65536) (hm : n2 ≤ 65536) :
    Calls Try.prog 16 #[.slice A1 n1 c1, .slice A2 n2 c2] W (RetIn 5 w r) := by
  rw [← hr.out]; exact program_in hb h1 h2 e1 e2 hl hm
theorem rprogram_r {r : List UInt8} (hb : Below w.heap.size w W) (hr : Hid ((if canB l m then m else []) = r)) (h1 : Bs W A1 l) (h2 : Bs W A2 m) (e1 : n1 = l.length) (e2 : n2 = m.length) (hl : n1 ≤ 65536) (hm : n2 ≤ 65536) :
    Calls Try.prog 17 #[.slice A1 n1 c1, .slice A2 n2 c2] W (RetIn 5 w r) := by
  rw [← hr.out]; exact rprogram_in hb h1 h2 e1 e2 hl hm
theorem torn_r {r : List UInt8} (hb : Below w.heap.size w W) (hr : Hid ((if canB l m then tornB l m p else []) = r)) (h1 : Bs W A1 l) (h2 : Bs W A2 m) (h3 : Bs W A3 p) (e1 : n1 = l.length) (e2 : n2 = m.length) (e3 : n3 = p.length) (hl : n1 ≤ 65536) (hm : n2 ≤ 65536) (hp : n3 ≤ 65536) :
    Calls Try.prog 18 #[.slice A1 n1 c1, .slice A2 n2 c2, .slice A3 n3 c3] W (RetIn 5 w r) := by
  rw [← hr.out]; exact torn_in hb h1 h2 h3 e1 e2 e3 hl hm hp
theorem rtorn_r {r : List UInt8} (hb : Below w.heap.size w W) (hr : Hid ((if canB l m then tornB l m p else []) = r)) (h1 : Bs W A1 l) (h2 : Bs W A2 m) (h3 : Bs W A3 p) (e1 : n1 = l.length) (e2 : n2 = m.length) (e3 : n3 = p.length) (hl : n1 ≤ 65536) (hm : n2 ≤ 65536) (hp : n3 ≤ 65536) :
    Calls Try.prog 19 #[.slice A1 n1 c1, .slice A2 n2 c2, .slice A3 n3 c3] W (RetIn 5 w r) := by
  rw [← hr.out]; exact rtorn_in hb h1 h2 h3 e1 e2 e3 hl hm hp
end
end Go.Proofs.Ytlbododoooibbaa
