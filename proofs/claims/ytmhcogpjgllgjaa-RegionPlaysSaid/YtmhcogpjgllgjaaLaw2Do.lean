/- The contract of bootjacklaw2.do: a call on both flashes answers alike and leaves them alike. Written by wip/tools/mk_do2.py. -/
import Derived.Test.YtmhcogpjgllgjaaPair
import Derived.Deep.RegionHeld3
namespace Go.Proofs.Ytmhcogpjgllgjaa
open Go.RowKit
set_option linter.unusedVariables false

/-- what is known as a call begins -/
structure DoIn (N : Nat) (w : World) (p : Ad) (d : Dl) (f : Fl) (t n : Int) (A : Option Addr) (l : List UInt8) (c : Nat) : Prop where
  pair : Pair N w p d f
  sim : Sim d f
  ok : DlOk d
  rok : FlOk f
  bs : Bs w A l
  off : Off (AdF p) A l
  hc : l.length ≤ c
  hl : l.length ≤ 1100
  st : d.steps ≤ 1099511627776
  wn : ∀ x ∈ d.worn, x ≤ 1099511627776
  pos : 0 < d.worn.length
  t1 : -9223372036854775808 ≤ t
  t2 : t ≤ 9223372036854775807
  n1 : -9223372036854775808 ≤ n
  n2 : n ≤ 9223372036854775807

def DoPost (N : Nat) (w : World) (p : Ad) (d : Dl) (e : Ending) (w' : World) : Prop :=
  e = .returned (.bool true) ∧ ∃ d' f', Pair N w' p d' f' ∧ Sim d' f' ∧ NumFact d d' 1100 ∧ FlOk f' ∧ Only (AdF p) w w'

theorem NumFact.more {d d' : Dl} {s r : Int} (h : NumFact d d' s) (hr : s ≤ r) : NumFact d d' r := ⟨h.ok, by have := h.steps; omega, h.len, h.worn⟩
theorem bs_alloc {w : World} {A : Option Addr} {l : List UInt8} (h : Bs w A l) (o : Obj) : Bs (w.alloc o) A l := h.below ((Below.refl _ _).alloc (Nat.le_refl _) o)
theorem adF_lt {N : Nat} {w : World} {p : Ad} {d : Dl} {f : Fl} (h : Pair N w p d f) {j : Nat} (hj : w.heap.size ≤ j) : ¬ AdF p j := fun hf => by
  have := h.lo j hf
  have := h.size
  omega

def dspoilP (d : Dl) (t : Int) (l : List UInt8) : Int × Dl := (spoilCode d.b t l, dspoilOf d t l)
def rspoilP (f : Fl) (t : Int) (l : List UInt8) : Int × Fl := (spoilCode f.b t l, rspoilOf f t l)

end Go.Proofs.Ytmhcogpjgllgjaa

