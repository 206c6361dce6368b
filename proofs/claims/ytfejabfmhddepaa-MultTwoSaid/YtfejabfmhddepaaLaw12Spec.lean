/- What layer 12's walks ask of package point. -/
import Derived.Test.YtfejabfmhddepaaRefPtC
namespace Go.Proofs.Ytfejabfmhddepaa
open Go.RowKit
set_option linter.unusedVariables false
set_option maxRecDepth 100000

/-- the cells c stand for the point p: 'R c p' -/
structure PtB (R : Array Value → PtD → Prop) : Prop where
  info : ∀ {c p}, R c p → (Try.prog.info? 28).map (·.size) = some c.size
  one : ∀ {c p}, R c p → c.all (·.oneCell') = true
  zero : ∃ Z, (∀ u, (zeroValue 28).run Try.prog u = .ok (.agg Z) u) ∧ ∀ {c p}, R c p → Z.size = c.size
abbrev PtZeroC (R : Array Value → PtD → Prop) : Prop := ∀ W : World, Calls Try.prog 22 #[] W (RetPt R W pzero)
abbrev PtBaseC (R : Array Value → PtD → Prop) : Prop := ∀ W : World, Calls Try.prog 27 #[] W (RetPt R W F25519.base)
abbrev PtDecodeC (R : Array Value → PtD → Prop) : Prop := ∀ (l : List UInt8), l.length = 32 → ∀ W : World, Calls Try.prog 29 #[.agg (arrB l)] W (RetPtB R W (decP l) (decF l))
abbrev PtEncodeC (R : Array Value → PtD → Prop) : Prop := ∀ {c p}, R c p → ∀ W : World, Calls Try.prog 11 #[.agg c] W (RetV W (.agg (bytT (F25519.encN p))))
abbrev PtDoubleC (R : Array Value → PtD → Prop) : Prop := ∀ {c p}, R c p → ∀ W : World, Calls Try.prog 28 #[.agg c] W (RetPt R W (padd p p))
abbrev PtAddC (R : Array Value → PtD → Prop) : Prop := ∀ {c p d q}, R c p → R d q → ∀ W : World, Calls Try.prog 19 #[.agg c, .agg d] W (RetPt R W (padd p q))
abbrev PtNegC (R : Array Value → PtD → Prop) : Prop := ∀ {c p}, R c p → ∀ W : World, Calls Try.prog 21 #[.agg c] W (RetPt R W (Ed.Pt.neg p))
abbrev PtEqualC (R : Array Value → PtD → Prop) : Prop := ∀ {c p d q}, R c p → R d q → ∀ W : World, Calls Try.prog 18 #[.agg c, .agg d] W (RetV W (.bool (ptEq p q)))
/-- package point, function by function -/
structure PtC (R : Array Value → PtD → Prop) : Prop where
  base : PtB R
  zero : PtZeroC R
  basep : PtBaseC R
  decode : PtDecodeC R
  encode : PtEncodeC R
  double : PtDoubleC R
  add : PtAddC R
  neg : PtNegC R
  equal : PtEqualC R
theorem rq_z {c : Array Value} {p : PtD} (h : RQ c p) : (refP 0 0 0 0).size = c.size := rq_size h
theorem pz_add (p : PtD) : padd pzero p = p := Ed.Pt.zero_add (hf := F25519.full) p
theorem padd_z (p : PtD) : padd p pzero = p := Ed.Pt.add_zero (hf := F25519.full) p
theorem padd_comm (p q : PtD) : padd p q = padd q p := Ed.Pt.add_comm (hf := F25519.full) p q
theorem padd_assoc (p q r : PtD) : padd (padd p q) r = padd p (padd q r) := Ed.Pt.add_assoc (hf := F25519.full) p q r
theorem padd_neg (p : PtD) : padd p (Ed.Pt.neg p) = pzero := Ed.Pt.add_neg (hf := F25519.full) p
theorem pneg_neg (p : PtD) : Ed.Pt.neg (Ed.Pt.neg p) = p := Ed.Pt.neg_neg p
theorem padd_back (p q : PtD) : padd (padd p q) (Ed.Pt.neg q) = p := by rw [padd_assoc, padd_neg, padd_z]
/-- so many doublings -/
def dblP : Nat → PtD → PtD
  | 0, p => p
  | k + 1, p => padd (dblP k p) (dblP k p)
/-- the point that the laws take of 32 bytes -/
def atP (l : List UInt8) : PtD := if decF l = true then decP l else dblP ((l.getD 0 0).toNat % 7) F25519.base
/-- two points come back, the program's and the reference's -/
def RetTwo (R : Array Value → PtD → Prop) (W : World) (p : PtD) (e : Ending) (w' : World) : Prop := ∃ c d, e = .returned (.tuple #[.agg c, .agg d]) ∧ R c p ∧ RQ d p ∧ Below W.heap.size W w'
theorem RowsW.new2 {W : World} {L : List RowT} (h : RowsW W L) (z cs y ds : Array Value) (t s : TypeId) : RowsW ((((W.alloc (.cells z t)).alloc (.cells y s)).setRow W.heap.size cs).setRow (W.heap.size + 1) ds) ((W.heap.size + 1, ds, s) :: (W.heap.size, cs, t) :: L) := by
  have a0 : (W.alloc (.cells z t)).heap[W.heap.size]? = some (.cells z t (0, 0)) := heap_alloc_new _ _
  have a1 : ((W.alloc (.cells z t)).alloc (.cells y s)).heap[W.heap.size]? = some (.cells z t (0, 0)) := by
    have hb := ((Below.refl (W.alloc (.cells z t)).heap.size (W.alloc (.cells z t))).alloc (Nat.le_refl _) (.cells y s)).block W.heap.size (by rw [World.size_alloc]; omega)
    rw [hb]; exact a0
  have b1 : ((W.alloc (.cells z t)).alloc (.cells y s)).heap[W.heap.size + 1]? = some (.cells y s (0, 0)) := by
    have := heap_alloc_new (W.alloc (.cells z t)) (.cells y s)
    rwa [World.size_alloc] at this
  have a2 := setRow_heap _ _ _ cs _ _ a1
  have b2 : (((W.alloc (.cells z t)).alloc (.cells y s)).setRow W.heap.size cs).heap[W.heap.size + 1]? = some (.cells y s (0, 0)) := by rw [setRow_other _ _ _ _ (by omega)]; exact b1
  refine ⟨setRow_heap _ _ _ _ _ _ b2, by rw [setRow_other _ _ _ _ (by omega)]; exact a2, h.below ?_⟩
  exact below_row (below_row (((Below.refl _ W).alloc (Nat.le_refl _) _).alloc (by rw [World.size_alloc]; omega) _) (Nat.le_refl _)) (by omega)
theorem below_new2 {w W : World} (h : Below w.heap.size w W) (z cs y ds : Array Value) (t s : TypeId) : Below w.heap.size w ((((W.alloc (.cells z t)).alloc (.cells y s)).setRow W.heap.size cs).setRow (W.heap.size + 1) ds) := by
  have hs := h.size
  exact below_row (below_row ((h.alloc hs _).alloc (by rw [World.size_alloc]; omega) _) hs) (by omega)
theorem heap_new2a (W : World) (z y : Array Value) (t s : TypeId) : ((W.alloc (.cells z t)).alloc (.cells y s)).heap[W.heap.size]? = some (.cells z t (0, 0)) := by
  have hb := ((Below.refl (W.alloc (.cells z t)).heap.size (W.alloc (.cells z t))).alloc (Nat.le_refl _) (.cells y s)).block W.heap.size (by rw [World.size_alloc]; omega)
  rw [hb]; exact heap_alloc_new _ _
theorem heap_new2b (W : World) (z y cs : Array Value) (t s : TypeId) : (((W.alloc (.cells z t)).alloc (.cells y s)).setRow W.heap.size cs).heap[W.heap.size + 1]? = some (.cells y s (0, 0)) := by
  rw [setRow_other _ _ _ _ (by omega)]
  have := heap_alloc_new (W.alloc (.cells z t)) (.cells y s)
  rwa [World.size_alloc] at this
theorem base_b : bytT (F25519.encN F25519.base) = arrB (88 :: List.replicate 31 102) := by
  unfold bytT
  rw [base_enc]
  exact congrArg arrB (by decide +kernel)
theorem eqBytF {x y : Nat} (hx : x < 256 ^ 32) (hy : y < 256 ^ 32) (h : ¬ x = y) (u : World) : (binOp .eql 22 (.agg (bytT x)) (.agg (bytT y))).run Try.prog u = .ok (.bool false) u := by
  have k := eqByt (leB_len 32 x) (leB_len 32 y) u
  rwa [decide_eq_false (fun e => h (leB_inj hx hy e))] at k
theorem results_2c {P : Program} {fn : Func} {p q : Tmp} {ty tz : TypeId} (h : fn.results = #[.cell p ty, .cell q tz]) (tmps : Array Value) (w : World) (g k : Nat) (t s : TypeId) (cs ds : Array Value) (fr fs : Nat × Nat) (d e : TypeDesc)
    (hp : tmps.getD p undef = .pointer (some ⟨g, 0, none⟩)) (hq : tmps.getD q undef = .pointer (some ⟨k, 0, none⟩)) (hg : w.heap[g]? = some (.cells cs t fr)) (hk : w.heap[k]? = some (.cells ds s fs))
    (hu : P.underlying ty = some d) (hd : (match d with | .struct _ | .array _ _ => true | _ => false) = true) (hi : (P.info? ty).map (·.size) = some cs.size)
    (hv : P.underlying tz = some e) (he : (match e with | .struct _ | .array _ _ => true | _ => false) = true) (hj : (P.info? tz).map (·.size) = some ds.size) :
    (results fn tmps).run P w = .ok (.tuple #[.agg cs, .agg ds]) w := by
  have hp' : tmps[p]?.getD undef = .pointer (some ⟨g, 0, none⟩) := by simpa using hp
  have hq' : tmps[q]?.getD undef = .pointer (some ⟨k, 0, none⟩) := by simpa using hq
  simp [results, h, hp', hq', asAddr, run_loadVar_row w g t ty cs fr d hg hu hd hi, run_loadVar_row w k s tz ds fs e hk hv he hj]
end Go.Proofs.Ytfejabfmhddepaa

