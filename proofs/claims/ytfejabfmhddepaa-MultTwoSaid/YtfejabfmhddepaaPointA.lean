/- The landed package point: a point's cells, what its functions give. -/
import Derived.Test.YtfejabfmhddepaaPtQ
import Derived.Test.YtfejabfmhddepaaPart
import Derived.Test.YtfejabfmhddepaaLaw12Spec
import Derived.Test.YtfejabfmhddepaaGpow2
namespace Go.Proofs.Ytfejabfmhddepaa
open Go.RowKit
set_option linter.unusedVariables false
set_option maxRecDepth 100000

theorem fe5_info : (Try.prog.info? 26).map (·.size) = some 5 := by kernel_rfl
theorem fe5 {R : Array Value → Nat → Prop} (C : FeB R) {a : Array Value} {x : Nat} (h : R a x) : a.size = 5 := by
  have k := C.info h
  rw [fe5_info] at k
  injection k with k
  exact k.symm
/-- the zero value of a number -/
def z5 : Array Value := #[.int .u64 0, .int .u64 0, .int .u64 0, .int .u64 0, .int .u64 0]
theorem z5_zero (u : World) : (zeroValue 26).run Try.prog u = .ok (.agg z5) u := by kernel_rfl
theorem z5_is {Z : Array Value} (h : ∀ u, (zeroValue 26).run Try.prog u = .ok (.agg Z) u) : Z = z5 := by
  have k := h default
  rw [z5_zero] at k
  injection k with k
  injection k with k
  exact k.symm
theorem zp_zero (u : World) : (zeroValue 28).run Try.prog u = .ok (.agg (quad z5 z5 z5 z5)) u := by kernel_rfl
theorem zp_of {Z : Array Value} (h : ∀ u, (zeroValue 26).run Try.prog u = .ok (.agg Z) u) (u : World) : (zeroValue 28).run Try.prog u = .ok (.agg (quad Z Z Z Z)) u := by
  rw [z5_is h]; exact zp_zero u
section
variable {R : Array Value → Nat → Prop} {a b d e : Array Value} {x y z t : Nat}
theorem pp_size (C : FeB R) (ha : R a x) (hb : R b y) (hd : R d z) (he : R e t) : (quad a b d e).size = 20 := by rw [quad_size, fe5 C ha, fe5 C hb, fe5 C hd, fe5 C he]
theorem pp_info (C : FeB R) (ha : R a x) (hb : R b y) (hd : R d z) (he : R e t) : (Try.prog.info? 28).map (·.size) = some (quad a b d e).size := by rw [pp_size C ha hb hd he]; kernel_rfl
theorem pp_one (C : FeB R) (ha : R a x) (hb : R b y) (hd : R d z) (he : R e t) : (quad a b d e).all (·.oneCell') = true := by rw [quad_one, C.one ha, C.one hb, C.one hd, C.one he]; rfl
theorem pp_0 (j : Nat) (h : j < a.size) : (quad a b d e)[0 + j]? = a[j]? := quad_0 j h
theorem pp_1 (ha : a.size = 5) (j : Nat) (h : j < b.size) : (quad a b d e)[5 + j]? = b[j]? := quad_1 ha j h
theorem pp_2 (ha : a.size = 5) (hb : b.size = 5) (j : Nat) (h : j < d.size) : (quad a b d e)[10 + j]? = d[j]? := quad_2 (m := 10) (by rw [ha, hb]) j h
theorem pp_3 (ha : a.size = 5) (hb : b.size = 5) (hd : d.size = 5) (j : Nat) (h : j < e.size) : (quad a b d e)[15 + j]? = e[j]? := quad_3 (m := 15) (by rw [ha, hb, hd]) j h
end
/-- where the four parts lie -/
def placeF : Array (Nat × Nat) := #[(0, 5), (5, 5), (10, 5), (15, 5)]
theorem pp_under : ∃ f : Array Field, Try.prog.underlying 28 = some (.struct f) ∧ ∀ w : World, (f.mapM fun x => (do pure (x.offset, ← sizeOf x.type) : Sem (Nat × Nat))).run Try.prog w = .ok placeF w :=
  ⟨_, Try.underlying28, fun w => by kernel_rfl⟩
theorem run_buildF {parts : Array (Nat × Value)} {cells : Array Value} (w : World) (h : Instr.fill (fun i => placeF[i]?) (quad z5 z5 z5 z5) parts.toList = some cells) :
    (Instr.build 28 parts).run Try.prog w = .ok (.agg cells) w := by
  obtain ⟨f, hu, hp⟩ := pp_under
  unfold Instr.build
  rw [Sem.run_bind, zp_zero w, Result.andThen_ok]
  simp only [Sem.run_bind, run_underlying hu w, Result.andThen_ok]
  rw [hp w]
  simp only [Result.andThen_ok, Value.cells]
  have h' : Instr.fill (fun x => placeF[x]?) (quad z5 z5 z5 z5) parts.toList = some cells := h
  rw [h']
  rfl
theorem run_buildF4 {ρ : Operand → Value} {o : Oper} {w : World} {x0 x1 x2 x3 : Operand} {a b c d : Array Value} (ho : o.op = .build 28 #[(0, x0), (1, x1), (2, x2), (3, x3)])
    (h0 : ρ x0 = .agg a) (h1 : ρ x1 = .agg b) (h2 : ρ x2 = .agg c) (h3 : ρ x3 = .agg d) (sa : a.size = 5) (sb : b.size = 5) (sc : c.size = 5) (sd : d.size = 5) :
    (execOp ρ o).run Try.prog w = .ok (.value (.agg (quad a b c d))) w := by
  have s5 : z5.size = 5 := rfl
  have h := run_buildF (parts := #[(0, .agg a), (1, .agg b), (2, .agg c), (3, .agg d)]) (cells := quad a b c d) w (by
    show Instr.fill _ (quad _ _ _ _) ((0, .agg a) :: (1, .agg b) :: (2, .agg c) :: (3, .agg d) :: []) = _
    rw [fill_0 (by rw [s5, sa]) (by rw [sa]; rfl), fill_1 (n := 5) sa (by rw [s5, sb]) (by rw [sb]; rfl), fill_2 (n := 10) (by rw [sa, sb]) (by rw [s5, sc]) (by rw [sc]; rfl), fill_3 (n := 15) (by rw [sa, sb, sc]) (by rw [s5, sd]) (by rw [sd]; rfl)]
    rfl)
  unfold execOp
  simp only [ho, List.map_toArray, List.map_cons, List.map_nil, h0, h1, h2, h3, Sem.run_bind, h, Result.andThen_ok, Sem.run_pure]
theorem run_buildF0 {ρ : Operand → Value} {o : Oper} {w : World} {Z : Array Value} (hZ : ∀ u, (zeroValue 28).run Try.prog u = .ok (.agg (quad Z Z Z Z)) u) (ho : o.op = .build 28 #[]) :
    (execOp ρ o).run Try.prog w = .ok (.value (.agg (quad Z Z Z Z))) w := by
  unfold execOp
  simp [ho, hZ, go_sem, Instr.build, Instr.fill]
theorem run_build5 {ρ : Operand → Value} {o : Oper} {w : World} {Z : Array Value} (hZ : ∀ u, (zeroValue 26).run Try.prog u = .ok (.agg Z) u) (ho : o.op = .build 26 #[]) :
    (execOp ρ o).run Try.prog w = .ok (.value (.agg Z)) w := by
  unfold execOp
  simp [ho, hZ, go_sem, Instr.build, Instr.fill]
/-- four numbers come back -/
def RetPP (R : Array Value → Nat → Prop) (W : World) (X Y Z T : Nat) (e : Ending) (w' : World) : Prop := ∃ a b d f, e = .returned (.agg (quad a b d f)) ∧ R a X ∧ R b Y ∧ R d Z ∧ R f T ∧ Below W.heap.size W w'
/-- four numbers that stand for the point come back -/
def RetCo (R : Array Value → Nat → Prop) (W : World) (p : PtD) (e : Ending) (w' : World) : Prop := ∃ a b d f X Y Z T, e = .returned (.agg (quad a b d f)) ∧ R a X ∧ R b Y ∧ R d Z ∧ R f T ∧ Co X Y Z T p ∧ Below W.heap.size W w'
/-- the cells stand for the point -/
def ptRof (R : Array Value → Nat → Prop) (c : Array Value) (p : PtD) : Prop := ∃ a b d f X Y Z T, c = quad a b d f ∧ R a X ∧ R b Y ∧ R d Z ∧ R f T ∧ Pq X Y Z T p
/-- what package powers asks of package fe -/
theorem FeC.pow {R : Array Value → Nat → Prop} (C : FeC R) : FePC R where
  base := C.base
  from_ := C.from_
  small := C.small
  mul := C.mul
  square := C.square
  neg := C.neg
  equal := C.equal
  odd := C.odd
end Go.Proofs.Ytfejabfmhddepaa

