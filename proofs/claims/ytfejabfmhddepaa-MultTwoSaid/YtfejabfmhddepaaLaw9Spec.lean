/- What layer 9's walks ask of package fe; the reference's contracts by plain numbers. -/
import Derived.Test.YtfejabfmhddepaaGff2
import Derived.Test.YtfejabfmhddepaaGheld
import Derived.Test.YtfejabfmhddepaaRetV
namespace Go.Proofs.Ytfejabfmhddepaa
open Go.RowKit
set_option linter.unusedVariables false
set_option maxRecDepth 100000

/-- a number's 32 bytes -/
def bytT (x : Nat) : Array Value := arrB (leB 32 x)
/-- a number comes back, in whatever form -/
def RetFe (R : Array Value → Nat → Prop) (W : World) (x : Nat) (e : Ending) (w' : World) : Prop := ∃ c, e = .returned (.agg c) ∧ R c x ∧ Below W.heap.size W w'
/-- the cells c stand for the number x: 'R c x' -/
structure FeB (R : Array Value → Nat → Prop) : Prop where
  lt : ∀ {c x}, R c x → x < PP
  info : ∀ {c x}, R c x → (Try.prog.info? 26).map (·.size) = some c.size
  one : ∀ {c x}, R c x → c.all (·.oneCell') = true
  zero : ∃ Z, (∀ u, (zeroValue 26).run Try.prog u = .ok (.agg Z) u) ∧ R Z 0
abbrev FeFromC (R : Array Value → Nat → Prop) : Prop := ∀ (l : List UInt8), l.length = 32 → ∀ W : World, Calls Try.prog 65 #[.agg (arrB l)] W (RetFe R W (feN l))
abbrev FeSmallC (R : Array Value → Nat → Prop) : Prop := ∀ (n : Nat), n < 18446744073709551616 → ∀ W : World, Calls Try.prog 59 #[.int .u64 (n : Int)] W (RetFe R W n)
abbrev FeCanC (R : Array Value → Nat → Prop) : Prop := ∀ (l : List UInt8), l.length = 32 → ∀ W : World, Calls Try.prog 67 #[.agg (arrB l)] W (RetV W (.bool (canN l)))
abbrev FeBytesC (R : Array Value → Nat → Prop) : Prop := ∀ {c x}, R c x → ∀ W : World, Calls Try.prog 39 #[.agg c] W (RetV W (.agg (bytT x)))
abbrev FeAddC (R : Array Value → Nat → Prop) : Prop := ∀ {c x d y}, R c x → R d y → ∀ W : World, Calls Try.prog 54 #[.agg c, .agg d] W (RetFe R W ((x + y) % PP))
abbrev FeSubC (R : Array Value → Nat → Prop) : Prop := ∀ {c x d y}, R c x → R d y → ∀ W : World, Calls Try.prog 53 #[.agg c, .agg d] W (RetFe R W ((x + (PP - y)) % PP))
abbrev FeMulC (R : Array Value → Nat → Prop) : Prop := ∀ {c x d y}, R c x → R d y → ∀ W : World, Calls Try.prog 38 #[.agg c, .agg d] W (RetFe R W ((x * y) % PP))
abbrev FeSquareC (R : Array Value → Nat → Prop) : Prop := ∀ {c x}, R c x → ∀ W : World, Calls Try.prog 66 #[.agg c] W (RetFe R W ((x * x) % PP))
abbrev FeNegC (R : Array Value → Nat → Prop) : Prop := ∀ {c x}, R c x → ∀ W : World, Calls Try.prog 57 #[.agg c] W (RetFe R W ((PP - x) % PP))
abbrev FeEqualC (R : Array Value → Nat → Prop) : Prop := ∀ {c x d y}, R c x → R d y → ∀ W : World, Calls Try.prog 52 #[.agg c, .agg d] W (RetV W (.bool (decide (x = y))))
abbrev FeIsZeroC (R : Array Value → Nat → Prop) : Prop := ∀ {c x}, R c x → ∀ W : World, Calls Try.prog 69 #[.agg c] W (RetV W (.bool (decide (x = 0))))
abbrev FeOddC (R : Array Value → Nat → Prop) : Prop := ∀ {c x}, R c x → ∀ W : World, Calls Try.prog 40 #[.agg c] W (RetV W (.bool (decide (x % 2 = 1))))
/-- package fe, function by function -/
structure FeC (R : Array Value → Nat → Prop) : Prop where
  base : FeB R
  from_ : FeFromC R
  small : FeSmallC R
  can : FeCanC R
  bytes : FeBytesC R
  add : FeAddC R
  sub : FeSubC R
  mul : FeMulC R
  square : FeSquareC R
  neg : FeNegC R
  equal : FeEqualC R
  isZero : FeIsZeroC R
  odd : FeOddC R

/-! The reference's. -/
/-- a reference's number -/
def refT (x : Nat) : Array Value := tabI (dgN 16 (x : Int))
theorem refT_info (x : Nat) : (Try.prog.info? 31).map (·.size) = some (refT x).size := info_fe (dgN_len _ _)
theorem refT_one (x : Nat) : (refT x).all (·.oneCell') = true := tabI_one _
theorem refT_zero (u : World) : (zeroValue 31).run Try.prog u = .ok (.agg (refT 0)) u := by
  have h := zero_fe u
  rwa [show tabI (List.replicate 16 0) = refT 0 by unfold refT; congr 1] at h
theorem bytT_info (x : Nat) : (Try.prog.info? 22).map (·.size) = some (bytT x).size := by unfold bytT; rw [arrB_size, leB_len]; kernel_rfl
theorem bytT_one (x : Nat) : (bytT x).all (·.oneCell') = true := arrB_one _
theorem arr32_info {l : List UInt8} (h : l.length = 32) : (Try.prog.info? 22).map (·.size) = some (arrB l).size := by rw [arrB_size, h]; kernel_rfl
theorem arr32_zero (u : World) : (zeroValue 22).run Try.prog u = .ok (.agg (arrB (List.replicate 32 0))) u := zero_arr 22 (arrB (List.replicate 32 0)) 32 (by kernel_rfl) u
/-- 32 bytes of 0 -/
def zero32 : Array Value := arrB (List.replicate 32 0)
theorem zero32_zero (u : World) : (zeroValue 22).run Try.prog u = .ok (.agg zero32) u := arr32_zero u
theorem zero32_size {l : List UInt8} (h : l.length = 32) : zero32.size = (arrB l).size := by unfold zero32; rw [arrB_size, arrB_size, h]; simp
theorem zero32_byt (x : Nat) : zero32.size = (bytT x).size := by unfold zero32 bytT; rw [arrB_size, arrB_size, leB_len]; simp
theorem zero32_info : (Try.prog.info? 22).map (·.size) = some zero32.size := arr32_info (by simp)
theorem zero32_one : zero32.all (·.oneCell') = true := arrB_one _
theorem refT_size (x y : Nat) : (refT x).size = (refT y).size := by unfold refT; rw [tabI_size, tabI_size, dgN_len, dgN_len]
theorem FeB.size {R : Array Value → Nat → Prop} (C : FeB R) {c d : Array Value} {x y : Nat} (h : R c x) (k : R d y) : c.size = d.size := by
  have a := C.info h
  rw [C.info k] at a
  injection a with a
  exact a.symm
theorem arr_at {l : List UInt8} (h : l.length = 32) (i : Nat) (hi : i < 32) (u : World) : (Instr.index 22 (.agg (arrB l)) (.int .i64 (i : Int))).run Try.prog u = .ok (.int .u8 ((l.getD i 0).toNat : Int)) u := by
  have hu : Try.prog.underlying 22 = some (.array 32 5) := by kernel_rfl
  have h1 : (0 : Int) ≤ (i : Int) ∧ (i : Int) < ((32 : Nat) : Int) := ⟨by omega, by omega⟩
  have hs : (sizeOf 5).run Try.prog u = .ok 1 u := by kernel_rfl
  have hv := arrB_get l i (by omega)
  simp [Instr.index, run_underlying hu, asIntOf, h1, hi, go_sem, hs, hv]
theorem bytT_at0 (x : Nat) (v : Int) (hv : ((x % 256 : Nat) : Int) = v) (u : World) : (Instr.index 22 (.agg (bytT x)) (.int .i64 0)).run Try.prog u = .ok (.int .u8 v) u := by
  have h := arr_at (leB_len 32 x) 0 (by omega) u
  rw [leB_get 32 x 0 (by omega)] at h
  rw [show ((UInt8.ofNat (x / 256 ^ 0)).toNat : Int) = v by rw [← hv]; simp] at h
  exact h
theorem u8_xorM (x y : UInt8) : bits .xor .u8 (x.toNat : Int) (y.toNat : Int) = ((x ^^^ y).toNat : Int) := by
  rw [UInt8.toNat_xor]; exact u8_xor_nat _ _ x.toNat_lt y.toNat_lt
theorem bytT_get (x i : Nat) (h : i < 32) : (bytT x)[i]? = some (.int .u8 (((leB 32 x).getD i 0).toNat : Int)) := arrB_get _ _ (by rw [leB_len]; exact h)
/-- so many bytes of 255 -/
def fillB (k : Nat) : List UInt8 := List.replicate k 255 ++ List.replicate (32 - k) 0
theorem fillB_len {k : Nat} (h : k ≤ 32) : (fillB k).length = 32 := by simp [fillB]; omega
theorem fillB_zero : fillB 0 = List.replicate 32 0 := rfl
theorem fillB_set {k : Nat} (h : k < 32) : (fillB k).set k 255 = fillB (k + 1) := by
  unfold fillB
  rw [List.set_append, if_neg (by simp), List.length_replicate, Nat.sub_self, show 32 - k = (32 - (k + 1)) + 1 by omega, List.replicate_succ, List.set_cons_zero, List.replicate_succ']
  simp
theorem fillB_end : fillB 32 = List.replicate 32 255 := by simp [fillB]
theorem fe_ones : feN (List.replicate 32 255) = 18 := by decide +kernel
theorem pP_PP : pP = ((PP : Nat) : Int) := rfl
theorem ltI {x : Nat} (h : x < PP) : (x : Int) < pP := by unfold pP; unfold PP at h; omega
theorem rfromN (l : List UInt8) (hl : l.length = 32) (W : World) : Calls Try.prog 32 #[.agg (arrB l)] W (RetV W (.agg (refT (feN l)))) := rfrom9_any l hl W
theorem rsmallN (n : Nat) (hn : n < 18446744073709551616) (W : World) : Calls Try.prog 51 #[.int .u64 (n : Int)] W (RetV W (.agg (refT n))) := rsmall9_any n hn W
theorem rbytesN (x : Nat) (W : World) : Calls Try.prog 44 #[.agg (refT x)] W (RetV W (.agg (bytT x))) := rbytes9_any x W
theorem rcanN (l : List UInt8) (hl : l.length = 32) (W : World) : Calls Try.prog 30 #[.agg (arrB l)] W (RetV W (.bool (canN l))) := rcan9_any l hl W
theorem raddN {x y : Nat} (hx : x < PP) (hy : y < PP) (W : World) : Calls Try.prog 47 #[.agg (refT x), .agg (refT y)] W (RetV W (.agg (refT ((x + y) % PP)))) := by
  have h := radd9_any x y (by omega) (ltI hx) (by omega) (ltI hy) W
  rwa [show ((x : Int) + (y : Int)) % pP = (((x + y) % PP : Nat) : Int) by unfold pP PP; omega] at h
theorem rsubN {x y : Nat} (hx : x < PP) (hy : y < PP) (W : World) : Calls Try.prog 72 #[.agg (refT x), .agg (refT y)] W (RetV W (.agg (refT ((x + (PP - y)) % PP)))) := by
  have h := rsub9_any x y (by omega) (ltI hx) (by omega) (ltI hy) W
  rwa [show ((x : Int) - (y : Int)) % pP = (((x + (PP - y)) % PP : Nat) : Int) by unfold pP; unfold PP at *; omega] at h
theorem rnegN {x : Nat} (hx : x < PP) (W : World) : Calls Try.prog 34 #[.agg (refT x)] W (RetV W (.agg (refT ((PP - x) % PP)))) := by
  have h := rneg9_any x (by omega) (ltI hx) W
  rwa [show -(x : Int) % pP = (((PP - x) % PP : Nat) : Int) by unfold pP; unfold PP at *; omega] at h
theorem rmulN {x y : Nat} (hx : x < PP) (hy : y < PP) (W : World) : Calls Try.prog 45 #[.agg (refT x), .agg (refT y)] W (RetV W (.agg (refT ((x * y) % PP)))) := by
  have h := rmul9_any x y (by omega) (ltI hx) (by omega) (ltI hy) W
  rwa [show ((x : Int) * (y : Int)) % pP = (((x * y) % PP : Nat) : Int) by rw [pP_PP, Int.natCast_emod, Int.natCast_mul]] at h
theorem roddN (x : Nat) (W : World) : Calls Try.prog 46 #[.agg (refT x)] W (RetV W (.bool (decide (x % 2 = 1)))) := by
  have h := rodd9_any x W
  rwa [show ((x : Int) % 2 == 1) = decide (x % 2 = 1) by
    by_cases hq : x % 2 = 1
    · rw [decide_eq_true hq]; simp; omega
    · rw [decide_eq_false hq]; simp; omega] at h
theorem dg_inj {x y : Nat} (hx : x < PP) (hy : y < PP) (h : dgN 16 (x : Int) = dgN 16 (y : Int)) : x = y := by
  have a := dg_val (x := (x : Int)) (by omega) (ltI hx)
  have b := dg_val (x := (y : Int)) (by omega) (ltI hy)
  rw [h, b] at a
  omega
theorem eqRef {x y : Nat} (hx : x < PP) (hy : y < PP) (u : World) : (binOp .eql 31 (.agg (refT x)) (.agg (refT y))).run Try.prog u = .ok (.bool (decide (x = y))) u := by
  have h := eqI_run (P := Try.prog) 31 2 16 (dgN 16 (x : Int)) (dgN 16 (y : Int)) (dgN_len _ _) (dgN_len _ _) Try.underlying31 Try.underlying2 (fun w => by kernel_rfl) (fun w => by kernel_rfl) u
  have e : decide (dgN 16 (x : Int) = dgN 16 (y : Int)) = decide (x = y) := by
    by_cases hq : x = y
    · subst hq; simp
    · rw [decide_eq_false hq]
      exact decide_eq_false (fun h => hq (dg_inj hx hy h))
  rw [e] at h
  exact h
theorem eqRefT {x y : Nat} (hx : x < PP) (hy : y < PP) (h : x = y) (u : World) : (binOp .eql 31 (.agg (refT x)) (.agg (refT y))).run Try.prog u = .ok (.bool true) u := by
  have k := eqRef hx hy u
  rwa [decide_eq_true h] at k
theorem eqRefF {x y : Nat} (hx : x < PP) (hy : y < PP) (h : ¬ x = y) (u : World) : (binOp .eql 31 (.agg (refT x)) (.agg (refT y))).run Try.prog u = .ok (.bool false) u := by
  have k := eqRef hx hy u
  rwa [decide_eq_false h] at k
theorem neRefT {x y : Nat} (hx : x < PP) (hy : y < PP) (h : x = y) (u : World) : (binOp .neq 31 (.agg (refT x)) (.agg (refT y))).run Try.prog u = .ok (.bool false) u := neqB_run _ _ _ true u (eqRefT hx hy h u)
theorem neRefF {x y : Nat} (hx : x < PP) (hy : y < PP) (h : ¬ x = y) (u : World) : (binOp .neq 31 (.agg (refT x)) (.agg (refT y))).run Try.prog u = .ok (.bool true) u := neqB_run _ _ _ false u (eqRefF hx hy h u)
theorem eqByt {l m : List UInt8} (hl : l.length = 32) (hm : m.length = 32) (u : World) : (binOp .eql 22 (.agg (arrB l)) (.agg (arrB m))).run Try.prog u = .ok (.bool (decide (l = m))) u :=
  eqB_run (P := Try.prog) 22 5 32 l m hl hm Try.underlying22 Try.underlying5 (fun w => by kernel_rfl) (fun w => by kernel_rfl) u
theorem eqBytT (x : Nat) (u : World) : (binOp .eql 22 (.agg (bytT x)) (.agg (bytT x))).run Try.prog u = .ok (.bool true) u := by
  have h := eqByt (leB_len 32 x) (leB_len 32 x) u
  rw [decide_eq_true rfl] at h
  exact h
theorem neBytT (x : Nat) (u : World) : (binOp .neq 22 (.agg (bytT x)) (.agg (bytT x))).run Try.prog u = .ok (.bool false) u := neqB_run _ _ _ _ u (eqBytT x u)
theorem guardB : Try.prog.eqGuardType Try.prog.depth 22 = false := by kernel_rfl
theorem guardR : Try.prog.eqGuardType Try.prog.depth 31 = false := by kernel_rfl
end Go.Proofs.Ytfejabfmhddepaa

