/- What layer 11's walks ask of package scalar; the reference's contracts by numbers. -/
import Derived.Test.YtmmfbbbljhifjaaGpow
import Derived.Test.YtmmfbbbljhifjaaRefSc11E
import Derived.Test.YtmmfbbbljhifjaaGheld
namespace Go.Proofs.Ytmmfbbbljhifjaa
open Go.RowKit
set_option linter.unusedVariables false
set_option maxRecDepth 100000

/-- a bit, or 0 beyond -/
def bitZ (l : List UInt8) (i : Int) : Int := if 0 ≤ i ∧ i ≤ 255 then ((leN l / 2 ^ i.toNat % 2 : Nat) : Int) else 0
/-- package scalar, function by function -/
structure ScC : Prop where
  order : ∀ W : World, Calls Try.prog 9 #[] W (RetV W (.agg (bytT LL)))
  can : ∀ l : List UInt8, l.length = 32 → ∀ W : World, Calls Try.prog 11 #[.agg (arrB l)] W (RetV W (.bool (decide (leN l < LL))))
  reduce : ∀ l : List UInt8, l.length = 64 → ∀ W : World, Calls Try.prog 13 #[.agg (arrB l)] W (RetV W (.agg (bytT (leN l % LL))))
  add : ∀ l m : List UInt8, l.length = 32 → m.length = 32 → ∀ W : World, Calls Try.prog 16 #[.agg (arrB l), .agg (arrB m)] W (RetV W (.agg (bytT ((leN l + leN m) % LL))))
  neg : ∀ l : List UInt8, l.length = 32 → ∀ W : World, Calls Try.prog 18 #[.agg (arrB l)] W (RetV W (.agg (bytT ((LL - leN l % LL) % LL))))
  mulAdd : ∀ l m n : List UInt8, l.length = 32 → m.length = 32 → n.length = 32 → ∀ W : World, Calls Try.prog 20 #[.agg (arrB l), .agg (arrB m), .agg (arrB n)] W (RetV W (.agg (bytT ((leN l * leN m + leN n) % LL))))
  bit : ∀ l : List UInt8, l.length = 32 → ∀ i : Int, -9223372036854775808 ≤ i → i ≤ 9223372036854775807 → ∀ W : World, Calls Try.prog 22 #[.agg (arrB l), .int .i64 i] W (RetV W (.int .i64 (bitZ l i)))
theorem rorderS (W : World) : Calls Try.prog 10 #[] W (RetV W (.agg (bytT LL))) := rorder_any W
theorem risS (l : List UInt8) (hl : l.length = 32) (W : World) : Calls Try.prog 12 #[.agg (arrB l)] W (RetV W (.bool (decide (leN l < LL)))) := risscalar_any l hl W
theorem rreduceS (l : List UInt8) (hl : l.length = 64) (W : World) : Calls Try.prog 15 #[.agg (arrB l)] W (RetV W (.agg (bytT (leN l % LL)))) := rreduce11_any l hl W
theorem rsumS (l m : List UInt8) (hl : l.length = 32) (hm : m.length = 32) (W : World) : Calls Try.prog 17 #[.agg (arrB l), .agg (arrB m)] W (RetV W (.agg (bytT ((leN l + leN m) % LL)))) := rsum11_any l m hl hm W
theorem rminusS (l : List UInt8) (hl : l.length = 32) (W : World) : Calls Try.prog 19 #[.agg (arrB l)] W (RetV W (.agg (bytT ((LL - leN l % LL) % LL)))) := rminus11_any l hl W
theorem rmuladdS (l m n : List UInt8) (hl : l.length = 32) (hm : m.length = 32) (hn : n.length = 32) (W : World) : Calls Try.prog 21 #[.agg (arrB l), .agg (arrB m), .agg (arrB n)] W (RetV W (.agg (bytT ((leN l * leN m + leN n) % LL)))) := rmuladd11_any l m n hl hm hn W
set_option maxHeartbeats 800000 in
theorem rbitS (l : List UInt8) (hl : l.length = 32) (i : Int) (h1 : -9223372036854775808 ≤ i) (h2 : i ≤ 9223372036854775807) (w : World) : Calls Try.prog 23 #[.agg (arrB l), .int .i64 i] w (RetV w (.int .i64 (bitZ l i))) := by
  unfold bitZ
  by_cases hr : 0 ≤ i ∧ i ≤ 255
  · rw [if_pos hr]
    obtain ⟨k, rfl⟩ : ∃ k : Nat, i = (k : Int) := ⟨i.toNat, by omega⟩
    have := rbit_any l hl k (by omega) w
    rwa [Int.toNat_natCast]
  · rw [if_neg hr]
    have HB := Lib.hid (show Below w.heap.size w (w.alloc (.cells (arrB l) 22)) from (Below.refl w.heap.size w).alloc (Nat.le_refl _) _)
    generalize arrB l = LA at *
    by_cases hneg : i < 0
    · have d0 : decide (i < 0) = true := decide_eq_true hneg
      clear hr hl
      go_enter Try.func23, Try.ntmps23
      go_wp2_with fail
      go_ret
      exact ⟨rfl, HB.out⟩
    · have d0 : decide (i < 0) = false := decide_eq_false hneg
      have d1 : decide ((255 : Int) < i) = true := decide_eq_true (by omega)
      clear hr hl
      go_enter Try.func23, Try.ntmps23
      go_wp2_with fail
      go_ret
      exact ⟨rfl, HB.out⟩

/-! Values: bytes of numbers. -/
theorem byt_fold (x : Nat) : arrB (leB 32 x) = bytT x := rfl
theorem byt_zero : zero32 = bytT 0 := rfl
theorem run_build0 {a : Act} {o : Oper} (ho : o.op = .build 22 #[]) (W : World) : (execOp (Act.eval a) o).run Try.prog W = .ok (.value (.agg (bytT 0))) W := by
  unfold execOp
  simp only [ho]
  kernel_rfl
/-- a row that begins with a small number -/
theorem run_build1 (k : Nat) {a : Act} {o : Oper} (ho : o.op = .build 22 #[(0, .const (.int .u8 (k : Int)))]) (hk : (Instr.build 22 #[(0, .int .u8 (k : Int))]).run Try.prog = fun W => .ok (.agg (bytT k)) W) (W : World) : (execOp (Act.eval a) o).run Try.prog W = .ok (.value (.agg (bytT k))) W := by
  unfold execOp
  simp only [ho]
  have h := congrFun hk W
  simp [Act.eval, h]
theorem leN_byt {x : Nat} (h : x < LL) : leN (leB 32 x) = x := leN_leB 32 x (Nat.lt_trans h (by decide))
theorem leN_LL : leN (leB 32 LL) = LL := leN_leB 32 LL (by decide)
theorem leN_app (l m : List UInt8) : leN (l ++ m) = leN l + 256 ^ l.length * leN m := by
  induction l with
  | nil => simp [leN]
  | cons a l ih =>
    rw [List.cons_append, leN, leN, ih, List.length_cons, Nat.pow_succ, Nat.mul_comm (256 ^ l.length) 256, Nat.mul_assoc]
    generalize 256 ^ l.length * leN m = q
    omega
theorem app64 {l m : List UInt8} (hl : l.length = 32) (hm : m.length = 32) : (l ++ m).length = 64 := by rw [List.length_append, hl, hm]
theorem arr64_info {l : List UInt8} (h : l.length = 64) : (Try.prog.info? 27).map (·.size) = some (arrB l).size := by rw [arrB_size, h]; kernel_rfl
/-- 64 bytes of 0 -/
def zero64 : Array Value := arrB (List.replicate 64 0)
theorem zero64_zero (u : World) : (zeroValue 27).run Try.prog u = .ok (.agg zero64) u := zero_arr 27 zero64 64 (by kernel_rfl) u
/-- the first k bytes of two rows, laid one behind the other -/
def widK (l m : List UInt8) (k : Nat) : List UInt8 := (List.range 64).map fun i => if i < 32 then (if i < k then l.getD i 0 else 0) else (if i - 32 < k then m.getD (i - 32) 0 else 0)
theorem widK_len (l m k) : (widK l m k).length = 64 := by simp [widK]
theorem widK_get (l m : List UInt8) (k i : Nat) (h : i < 64) : (widK l m k).getD i 0 = if i < 32 then (if i < k then l.getD i 0 else 0) else (if i - 32 < k then m.getD (i - 32) 0 else 0) := by
  simp [widK, List.getD, h]
theorem getD_setB (l : List UInt8) (i j : Nat) (x : UInt8) (hi : i < l.length) : (l.set i x).getD j 0 = if i = j then x else l.getD j 0 := by
  simp only [List.getD, List.getElem?_set]
  by_cases h : i = j
  · subst h; simp [hi]
  · simp [h]
theorem widK_zero (l m) : widK l m 0 = List.replicate 64 0 := by
  refine list_ext_getD (by rw [widK_len]; simp) fun i hi => ?_
  rw [widK_len] at hi
  rw [widK_get _ _ _ _ hi]
  have e : (List.replicate 64 (0 : UInt8)).getD i 0 = 0 := by rw [List.getD_eq_getElem?_getD, List.getElem?_replicate, if_pos hi]; rfl
  rw [e]
  simp
theorem widK_set (l m : List UInt8) (k : Nat) (h : k < 32) : ((widK l m k).set k (l.getD k 0)).set (32 + k) (m.getD k 0) = widK l m (k + 1) := by
  refine list_ext_getD (by rw [List.length_set, List.length_set, widK_len, widK_len]) fun i hi => ?_
  rw [List.length_set, List.length_set, widK_len] at hi
  rw [getD_setB _ _ _ _ (by rw [List.length_set, widK_len]; omega), getD_setB _ _ _ _ (by rw [widK_len]; omega), widK_get _ _ _ _ hi, widK_get _ _ _ _ hi]
  by_cases h1 : 32 + k = i
  · rw [if_pos h1, if_neg (by omega), if_pos (by omega), show i - 32 = k by omega]
  · rw [if_neg h1]
    by_cases h2 : k = i
    · rw [if_pos h2, if_pos (by omega), if_pos (by omega), h2]
    · rw [if_neg h2]
      by_cases h3 : i < 32
      · rw [if_pos h3, if_pos h3]
        by_cases h4 : i < k
        · rw [if_pos h4, if_pos (by omega)]
        · rw [if_neg h4, if_neg (by omega)]
      · rw [if_neg h3, if_neg h3]
        by_cases h4 : i - 32 < k
        · rw [if_pos h4, if_pos (by omega)]
        · rw [if_neg h4, if_neg (by omega)]
theorem widK_end {l m : List UInt8} (hl : l.length = 32) (hm : m.length = 32) : widK l m 32 = l ++ m := by
  refine list_ext_getD (by rw [widK_len, app64 hl hm]) fun i hi => ?_
  rw [widK_len] at hi
  rw [widK_get _ _ _ _ hi]
  by_cases h : i < 32
  · rw [if_pos h, if_pos h]; simp [List.getD, List.getElem?_append_left (show i < l.length by omega)]
  · rw [if_neg h, if_pos (by omega)]; simp [List.getD, List.getElem?_append_right (show l.length ≤ i by omega), hl]
end Go.Proofs.Ytmmfbbbljhifjaa

