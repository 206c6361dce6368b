/- The product of two numbers by their digits, plainly. The contract of the reference's Mul. The contracts of the reference's Odd, Small. The contracts of the reference's From, Bytes and Canonical. The contracts of the reference's Bytes and Canonical. Written by wip/tools/mk_can9.py. -/
import Derived.Test.YtfejabfmhddepaaGfb
import Derived.Test.YtfejabfmhddepaaGff1
import Derived.Test.YtfejabfmhddepaaGroo1
namespace Go.Proofs.Ytfejabfmhddepaa
set_option linter.unusedVariables false
set_option maxRecDepth 100000

def mulAt (x y t : List Int) (i k : Nat) : List Int := t.set (i + k) (gI t (i + k) + gI x i * gI y k)
def mulRow (x y t : List Int) (i : Nat) : Nat → List Int
  | 0 => t
  | k + 1 => mulAt x y (mulRow x y t i k) i k
def mulAll (x y : List Int) : Nat → List Int
  | 0 => List.replicate 32 0
  | i + 1 => mulRow x y (mulAll x y i) i 16
theorem mulRow_len (x y t : List Int) (i : Nat) : ∀ k, (mulRow x y t i k).length = t.length
  | 0 => rfl
  | k + 1 => by rw [mulRow, mulAt, List.length_set, mulRow_len x y t i k]
theorem mulAll_len (x y : List Int) : ∀ i, (mulAll x y i).length = 32
  | 0 => by simp [mulAll]
  | i + 1 => by rw [mulAll, mulRow_len, mulAll_len x y i]
theorem take_val (y : List Int) (k : Nat) (hk : k < y.length) : vL (y.take (k + 1)) = vL (y.take k) + gI y k * 65536 ^ k := by
  rw [List.take_add_one, List.getElem?_eq_getElem hk]
  have h := vL_split (y.take k) y[k]
  rw [show (y.take k).length = k by rw [List.length_take]; omega] at h
  have e : gI y k = y[k] := by simp [gI, List.getD, List.getElem?_eq_getElem hk]
  rw [e]
  exact h
theorem mulRow_val (x y t : List Int) (i : Nat) (hy : y.length = 16) (ht : t.length = 32) (hi : i < 16) : ∀ k, k ≤ 16 → vL (mulRow x y t i k) = vL t + gI x i * 65536 ^ i * vL (y.take k)
  | 0, _ => by simp [mulRow, vL]
  | k + 1, hk => by
    have ih := mulRow_val x y t i hy ht hi k (by omega)
    rw [mulRow, mulAt, vL_set _ _ _ (by rw [mulRow_len]; omega), ih, take_val y k (by omega), Int.pow_add]
    generalize gI (mulRow x y t i k) (i + k) = a
    generalize vL (y.take k) = b
    generalize (65536 : Int) ^ i = p
    generalize (65536 : Int) ^ k = q
    grind
theorem mulAll_val (x y : List Int) (hx : x.length = 16) (hy : y.length = 16) : ∀ i, i ≤ 16 → vL (mulAll x y i) = vL (x.take i) * vL y
  | 0, _ => by rw [List.take_zero]; show vL (List.replicate 32 0) = vL [] * vL y; rw [show vL (List.replicate 32 0) = 0 by decide]; simp [vL]
  | i + 1, h => by
    have ih := mulAll_val x y hx hy i (by omega)
    rw [mulAll, mulRow_val x y _ i hy (mulAll_len _ _ _) (by omega) 16 (by omega), ih, take_val x i (by omega), show y.take 16 = y from List.take_of_length_le (by omega)]
    rw [Int.add_mul]
theorem mul_small {a b : Int} (ha : 0 ≤ a ∧ a < 65536) (hb : 0 ≤ b ∧ b < 65536) : 0 ≤ a * b ∧ a * b ≤ 4294967296 := by
  refine ⟨Int.mul_nonneg ha.1 hb.1, ?_⟩
  have : a * b ≤ 65536 * 65536 := Int.mul_le_mul (by omega) (by omega) hb.1 (by omega)
  omega
theorem mulRow_bd (x y t : List Int) (i : Nat) (M : Int) (hx : ∀ j, 0 ≤ gI x j ∧ gI x j < 65536) (hy : ∀ j, 0 ≤ gI y j ∧ gI y j < 65536) (ht : t.length = 32) (hi : i < 16) (hM : ∀ j, 0 ≤ gI t j ∧ gI t j ≤ M) : ∀ k, k ≤ 16 → ∀ j, 0 ≤ gI (mulRow x y t i k) j ∧ gI (mulRow x y t i k) j ≤ M + k * 4294967296
  | 0, _, j => by have := hM j; rw [mulRow]; omega
  | k + 1, hk, j => by
    have ih := mulRow_bd x y t i M hx hy ht hi hM k (by omega)
    have hp := mul_small (hx i) (hy k)
    rw [mulRow, mulAt, gI_set _ _ _ _ (by rw [mulRow_len]; omega)]
    have h1 := ih j
    have h2 := ih (i + k)
    generalize gI x i * gI y k = p at *
    split <;> omega
theorem mulAll_bd (x y : List Int) (hx : ∀ j, 0 ≤ gI x j ∧ gI x j < 65536) (hy : ∀ j, 0 ≤ gI y j ∧ gI y j < 65536) : ∀ i, i ≤ 16 → ∀ j, 0 ≤ gI (mulAll x y i) j ∧ gI (mulAll x y i) j ≤ i * 68719476736
  | 0, _, j => by
    rw [mulAll]
    have e : gI (List.replicate 32 0) j = 0 := by
      simp only [gI, List.getD, List.getElem?_replicate]
      split <;> rfl
    rw [e]; omega
  | i + 1, h, j => by
    have ih := mulAll_bd x y hx hy i (by omega)
    have h1 := mulRow_bd x y (mulAll x y i) i _ hx hy (mulAll_len _ _ _) (by omega) ih 16 (by omega) j
    rw [mulAll]
    omega
theorem vL_app : ∀ (a b : List Int), vL (a ++ b) = vL a + 65536 ^ a.length * vL b
  | [], b => by simp [vL]
  | x :: a, b => by
    have ih := vL_app a b
    rw [List.cons_append, vL, vL, ih, List.length_cons, Int.pow_succ, Int.mul_comm ((65536 : Int) ^ a.length) 65536, Int.mul_assoc]
    generalize (65536 : Int) ^ a.length * vL b = q
    omega
def foldM (t : List Int) : List Int := (List.range 16).map fun i => gI t i + 38 * gI t (i + 16)
theorem foldM_val {t : List Int} (ht : t.length = 32) : vL (foldM t) % pP = vL t % pP := by
  have h := vL_app (t.take 16) (t.drop 16)
  rw [List.take_append_drop, show (t.take 16).length = 16 by rw [List.length_take]; omega] at h
  have e1 : (List.range 16).map (fun i => gI t i) = t.take 16 := by
    rw [list16 (l := t.take 16) (by rw [List.length_take]; omega)]
    apply List.map_congr_left
    intro i hi
    have hi := List.mem_range.1 hi
    simp [gI, List.getD, hi]
  have e2 : (List.range 16).map (fun i => gI t (i + 16)) = t.drop 16 := by
    rw [list16 (l := t.drop 16) (by rw [List.length_drop]; omega)]
    apply List.map_congr_left
    intro i hi
    simp [gI, List.getD, Nat.add_comm]
  have e3 : vL (foldM t) = vL (t.take 16) + 38 * vL (t.drop 16) := by
    unfold foldM
    rw [vL_add, vL_mulc, e1, e2]
  have e4 : (65536 : Int) ^ 16 = 2 * pP + 38 := by decide
  rw [e4] at h
  rw [e3, h]
  generalize vL (t.take 16) = u
  generalize vL (t.drop 16) = v
  unfold pP
  omega
theorem vL_top : ∀ l : List Int, (∀ i, 0 ≤ gI l i ∧ gI l i ≤ 42880953483264) → 0 ≤ vL l ∧ 65535 * vL l ≤ 42880953483264 * (65536 ^ l.length - 1)
  | [], _ => by simp [vL]
  | a :: l, h => by
    have h0 := h 0
    have ih := vL_top l (fun i => h (i + 1))
    rw [gI_zero] at h0
    rw [vL, List.length_cons, Int.pow_succ]
    generalize (65536 : Int) ^ l.length = p at *
    omega
theorem foldM_ok {x y : List Int} (hx : x.length = 16) (hy : y.length = 16) (bx : ∀ j, 0 ≤ gI x j ∧ gI x j < 65536) (by' : ∀ j, 0 ≤ gI y j ∧ gI y j < 65536) :
    Bd 70368744177664 (foldM (mulAll x y 16)) ∧ -(8 * P255) ≤ vL (foldM (mulAll x y 16)) ∧ vL (foldM (mulAll x y 16)) ≤ 35184372088832 * P255 ∧ vL (foldM (mulAll x y 16)) % pP = (vL x * vL y) % pP := by
  have hb := mulAll_bd x y bx by' 16 (by omega)
  have hf : ∀ i, 0 ≤ gI (foldM (mulAll x y 16)) i ∧ gI (foldM (mulAll x y 16)) i ≤ 42880953483264 := fun i => by
    by_cases hi : i < 16
    · rw [foldM, gI_range _ _ hi]
      have h1 := hb i
      have h2 := hb (i + 16)
      omega
    · rw [gI_out (by simp [foldM]; omega)]; omega
  have ht := vL_top _ hf
  have hl : (foldM (mulAll x y 16)).length = 16 := by simp [foldM]
  rw [hl, show (65536 : Int) ^ 16 = 2 * P255 by decide] at ht
  refine ⟨fun i => by have := hf i; omega, ?_, ?_, ?_⟩
  · unfold P255 at *; omega
  · unfold P255 at *; omega
  · rw [foldM_val (mulAll_len _ _ _), mulAll_val x y hx hy 16 (by omega), show x.take 16 = x from List.take_of_length_le (by omega)]
end Go.Proofs.Ytfejabfmhddepaa

namespace Go.Proofs.Ytfejabfmhddepaa
open Go.RowKit
set_option linter.unusedVariables false
set_option maxRecDepth 100000

theorem AddI.far {w wr : World} {g gt : Nat} {X Y z0 T : Array Value} {ty : TypeId} (h : AddI w wr g X Y z0) (ht : wr.heap[gt]? = some (.cells T ty (0, 0))) (hg : g + 1 + 1 < gt) (k : Nat) (v : Value) : AddI w (wr.setCell ⟨gt, k, none⟩ v) g X Y z0 := by
  have e := setCell_eq_setRow wr gt k _ _ _ v ht
  exact ⟨by rw [e, setRow_other _ _ _ _ (by omega)]; exact h.x, by rw [e, setRow_other _ _ _ _ (by omega)]; exact h.y, by rw [e, setRow_other _ _ _ _ (by omega)]; exact h.z, h.below.setCell (p := ⟨gt, k, none⟩) (by show g ≤ gt; omega) _⟩

set_option maxHeartbeats 1600000 in
theorem rmul9_any (x y : Int) (hx0 : 0 ≤ x) (hx : x < pP) (hy0 : 0 ≤ y) (hy : y < pP) (w : World) :
    Calls Try.prog 45 #[.agg (tabI (dgN 16 x)), .agg (tabI (dgN 16 y))] w fun e w' => e = .returned (.agg (tabI (dgN 16 ((x * y) % pP)))) ∧ Below w.heap.size w w' := by
  have hz := fun u => zero_fe u
  have hz32 := fun u => zero_row 100 (tabI (List.replicate 32 0)) 32 (by kernel_rfl) u
  obtain ⟨z0, hz0e⟩ : ∃ t, tabI (List.replicate 16 0) = t := ⟨_, rfl⟩
  rw [hz0e] at hz
  have HZ0E := Lib.hid hz0e
  have n0 : z0.size = 16 := by rw [← hz0e, tabI_size]; simp
  have o0 : z0.all (·.oneCell') = true := by rw [← hz0e]; exact tabI_one _
  have i0 : (Try.prog.info? 31).map (·.size) = some z0.size := by rw [← hz0e]; exact info_fe (by simp)
  obtain ⟨t0, ht0⟩ : ∃ t, tabI (List.replicate 32 0) = t := ⟨_, rfl⟩
  rw [ht0] at hz32
  have nt : t0.size = 32 := by rw [← ht0, tabI_size]; simp
  have ot : t0.all (·.oneCell') = true := by rw [← ht0]; exact tabI_one _
  have it : (Try.prog.info? 100).map (·.size) = some t0.size := by rw [nt]; kernel_rfl
  obtain ⟨a, ha⟩ : ∃ a, dgN 16 x = a := ⟨_, rfl⟩
  obtain ⟨b, hb⟩ : ∃ b, dgN 16 y = b := ⟨_, rfl⟩
  have hal : a.length = 16 := by rw [← ha, dgN_len]
  have hbl : b.length = 16 := by rw [← hb, dgN_len]
  have hab : ∀ i, 0 ≤ gI a i ∧ gI a i < 65536 := by rw [← ha]; exact fun i => dg_bd i
  have hbb : ∀ i, 0 ≤ gI b i ∧ gI b i < 65536 := by rw [← hb]; exact fun i => dg_bd i
  obtain ⟨q1, q2, q3, q4⟩ := foldM_ok hal hbl hab hbb
  have hva : vL a = x := by rw [← ha, dg_val hx0 hx]
  have hvb : vL b = y := by rw [← hb, dg_val hy0 hy]
  rw [hva, hvb] at q4
  have HNO : Hid (∀ W : World, Calls Try.prog 70 #[.agg (tabI (foldM (mulAll a b 16)))] W fun e w' => e = .returned (.agg (tabI (dgN 16 ((x * y) % pP)))) ∧ Below W.heap.size W w') := Lib.hid fun W => by
    have h := rnorm9_any _ (by simp [foldM]) q1 q2 q3 W
    rwa [q4] at h
  obtain ⟨R, hR⟩ : ∃ R, tabI (dgN 16 ((x * y) % pP)) = R := ⟨_, rfl⟩
  have nR : R.size = 16 := by rw [← hR, tabI_size, dgN_len]
  have oR : R.all (·.oneCell') = true := by rw [← hR]; exact tabI_one _
  have iR : (Try.prog.info? 31).map (·.size) = some R.size := by rw [← hR]; exact info_fe (dgN_len _ _)
  have zR : z0.size = R.size := by rw [n0, nR]
  rw [hR] at HNO ⊢
  rw [ha, hb]
  have HAL := Lib.hid hal
  have HBL := Lib.hid hbl
  have HAB := Lib.hid hab
  have HBB := Lib.hid hbb
  have HMB : Hid (∀ i k j, i < 16 → k ≤ 16 → 0 ≤ gI (mulRow a b (mulAll a b i) i k) j ∧ gI (mulRow a b (mulAll a b i) i k) j ≤ 1099511627776) := Lib.hid fun i k j hi hk => by
    have h1 := mulRow_bd a b _ i _ hab hbb (mulAll_len a b i) hi (mulAll_bd a b hab hbb i (by omega)) k hk j
    omega
  have HMA : Hid (∀ j, 0 ≤ gI (mulAll a b 16) j ∧ gI (mulAll a b 16) j ≤ 1099511627776) := Lib.hid fun j => by
    have := mulAll_bd a b hab hbb 16 (by omega) j
    omega
  obtain ⟨XA, hXA⟩ : ∃ X, tabI a = X := ⟨_, rfl⟩
  obtain ⟨YB, hYB⟩ : ∃ X, tabI b = X := ⟨_, rfl⟩
  have HI0 : Hid (AddI w (((w.alloc (.cells XA 31)).alloc (.cells YB 31)).alloc (.cells z0 31)) w.heap.size XA YB z0) := Lib.hid (addI_start _ _ _ _)
  obtain ⟨W0, hW0⟩ : ∃ W, ((w.alloc (.cells XA 31)).alloc (.cells YB 31)).alloc (.cells z0 31) = W := ⟨_, rfl⟩
  rw [hW0] at HI0
  have hs0 : W0.heap.size = w.heap.size + 1 + 1 + 1 := by rw [← hW0]; simp
  have hT0 : (W0.alloc (.cells t0 100)).heap[W0.heap.size]? = some (.cells t0 100 (0, 0)) := heap_alloc_new _ _
  have HT1 : Hid (((W0.alloc (.cells t0 100)).setRow W0.heap.size t0).heap[W0.heap.size]? = some (.cells t0 100 (0, 0))) := Lib.hid (setRow_heap _ _ _ _ _ _ hT0)
  have HI1 := Lib.hid (HI0.out.row (.cells t0 100) t0)
  have HXA := Lib.hid hXA
  have HYB := Lib.hid hYB
  have HT0 := Lib.hid ht0
  rw [hXA, hYB]
  rw [hs0] at HT1 HI1 hT0
  have HW0 := Lib.hid hW0
  have HGT : Hid (w.heap.size + 1 + 1 < w.heap.size + 1 + 1 + 1) := Lib.hid (by omega)
  rw [← hW0] at hT0
  clear hz0e ht0 ha hb hal hbl hab hbb q1 q2 q3 q4 hva hvb hR nR hXA hYB hx0 hx hy0 hy hs0 HI0 hW0
  go_enter Try.func45, Try.ntmps45
  go_wp2_with (refine wpList_store_row rfl 100 (.tmp 5) (.tmp 10) rfl (w.heap.size + 1 + 1 + 1) t0 rfl rfl 100 t0 hT0 it rfl ot ?_)
  rw [HW0.out]
  obtain ⟨g, hg⟩ : ∃ g, w.heap.size = g := ⟨_, rfl⟩
  obtain ⟨gt, hgt⟩ : ∃ q, g + 1 + 1 + 1 = q := ⟨_, rfl⟩
  obtain ⟨W1, hW1⟩ : ∃ W, (W0.alloc (.cells t0 100)).setRow (w.heap.size + 1 + 1 + 1) t0 = W := ⟨_, rfl⟩
  rw [hW1] at HT1 HI1
  rw [hW1]
  rw [hg] at HT1 HI1 HGT
  rw [hgt] at HT1 HGT
  rw [hg, hgt]
  have HG := Lib.hid hg
  rw [← HT0.out, show List.replicate 32 (0 : Int) = mulAll a b 0 from rfl] at HT1
  clear hg hgt hW1 hT0 HW0
  go_loopw [6] (fun i wr => ∃ k : Nat, k ≤ 16 ∧ i = .int .i64 (k : Int) ∧ Hid (AddI w wr g XA YB z0) ∧ Hid (wr.heap[gt]? = some (.cells (tabI (mulAll a b k)) 100 (0, 0)))) (fun i _ => 16 - (intOf i).toNat)
  case atStart => exact ⟨0, by omega, rfl, HI1, HT1⟩
  case round =>
    clear HI1 HT1
    obtain ⟨ii, hii, rfl, HI, HT⟩ := hrel
    by_cases hlti : ii < 16
    · have dk : decide ((ii : Int) < 16) = true := decide_eq_true (by omega)
      have HT' : Hid (wr.heap[gt]? = some (.cells (tabI (mulRow a b (mulAll a b ii) ii 0)) 100 (0, 0))) := HT
      clear HT
      go_wp2_with fail
      go_loopw [7] (fun i wr => ∃ k : Nat, k ≤ 16 ∧ i = .int .i64 (k : Int) ∧ Hid (AddI w wr g XA YB z0) ∧ Hid (wr.heap[gt]? = some (.cells (tabI (mulRow a b (mulAll a b ii) ii k)) 100 (0, 0)))) (fun i _ => 16 - (intOf i).toNat)
      case atStart => exact ⟨0, by omega, rfl, HI, HT'⟩
      case round =>
        clear HI HT'
        obtain ⟨k, hk, rfl, HI, HT⟩ := hrel
        by_cases hlt : k < 16
        · have cx : wr.cell? ⟨g, ii, none⟩ = some (.int .i64 (gI a ii)) := by rw [cell_of_row _ _ _ _ _ _ HI.out.x, ← HXA.out, tabI_get _ _ (by rw [HAL.out]; exact hlti)]
          have cy : wr.cell? ⟨g + 1, k, none⟩ = some (.int .i64 (gI b k)) := by rw [cell_of_row _ _ _ _ _ _ HI.out.y, ← HYB.out, tabI_get _ _ (by rw [HBL.out]; exact hlt)]
          have hln : (mulRow a b (mulAll a b ii) ii k).length = 32 := by rw [mulRow_len, mulAll_len]
          have ct : wr.cell? ⟨gt, ii + k, none⟩ = some (.int .i64 (gI (mulRow a b (mulAll a b ii) ii k) (ii + k))) := by rw [cell_of_row _ _ _ _ _ _ HT.out, tabI_get _ _ (by omega)]
          have ft : wr.frozen? ⟨gt, ii + k, none⟩ = false := by have := HT.out; simp [World.frozen?, this]
          have h1 := HMB.out ii k (ii + k) hlti hk
          have h2 := mul_small (HAB.out ii) (HBB.out k)
          obtain ⟨u, hu⟩ : ∃ u, gI (mulRow a b (mulAll a b ii) ii k) (ii + k) = u := ⟨_, rfl⟩
          obtain ⟨p, hp⟩ : ∃ p, gI a ii * gI b k = p := ⟨_, rfl⟩
          obtain ⟨s, hs⟩ : ∃ s, u + p = s := ⟨_, rfl⟩
          have hnx : (mulRow a b (mulAll a b ii) ii k).set (ii + k) s = mulRow a b (mulAll a b ii) ii (k + 1) := by rw [mulRow, mulAt, hu, hp, hs]
          have HI2 : Hid (AddI w (wr.drew.setCell ⟨gt, ii + k, none⟩ (.int .i64 s)) g XA YB z0) := Lib.hid (HI.out.drew.far (gt := gt) HT.out HGT.out _ _)
          have HT2 : Hid ((wr.drew.setCell ⟨gt, ii + k, none⟩ (.int .i64 s)).heap[gt]? = some (.cells (tabI (mulRow a b (mulAll a b ii) ii (k + 1))) 100 (0, 0))) := Lib.hid (by
            rw [setCell_eq_setRow wr.drew gt (ii + k) _ _ _ (.int .i64 s) HT.out, setRow_heap _ _ _ _ _ _ (show wr.drew.heap[gt]? = _ from HT.out), tabI_set, hnx])
          rw [hu] at ct h1
          rw [hp] at h2
          generalize gI a ii = A at *
          generalize gI b k = B at *
          have f1 : IntKind.i64.wrap p = p := by rw [IntKind.wrap_i64]; omega
          have f2 : IntKind.i64.wrap s = s := by rw [IntKind.wrap_i64]; omega
          have f3 : IntKind.i64.wrap ((ii : Int) + (k : Int)) = (ii : Int) + (k : Int) := by rw [IntKind.wrap_i64]; omega
          have e3 : ((ii : Int) + (k : Int)).toNat = ii + k := by omega
          have p0 : 0 ≤ (ii : Int) := by omega
          have p1 : 0 ≤ (k : Int) := by omega
          have p2 : (k : Int) < 16 := by omega
          have p3 : (ii : Int) < 16 := by omega
          have p4 : 0 ≤ (ii : Int) + (k : Int) := by omega
          have p5 : (ii : Int) + (k : Int) < 32 := by omega
          clear HI HT hnx hln h1 h2 hu
          go_wp2_with fail
          refine wp_region_still_tail 17 (by kernel_rfl) (by kernel_rfl) ?_
          simp only [List.take_succ_cons, List.take_zero, List.drop_succ_cons, List.drop_zero]
          iterate 17 still_step
          refine wpStill_nil ?_
          go_wp2_with fail
          go_roundw
          case rel => exact ⟨k + 1, by omega, by go_num, HI2, HT2⟩
          case measure => simp [intOf]; omega
        · have hk16 : k = 16 := by omega
          rw [hk16] at HT
          have HT2 : Hid (wr.heap[gt]? = some (.cells (tabI (mulAll a b (ii + 1))) 100 (0, 0))) := HT
          have dk16 : decide ((k : Int) < 16) = false := decide_eq_false (by omega)
          clear HT hk16
          go_wp2_with fail
          go_roundw
          case rel => exact ⟨ii + 1, by omega, by go_num, HI, HT2⟩
          case measure => simp [intOf]; omega
    · have hi16 : ii = 16 := by omega
      rw [hi16] at HT
      have dk : decide ((ii : Int) < 16) = false := decide_eq_false (by omega)
      clear hi16
      have hr0 : (wr.alloc (.cells z0 31)).heap[wr.heap.size]? = some (.cells z0 31 (0, 0)) := heap_alloc_new _ _
      have hlt0 : gt < wr.heap.size := (Array.getElem?_eq_some_iff.1 HT.out).1
      have HZ1 : Hid (((wr.alloc (.cells z0 31)).setRow wr.heap.size z0).heap[wr.heap.size]? = some (.cells z0 31 (0, 0))) := Lib.hid (setRow_heap _ _ _ _ _ _ hr0)
      have HI1 := Lib.hid (HI.out.row (.cells z0 31) z0)
      have HT1 : Hid (((wr.alloc (.cells z0 31)).setRow wr.heap.size z0).heap[gt]? = some (.cells (tabI (mulAll a b 16)) 100 (0, 0))) := Lib.hid (by rw [setRow_other _ _ _ _ (by omega), heap_alloc_old _ _ (by omega)]; exact HT.out)
      have HGZ : Hid (gt < wr.heap.size) := Lib.hid hlt0
      clear HI HT hlt0
      go_wp2_with (refine wpList_store_row rfl 31 (.tmp 8) (.tmp 36) rfl wr.heap.size z0 rfl rfl 31 z0 hr0 i0 rfl o0 ?_)
      obtain ⟨W5, hW5⟩ : ∃ W, (wr.alloc (.cells z0 31)).setRow wr.heap.size z0 = W := ⟨_, rfl⟩
      obtain ⟨gz, hgz⟩ : ∃ q, wr.heap.size = q := ⟨_, rfl⟩
      rw [hW5, hgz] at HZ1
      rw [hW5] at HI1 HT1
      rw [hgz] at HGZ
      rw [hW5, hgz]
      obtain ⟨M, hM⟩ : ∃ M, mulAll a b 16 = M := ⟨_, rfl⟩
      have hMl : M.length = 32 := by rw [← hM, mulAll_len]
      have HMA2 := HMA
      rw [hM] at HT1 HMA2 HNO
      have HML := Lib.hid hMl
      have HZ0 : Hid (z0 = tabI (opTo (fun i => gI M i + 38 * gI M (i + 16)) (List.replicate 16 0) 0)) := Lib.hid (by
        rw [opTo_zero _ (by simp)]
        exact HZ0E.out.symm)
      have HZ1' : Hid (W5.heap[gz]? = some (.cells (tabI (opTo (fun i => gI M i + 38 * gI M (i + 16)) (List.replicate 16 0) 0)) 31 (0, 0))) := Lib.hid (by rw [← HZ0.out]; exact HZ1.out)
      clear HZ1 HZ0
      clear hr0 hW5 hgz hM hMl HMA
      go_loopw [9] (fun i wr => ∃ k : Nat, k ≤ 16 ∧ i = .int .i64 (k : Int) ∧ Hid (AddI w wr g XA YB z0) ∧ Hid (wr.heap[gt]? = some (.cells (tabI M) 100 (0, 0))) ∧ Hid (wr.heap[gz]? = some (.cells (tabI (opTo (fun i => gI M i + 38 * gI M (i + 16)) (List.replicate 16 0) k)) 31 (0, 0)))) (fun i _ => 16 - (intOf i).toNat)
      case atStart => exact ⟨0, by omega, rfl, HI1, HT1, HZ1'⟩
      case round =>
        clear HI1 HT1 HZ1'
        obtain ⟨k, hk, rfl, HI, HT, HZ⟩ := hrel
        by_cases hlt : k < 16
        · have c1 : wr.cell? ⟨gt, k, none⟩ = some (.int .i64 (gI M k)) := by rw [cell_of_row _ _ _ _ _ _ HT.out, tabI_get _ _ (by rw [HML.out]; omega)]
          have c2 : wr.cell? ⟨gt, k + 16, none⟩ = some (.int .i64 (gI M (k + 16))) := by rw [cell_of_row _ _ _ _ _ _ HT.out, tabI_get _ _ (by rw [HML.out]; omega)]
          have cz : wr.cell? ⟨gz, k, none⟩ = some (.int .i64 0) := by
            rw [cell_of_row _ _ _ _ _ _ HZ.out, tabI_get _ _ (by rw [opTo_len]; exact hlt), opTo_get _ _ _ _ hlt, if_neg (by omega)]
            simp only [gI, List.getD, List.getElem?_replicate]
            split <;> rfl
          have fz : wr.frozen? ⟨gz, k, none⟩ = false := by have := HZ.out; simp [World.frozen?, this]
          have h1 := HMA2.out k
          have h2 := HMA2.out (k + 16)
          obtain ⟨p, hp⟩ : ∃ p, 38 * gI M (k + 16) = p := ⟨_, rfl⟩
          obtain ⟨s, hs⟩ : ∃ s, gI M k + p = s := ⟨_, rfl⟩
          have HI2 : Hid (AddI w (wr.drew.setCell ⟨gz, k, none⟩ (.int .i64 s)) g XA YB z0) := Lib.hid (HI.out.drew.far (gt := gz) HZ.out (by have := HGT.out; have := HGZ.out; omega) _ _)
          have HT2 : Hid ((wr.drew.setCell ⟨gz, k, none⟩ (.int .i64 s)).heap[gt]? = some (.cells (tabI M) 100 (0, 0))) := Lib.hid (by
            rw [setCell_eq_setRow wr.drew gz k _ _ _ (.int .i64 s) HZ.out, setRow_other _ _ _ _ (by have := HGZ.out; omega)]; exact HT.out)
          have HZ2 : Hid ((wr.drew.setCell ⟨gz, k, none⟩ (.int .i64 s)).heap[gz]? = some (.cells (tabI (opTo (fun i => gI M i + 38 * gI M (i + 16)) (List.replicate 16 0) (k + 1))) 31 (0, 0))) := Lib.hid (by
            rw [setCell_eq_setRow wr.drew gz k _ _ _ (.int .i64 s) HZ.out, setRow_heap _ _ _ _ _ _ (show wr.drew.heap[gz]? = _ from HZ.out), tabI_set, ← opTo_set (fun i => gI M i + 38 * gI M (i + 16)) _ hlt, ← hs, ← hp])
          generalize gI M k = A at *
          generalize gI M (k + 16) = B at *
          have f1 : IntKind.i64.wrap p = p := by rw [IntKind.wrap_i64]; omega
          have f2 : IntKind.i64.wrap s = s := by rw [IntKind.wrap_i64]; omega
          have f3 : IntKind.i64.wrap ((k : Int) + 16) = (k : Int) + 16 := by rw [IntKind.wrap_i64]; omega
          have p1 : 0 ≤ (k : Int) := by omega
          have p2 : (k : Int) < 16 := by omega
          have e3 : ((k : Int) + 16).toNat = k + 16 := by omega
          have p3 : 0 ≤ (k : Int) + 16 := by omega
          have p4 : (k : Int) + 16 < 32 := by omega
          have p5 : (k : Int) < 32 := by omega
          clear HI HT HZ h1 h2
          go_wp2_with fail
          refine wp_region_still_tail 11 (by kernel_rfl) (by kernel_rfl) ?_
          simp only [List.take_succ_cons, List.take_zero, List.drop_succ_cons, List.drop_zero]
          iterate 11 still_step
          refine wpStill_nil ?_
          go_wp2_with fail
          go_roundw
          case rel => exact ⟨k + 1, by omega, by go_num, HI2, HT2, HZ2⟩
          case measure => simp [intOf]; omega
        · obtain rfl : k = 16 := by omega
          rw [opTo_end, show (List.range 16).map (fun i => gI M i + 38 * gI M (i + 16)) = foldM M from rfl] at HZ
          have h1 := HZ.out
          have s1 : (Try.prog.info? 31).map (·.size) = some (tabI (foldM M)).size := info_fe (by simp [foldM])
          generalize tabI (foldM M) = T1 at *
          go_wp2_with (refine wpList_load_row rfl 31 (.tmp 8) rfl gz rfl 31 T1 (0, 0) _ h1 Try.underlying31 rfl s1 ?_)
          with_reducible refine (HNO.out _).mono ?_
          rintro e w2 ⟨rfl, hb2⟩
          have HI2 := HI.out.call hb2
          have h0 := HI2.z
          have HB := Lib.hid (show Below w.heap.size w (w2.setRow (g + 1 + 1) R) by rw [HG.out]; exact below_row HI2.below (by omega))
          clear hb2 HI HI2 h1 HT HZ
          go_wp2_with (refine wpList_store_row rfl 31 (.tmp 4) (.tmp 53) rfl (g + 1 + 1) R rfl rfl 31 z0 h0 iR zR oR ?_)
          (try simp only [Exit.inBlock, Exit.then])
          refine bodyPost_ret (results_cell_row rfl _ _ (g + 1 + 1) _ R _ _ rfl (setRow_heap _ _ _ _ _ _ h0) Try.underlying31 rfl iR) rfl ?_
          exact ⟨rfl, HB.out⟩
end Go.Proofs.Ytfejabfmhddepaa

namespace Go.Proofs.Ytfejabfmhddepaa
open Go.RowKit
set_option linter.unusedVariables false
set_option maxRecDepth 100000

set_option maxHeartbeats 800000 in
theorem rodd9_any (x : Int) (w : World) : Calls Try.prog 46 #[.agg (tabI (dgN 16 x))] w fun e w' => e = .returned (.bool (x % 2 == 1)) ∧ Below w.heap.size w w' := by
  obtain ⟨d, hd⟩ : ∃ d, x % 65536 = d := ⟨_, rfl⟩
  have hdd : (x % 2 == 1) = (d % 2 == 1) := by
    have : x % 2 = d % 2 := by omega
    rw [this]
  have hd0 : 0 ≤ d := by omega
  have t1 : d.tmod 2 = d % 2 := Int.tmod_eq_emod_of_nonneg hd0
  have h0 : (w.alloc (.cells (tabI (dgN 16 x)) 31)).heap[w.heap.size]? = some (.cells (tabI (dgN 16 x)) 31 (0, 0)) := heap_alloc_new _ _
  have c0 : (w.alloc (.cells (tabI (dgN 16 x)) 31)).cell? ⟨w.heap.size, 0, none⟩ = some (.int .i64 d) := by
    rw [cell_of_row _ _ _ _ _ _ h0, tabI_get _ _ (by rw [dgN_len]; omega), dgN, gI_zero, hd]
  have HB := Lib.hid ((Below.refl w.heap.size w).alloc (Nat.le_refl _) (.cells (tabI (dgN 16 x)) 31))
  rw [hdd]
  generalize tabI (dgN 16 x) = X at *
  clear hd hdd h0
  go_enter Try.func46, Try.ntmps46
  go_wp2_with fail
  go_ret
  exact ⟨rfl, HB.out⟩

theorem u64_andM (q : Nat) (h : q < 18446744073709551616) : bits .and .u64 (q : Int) 65535 = ((q % 65536 : Nat) : Int) := by
  have h := bits_and_u64_nat q 65535 h (by omega)
  rw [show (65535 : Nat) = 2 ^ 16 - 1 by decide, Nat.and_two_pow_sub_one_eq_mod] at h
  exact h

/-- a small number's digits -/
def smallF (n : Nat) (i : Nat) : Int := if i < 4 then ((n / 65536 ^ i % 65536 : Nat) : Int) else 0
theorem small_dg (n : Nat) (h : n < 18446744073709551616) : opTo (smallF n) (List.replicate 16 0) 4 = dgN 16 (n : Int) := by
  have e : dgN 16 (n : Int) = dgN 16 (vL (opTo (smallF n) (List.replicate 16 0) 4)) := by
    congr 1
    have ho : opTo (smallF n) (List.replicate 16 0) 4 = [smallF n 0, smallF n 1, smallF n 2, smallF n 3, 0, 0, 0, 0, 0, 0, 0, 0, 0, 0, 0, 0] := rfl
    rw [ho]
    have s0 : smallF n 0 = ((n % 65536 : Nat) : Int) := by simp [smallF]
    have s1 : smallF n 1 = ((n / 65536 % 65536 : Nat) : Int) := by simp [smallF]
    have s2 : smallF n 2 = ((n / 4294967296 % 65536 : Nat) : Int) := by simp [smallF]
    have s3 : smallF n 3 = ((n / 281474976710656 % 65536 : Nat) : Int) := by simp [smallF]
    rw [s0, s1, s2, s3]
    simp only [vL]
    omega
  rw [e]
  have hl : (opTo (smallF n) (List.replicate 16 0) 4).length = 16 := opTo_len _ _ _
  have := dg_unique (opTo (smallF n) (List.replicate 16 0) 4) (fun i hi => by
    rw [hl] at hi
    rw [opTo_get _ _ _ _ hi]
    split
    · unfold smallF
      split <;> omega
    · have : gI (List.replicate 16 0) i = 0 := by
        simp only [gI, List.getD, List.getElem?_replicate]
        split <;> rfl
      omega)
  rw [hl] at this
  exact this

set_option maxHeartbeats 1600000 in
theorem rsmall9_any (n : Nat) (hn : n < 18446744073709551616) (w : World) : Calls Try.prog 51 #[.int .u64 (n : Int)] w fun e w' => e = .returned (.agg (tabI (dgN 16 (n : Int)))) ∧ Below w.heap.size w w' := by
  rw [← small_dg n hn]
  have hz := fun u => zero_fe u
  obtain ⟨t0, ht0⟩ : ∃ t, tabI (List.replicate 16 0) = t := ⟨_, rfl⟩
  rw [ht0] at hz
  have s0 : (Try.prog.info? 31).map (·.size) = some t0.size := by rw [← ht0]; exact info_fe (by simp)
  have o0 : t0.all (·.oneCell') = true := by rw [← ht0]; exact tabI_one _
  have n0 : t0.size = 16 := by rw [← ht0, tabI_size]; simp
  have h2 : ((w.alloc (.cells t0 31)).alloc (.cells t0 31)).heap[w.heap.size + 1]? = some (.cells t0 31 (0, 0)) := heap_alloc2_new _ _ _
  have h0 : ((w.alloc (.cells t0 31)).alloc (.cells t0 31)).heap[w.heap.size]? = some (.cells t0 31 (0, 0)) := heap_alloc2_old _ _ _
  obtain ⟨W1, hW1⟩ : ∃ W, ((w.alloc (.cells t0 31)).alloc (.cells t0 31)).setRow (w.heap.size + 1) t0 = W := ⟨_, rfl⟩
  obtain ⟨g, hg⟩ : ∃ g, w.heap.size = g := ⟨_, rfl⟩
  have b1 : W1.heap[g + 1]? = some (.cells (tabI (opTo (smallF n) (List.replicate 16 0) 0)) 31 (0, 0)) := by rw [← hW1, ← hg, opTo_zero _ (by simp), ht0]; exact setRow_heap _ _ _ _ _ _ h2
  have b0 : W1.heap[g]? = some (.cells t0 31 (0, 0)) := by rw [← hW1, ← hg, setRow_other _ _ _ _ (by omega)]; exact h0
  have bb : Below g w W1 := by rw [← hW1, ← hg]; exact below_row (((Below.refl w.heap.size w).alloc (Nat.le_refl _) _).alloc (by simp) _) (by omega)
  have HB1 := Lib.hid b1
  have HB0 := Lib.hid b0
  have HBE := Lib.hid bb
  have HG := Lib.hid hg
  have HW := Lib.hid hW1
  clear b1 b0 bb ht0 hW1 hg
  go_enter Try.func51, Try.ntmps51
  go_wp2_with (refine wpList_store_row rfl 31 (.tmp 3) (.tmp 5) rfl (w.heap.size + 1) t0 rfl rfl 31 t0 h2 s0 rfl o0 ?_)
  rw [HW.out, HG.out]
  clear h0 h2 HW
  go_loopw [4] (fun i wr => ∃ k : Nat, k ≤ 4 ∧ i = .int .i64 (k : Int) ∧ Hid (wr.heap[g]? = some (.cells t0 31 (0, 0))) ∧ Hid (wr.heap[g + 1]? = some (.cells (tabI (opTo (smallF n) (List.replicate 16 0) k)) 31 (0, 0))) ∧ Hid (Below g w wr)) (fun i _ => 4 - (intOf i).toNat)
  case atStart => exact ⟨0, by omega, rfl, HB0, HB1, HBE⟩
  case round =>
    clear HB0 HB1 HBE
    obtain ⟨k, hk, rfl, HB0, HB1, HBE⟩ := hrel
    by_cases hlt : k < 4
    · have hl : (opTo (smallF n) (List.replicate 16 0) k).length = 16 := opTo_len _ _ _
      have hck : wr.cell? ⟨g + 1, k, none⟩ = some (.int .i64 (gI (opTo (smallF n) (List.replicate 16 0) k) k)) := by rw [cell_of_row _ _ _ _ _ _ HB1.out, tabI_get _ _ (by omega)]
      have hfz : wr.frozen? ⟨g + 1, k, none⟩ = false := by have := HB1.out; simp [World.frozen?, this]
      obtain ⟨v, hv⟩ : ∃ v, smallF n k = v := ⟨_, rfl⟩
      have e := setCell_eq_setRow wr (g + 1) k _ _ _ (.int .i64 v) HB1.out
      have n1 : Hid ((wr.setCell ⟨g + 1, k, none⟩ (.int .i64 v)).heap[g]? = some (.cells t0 31 (0, 0))) := Lib.hid (by rw [e, setRow_other _ _ _ _ (by omega)]; exact HB0.out)
      have n2 : Hid ((wr.setCell ⟨g + 1, k, none⟩ (.int .i64 v)).heap[g + 1]? = some (.cells (tabI (opTo (smallF n) (List.replicate 16 0) (k + 1))) 31 (0, 0))) := Lib.hid (by
        rw [e, setRow_heap _ _ _ _ _ _ HB1.out, tabI_set, ← opTo_set (smallF n) _ (by omega), hv])
      have n3 : Hid (Below g w (wr.setCell ⟨g + 1, k, none⟩ (.int .i64 v))) := Lib.hid (HBE.out.setCell (p := ⟨g + 1, k, none⟩) (by show g ≤ g + 1; omega) _)
      generalize gI (opTo (smallF n) (List.replicate 16 0) k) k = old at *
      obtain ⟨s, hs⟩ : ∃ s, 16 * k = s := ⟨_, rfl⟩
      obtain ⟨q, hq⟩ : ∃ q, n / 2 ^ s = q := ⟨_, rfl⟩
      have hql : q < 18446744073709551616 := by rw [← hq]; exact Nat.lt_of_le_of_lt (Nat.div_le_self _ _) hn
      have hvq : v = ((q % 65536 : Nat) : Int) := by
        rw [← hv, ← hq, ← hs]
        unfold smallF
        rw [if_pos hlt, Nat.pow_mul]
      have f0 : (16 : Int) * (k : Int) = (s : Int) := by omega
      have f1 : IntKind.u64.wrap (s : Int) = (s : Int) := by rw [IntKind.wrap_u64]; omega
      have f2 : (n : Int) / 2 ^ s = (q : Int) := by rw [← hq]; simp
      have f3 : bits .and .u64 (q : Int) 65535 = v := by rw [u64_andM q hql, hvq]
      have f4 : IntKind.i64.wrap v = v := by rw [IntKind.wrap_i64, hvq]; omega
      have hs64 : s < 64 := by omega
      have p1 : 0 ≤ (k : Int) := by omega
      have p2 : (k : Int) < 16 := by omega
      clear e hl HB0 HB1 HBE hv hs hq hvq
      go_wp2_with fail
      go_roundw
      case rel => exact ⟨k + 1, by omega, by go_num, n1, n2, n3⟩
      case measure => simp [intOf]; omega
    · obtain rfl : k = 4 := by omega
      have h1 := HB1.out
      have h0 := HB0.out
      have hfl : (opTo (smallF n) (List.replicate 16 0) 4).length = 16 := opTo_len _ _ _
      have s1 : (Try.prog.info? 31).map (·.size) = some (tabI (opTo (smallF n) (List.replicate 16 0) 4)).size := info_fe hfl
      have sz : t0.size = (tabI (opTo (smallF n) (List.replicate 16 0) 4)).size := by rw [n0, tabI_size, hfl]
      have o1 := tabI_one (opTo (smallF n) (List.replicate 16 0) 4)
      have HB := Lib.hid (below_row (cs := tabI (opTo (smallF n) (List.replicate 16 0) 4)) HBE.out (Nat.le_refl g))
      obtain ⟨t1, ht1⟩ : ∃ t, tabI (opTo (smallF n) (List.replicate 16 0) 4) = t := ⟨_, rfl⟩
      rw [ht1] at h1 s1 sz o1 HB
      have HT1 := Lib.hid ht1
      clear ht1 hfl HB0 HB1 HBE
      go_wp2_with (first
        | (refine wpList_load_row rfl 31 (.tmp 3) rfl (g + 1) rfl 31 t1 (0, 0) _ h1 Try.underlying31 rfl s1 ?_)
        | (refine wpList_store_row rfl 31 (.tmp 2) (.tmp 19) rfl g t1 rfl rfl 31 t0 h0 s1 sz o1 ?_))
      (try simp only [Exit.inBlock, Exit.then])
      refine bodyPost_ret (results_cell_row rfl _ _ g _ t1 _ _ rfl (setRow_heap _ _ _ _ _ _ h0) Try.underlying31 rfl s1) rfl ?_
      exact ⟨by rw [HT1.out], by rw [HG.out]; exact HB.out⟩
end Go.Proofs.Ytfejabfmhddepaa

namespace Go.Proofs.Ytfejabfmhddepaa
open Go.RowKit
set_option linter.unusedVariables false
set_option maxRecDepth 100000

/-- three rows, one behind the other; the last one is written -/
structure Tri (t0 t1 t2 : TypeId) (w wr : World) (g : Nat) (X Y Z : Array Value) : Prop where
  x : wr.heap[g]? = some (.cells X t0 (0, 0))
  y : wr.heap[g + 1]? = some (.cells Y t1 (0, 0))
  z : wr.heap[g + 1 + 1]? = some (.cells Z t2 (0, 0))
  below : Below g w wr
section
variable {t0 t1 t2 : TypeId} {w wr W : World} {g : Nat} {X Y Z : Array Value}
theorem Tri.lt (h : Tri t0 t1 t2 w wr g X Y Z) : g + 1 + 1 < wr.heap.size := (Array.getElem?_eq_some_iff.1 h.z).1
theorem Tri.drew (h : Tri t0 t1 t2 w wr g X Y Z) : Tri t0 t1 t2 w wr.drew g X Y Z := ⟨h.x, h.y, h.z, h.below.drew⟩
theorem Tri.set (h : Tri t0 t1 t2 w wr g X Y Z) (k : Nat) (v : Value) : Tri t0 t1 t2 w (wr.setCell ⟨g + 1 + 1, k, none⟩ v) g X Y (Z.setIfInBounds k v) := by
  have e := setCell_eq_setRow wr (g + 1 + 1) k _ _ _ v h.z
  exact ⟨by rw [e, setRow_other _ _ _ _ (by omega)]; exact h.x, by rw [e, setRow_other _ _ _ _ (by omega)]; exact h.y, by rw [e, setRow_heap _ _ _ _ _ _ h.z], h.below.setCell (p := ⟨g + 1 + 1, k, none⟩) (by show g ≤ g + 1 + 1; omega) _⟩
theorem Tri.call (h : Tri t0 t1 t2 w wr g X Y Z) (hb : Below wr.heap.size wr W) : Tri t0 t1 t2 w W g X Y Z := by
  have hl := h.lt
  exact ⟨by rw [hb.block _ (by omega)]; exact h.x, by rw [hb.block _ (by omega)]; exact h.y, by rw [hb.block _ (by omega)]; exact h.z, h.below.trans (hb.mono (by omega))⟩
theorem tri_two (w : World) (X Y : Array Value) (t0 t1 : TypeId) : ((w.alloc (.cells X t0)).alloc (.cells Y t1)).heap.size = w.heap.size + 1 + 1 := by rw [World.size_alloc, World.size_alloc]
theorem tri_new (w : World) (X Y Z0 : Array Value) (t0 t1 t2 : TypeId) : (((w.alloc (.cells X t0)).alloc (.cells Y t1)).alloc (.cells Z0 t2)).heap[w.heap.size + 1 + 1]? = some (.cells Z0 t2 (0, 0)) := by
  rw [← tri_two w X Y t0 t1]; exact heap_alloc_new _ _
theorem tri_start (w : World) (X Y Z0 Z : Array Value) (t0 t1 t2 : TypeId) : Tri t0 t1 t2 w ((((w.alloc (.cells X t0)).alloc (.cells Y t1)).alloc (.cells Z0 t2)).setRow (w.heap.size + 1 + 1) Z) w.heap.size X Y Z := by
  refine ⟨?_, ?_, setRow_heap _ _ _ _ _ _ (tri_new w X Y Z0 t0 t1 t2), below_row ((((Below.refl w.heap.size w).alloc (Nat.le_refl _) _).alloc (by simp) _).alloc (by simp; omega) _) (by omega)⟩
  · rw [setRow_other _ _ _ _ (by omega), heap_alloc_old _ _ (by rw [World.size_alloc, World.size_alloc]; omega)]; exact heap_alloc2_old _ _ _
  · rw [setRow_other _ _ _ _ (by omega), heap_alloc_old _ _ (by rw [World.size_alloc, World.size_alloc]; omega)]; exact heap_alloc2_new _ _ _
theorem Tri.fz (h : Tri t0 t1 t2 w wr g X Y Z) (k : Nat) : wr.frozen? ⟨g + 1 + 1, k, none⟩ = false := by have := h.z; simp [World.frozen?, this]
end

set_option maxHeartbeats 1600000 in
theorem rfrom9_any (l : List UInt8) (hl : l.length = 32) (w : World) :
    Calls Try.prog 32 #[.agg (arrB l)] w fun e w' => e = .returned (.agg (tabI (dgN 16 (feN l : Int)))) ∧ Below w.heap.size w w' := by
  have hz := fun u => zero_fe u
  obtain ⟨z0, hz0e⟩ : ∃ t, tabI (List.replicate 16 0) = t := ⟨_, rfl⟩
  rw [hz0e] at hz
  have n0 : z0.size = 16 := by rw [← hz0e, tabI_size]; simp
  have s0 : (Try.prog.info? 31).map (·.size) = some z0.size := by rw [← hz0e]; exact info_fe (by simp)
  have o0 : z0.all (·.oneCell') = true := by rw [← hz0e]; exact tabI_one _
  have hval := digits_top hl
  have hbd : Bd 70368744177664 (((List.range 16).map (digitF l)).set 15 (digitF l 15 % 32768)) := fun i => by
    rw [gI_set _ _ _ _ (by simp)]
    by_cases e : 15 = i
    · rw [if_pos e]; omega
    · rw [if_neg e]
      by_cases hi : i < 16
      · rw [gI_range _ _ hi]; have := digitF_bd l i; omega
      · rw [gI_out (by simp; omega)]; omega
  have hlt : leN l % TT < TT := Nat.mod_lt _ (by decide)
  have HNO : Hid (∀ W : World, Calls Try.prog 70 #[.agg (tabI (((List.range 16).map (digitF l)).set 15 (digitF l 15 % 32768)))] W fun e w' => e = .returned (.agg (tabI (dgN 16 (feN l : Int)))) ∧ Below W.heap.size W w') := Lib.hid fun W => by
    have h := rnorm9_any _ (by simp) hbd (by rw [hval]; unfold P255; omega) (by rw [hval]; unfold P255 TT at *; omega) W
    rw [hval] at h
    rwa [show ((leN l % TT : Nat) : Int) % pP = (feN l : Int) by unfold feN pP PP; omega] at h
  obtain ⟨R, hR⟩ : ∃ R, tabI (dgN 16 (feN l : Int)) = R := ⟨_, rfl⟩
  have nR : R.size = 16 := by rw [← hR, tabI_size, dgN_len]
  have oR : R.all (·.oneCell') = true := by rw [← hR]; exact tabI_one _
  have iR : (Try.prog.info? 31).map (·.size) = some R.size := by rw [← hR]; exact info_fe (dgN_len _ _)
  have zR : z0.size = R.size := by rw [n0, nR]
  rw [hR] at HNO ⊢
  have HL := Lib.hid hl
  obtain ⟨BB, hBB⟩ : ∃ X, arrB l = X := ⟨_, rfl⟩
  have HBB := Lib.hid hBB
  rw [hBB]
  have h2 := tri_new w BB z0 z0 22 31 31
  have HI : Hid (Tri 22 31 31 w ((((w.alloc (.cells BB 22)).alloc (.cells z0 31)).alloc (.cells z0 31)).setRow (w.heap.size + 1 + 1) z0) w.heap.size BB z0 (tabI (opTo (digitF l) (List.replicate 16 0) 0))) := Lib.hid (by rw [opTo_zero _ (by simp), hz0e]; exact tri_start _ _ _ _ _ _ _ _)
  clear hz0e n0 hval hbd hlt hR nR hBB hl
  go_enter Try.func32, Try.ntmps32
  go_wp2_with (refine wpList_store_row rfl 31 (.tmp 3) (.tmp 5) rfl (w.heap.size + 1 + 1) z0 rfl rfl 31 z0 h2 s0 rfl o0 ?_)
  obtain ⟨W1, hW1⟩ : ∃ W, (((w.alloc (.cells BB 22)).alloc (.cells z0 31)).alloc (.cells z0 31)).setRow (w.heap.size + 1 + 1) z0 = W := ⟨_, rfl⟩
  obtain ⟨g, hg⟩ : ∃ g, w.heap.size = g := ⟨_, rfl⟩
  rw [hg] at hW1
  rw [hg, hW1] at HI
  rw [hg, hW1]
  have HG := Lib.hid hg
  clear hW1 hg h2
  go_loopw [4] (fun i wr => ∃ k : Nat, k ≤ 16 ∧ i = .int .i64 (k : Int) ∧ Hid (Tri 22 31 31 w wr g BB z0 (tabI (opTo (digitF l) (List.replicate 16 0) k)))) (fun i _ => 16 - (intOf i).toNat)
  case atStart => exact ⟨0, by omega, rfl, HI⟩
  case round =>
    clear HI
    obtain ⟨k, hk, rfl, HI⟩ := hrel
    by_cases hlt : k < 16
    · obtain ⟨j, hj⟩ : ∃ j, 2 * k = j := ⟨_, rfl⟩
      obtain ⟨j1, hj1⟩ : ∃ j1, j + 1 = j1 := ⟨_, rfl⟩
      obtain ⟨u, hu⟩ : ∃ u : Int, ((l.getD j 0).toNat : Int) = u := ⟨_, rfl⟩
      obtain ⟨v, hv⟩ : ∃ v : Int, ((l.getD j1 0).toNat : Int) = v := ⟨_, rfl⟩
      have cx : wr.cell? ⟨g, j, none⟩ = some (.int .u8 u) := by rw [cell_of_row _ _ _ _ _ _ HI.out.x, ← HBB.out, arrB_get _ _ (by rw [HL.out]; omega), hu]
      have cy : wr.cell? ⟨g, j1, none⟩ = some (.int .u8 v) := by rw [cell_of_row _ _ _ _ _ _ HI.out.x, ← HBB.out, arrB_get _ _ (by rw [HL.out]; omega), hv]
      have fx := HI.out.fz k
      have cz : wr.cell? ⟨g + 1 + 1, k, none⟩ = some (.int .i64 (gI (opTo (digitF l) (List.replicate 16 0) k) k)) := by rw [cell_of_row _ _ _ _ _ _ HI.out.z, tabI_get _ _ (by rw [opTo_len]; exact hlt)]
      have hub : 0 ≤ u ∧ u < 256 := by have := (l.getD j 0).toNat_lt; omega
      have hvb : 0 ≤ v ∧ v < 256 := by have := (l.getD j1 0).toNat_lt; omega
      obtain ⟨p, hp⟩ : ∃ p, 256 * v = p := ⟨_, rfl⟩
      obtain ⟨s, hs⟩ : ∃ s, u + p = s := ⟨_, rfl⟩
      have hds : digitF l k = s := by unfold digitF; rw [hj, hj1, hu, hv, hp, hs]
      have HI2 : Hid (Tri 22 31 31 w (wr.drew.setCell ⟨g + 1 + 1, k, none⟩ (.int .i64 s)) g BB z0 (tabI (opTo (digitF l) (List.replicate 16 0) (k + 1)))) := Lib.hid (by
        rw [← opTo_set (digitF l) _ hlt, hds, ← tabI_set]
        exact (HI.out.drew).set k _)
      generalize gI (opTo (digitF l) (List.replicate 16 0) k) k = old at *
      have f0 : (2 : Int) * (k : Int) = (j : Int) := by omega
      have f0' : IntKind.i64.wrap (j : Int) = (j : Int) := by rw [IntKind.wrap_i64]; omega
      have f1 : (j : Int) + 1 = (j1 : Int) := by omega
      have f1' : IntKind.i64.wrap (j1 : Int) = (j1 : Int) := by rw [IntKind.wrap_i64]; omega
      have f2' : IntKind.i64.wrap u = u := by rw [IntKind.wrap_i64]; omega
      have f3' : IntKind.i64.wrap v = v := by rw [IntKind.wrap_i64]; omega
      have f4' : IntKind.i64.wrap p = p := by rw [IntKind.wrap_i64]; omega
      have f5' : IntKind.i64.wrap s = s := by rw [IntKind.wrap_i64]; omega
      have b1 : 0 ≤ (j : Int) := by omega
      have b2 : (j : Int) < 32 := by omega
      have b3 : 0 ≤ (j1 : Int) := by omega
      have b4 : (j1 : Int) < 32 := by omega
      have b5 : 0 ≤ (k : Int) := by omega
      have b6 : (k : Int) < 16 := by omega
      clear HI hj hj1 hu hv hub hvb hds
      go_wp2_with fail
      refine wp_region_still_tail 15 (by kernel_rfl) (by kernel_rfl) ?_
      simp only [List.take_succ_cons, List.take_zero, List.drop_succ_cons, List.drop_zero]
      iterate 15 still_step
      refine wpStill_nil ?_
      go_wp2_with fail
      go_roundw
      case rel => exact ⟨k + 1, by omega, by go_num, HI2⟩
      case measure => simp [intOf]; omega
    · obtain rfl : k = 16 := by omega
      rw [opTo_end] at HI
      have cz : wr.cell? ⟨g + 1 + 1, 15, none⟩ = some (.int .i64 (digitF l 15)) := by rw [cell_of_row _ _ _ _ _ _ HI.out.z, tabI_get _ _ (by simp), gI_range _ _ (by omega)]
      have fx := HI.out.fz 15
      obtain ⟨d, hd⟩ : ∃ d, digitF l 15 = d := ⟨_, rfl⟩
      obtain ⟨m, hm⟩ : ∃ m, d % 32768 = m := ⟨_, rfl⟩
      have f1 : bits .and .i64 d 32767 = m := by rw [i64_and32767, hm]
      have HI2 : Hid (Tri 22 31 31 w (wr.setCell ⟨g + 1 + 1, 15, none⟩ (.int .i64 m)) g BB z0 (tabI (((List.range 16).map (digitF l)).set 15 (digitF l 15 % 32768)))) := Lib.hid (by
        rw [hd, hm, ← tabI_set]
        exact HI.out.set 15 _)
      rw [hd] at cz
      have h1 := HI2.out.z
      have s1 : (Try.prog.info? 31).map (·.size) = some (tabI (((List.range 16).map (digitF l)).set 15 (digitF l 15 % 32768))).size := info_fe (by simp)
      generalize tabI (((List.range 16).map (digitF l)).set 15 (digitF l 15 % 32768)) = T1 at *
      clear HI hd hm
      go_wp2_with (refine wpList_load_row rfl 31 (.tmp 3) rfl (g + 1 + 1) rfl 31 T1 (0, 0) _ h1 Try.underlying31 rfl s1 ?_)
      with_reducible refine (HNO.out _).mono ?_
      rintro e w2 ⟨rfl, hb2⟩
      have HI3 := HI2.out.call hb2
      have h0 := HI3.y
      have HB := Lib.hid (show Below w.heap.size w (w2.setRow (g + 1) R) by rw [HG.out]; exact below_row HI3.below (by omega))
      clear hb2 HI2 HI3 h1
      go_wp2_with (refine wpList_store_row rfl 31 (.tmp 2) (.tmp 30) rfl (g + 1) R rfl rfl 31 z0 h0 iR zR oR ?_)
      (try simp only [Exit.inBlock, Exit.then])
      refine bodyPost_ret (results_cell_row rfl _ _ (g + 1) _ R _ _ rfl (setRow_heap _ _ _ _ _ _ h0) Try.underlying31 rfl iR) rfl ?_
      exact ⟨rfl, HB.out⟩
end Go.Proofs.Ytfejabfmhddepaa

namespace Go.Proofs.Ytfejabfmhddepaa
open Go.RowKit
set_option linter.unusedVariables false
set_option maxRecDepth 100000

theorem i64_and255 (n : Int) : bits .and .i64 n 255 = n % 256 := by
  have h127 : (BitVec.ofInt 64 255).toNat = 2 ^ 8 - 1 := by decide
  have key : (BitVec.ofInt 64 n &&& BitVec.ofInt 64 255).toNat = (n % ((2 ^ 64 : Nat) : Int)).toNat % 2 ^ 8 := by
    rw [BitVec.toNat_and, h127, Nat.and_two_pow_sub_one_eq_mod, BitVec.toNat_ofInt]
  show IntKind.i64.wrap ((BitVec.ofInt 64 n &&& BitVec.ofInt 64 255).toNat : Nat) = n % 256
  rw [key, IntKind.wrap_i64]
  omega

set_option maxHeartbeats 1600000 in
theorem rbytes9_any (x : Nat) (w : World) : Calls Try.prog 44 #[.agg (tabI (dgN 16 (x : Int)))] w fun e w' => e = .returned (.agg (arrB (leB 32 x))) ∧ Below w.heap.size w w' := by
  have hz := fun u => zero_arr 22 (arrB (List.replicate 32 0)) 32 (by kernel_rfl) u
  obtain ⟨z0, hz0e⟩ : ∃ z, arrB (List.replicate 32 0) = z := ⟨_, rfl⟩
  have n0 : z0.size = 32 := by rw [← hz0e, arrB_size]; simp
  rw [hz0e] at hz
  have s0 : (Try.prog.info? 22).map (·.size) = some z0.size := by rw [n0]; kernel_rfl
  have o0 : z0.all (·.oneCell') = true := by rw [← hz0e]; exact arrB_one _
  obtain ⟨XX, hXX⟩ : ∃ X, tabI (dgN 16 (x : Int)) = X := ⟨_, rfl⟩
  have HXX := Lib.hid hXX
  rw [hXX]
  obtain ⟨R, hR⟩ : ∃ R, arrB (leB 32 x) = R := ⟨_, rfl⟩
  have HR := Lib.hid hR
  have nR : R.size = 32 := by rw [← hR, arrB_size, leB_len]
  have oR : R.all (·.oneCell') = true := by rw [← hR]; exact arrB_one _
  have iR : (Try.prog.info? 22).map (·.size) = some R.size := by rw [nR]; kernel_rfl
  have zR : z0.size = R.size := by rw [n0, nR]
  rw [hR]
  have h2 := tri_new w XX z0 z0 31 22 22
  have HI : Hid (Tri 31 22 22 w ((((w.alloc (.cells XX 31)).alloc (.cells z0 22)).alloc (.cells z0 22)).setRow (w.heap.size + 1 + 1) z0) w.heap.size XX z0 (arrB (byteTo x 0))) := Lib.hid (by rw [byteTo_zero, hz0e]; exact tri_start _ _ _ _ _ _ _ _)
  clear hz0e n0 hXX hR nR
  go_enter Try.func44, Try.ntmps44
  go_wp2_with (refine wpList_store_row rfl 22 (.tmp 3) (.tmp 5) rfl (w.heap.size + 1 + 1) z0 rfl rfl 22 z0 h2 s0 rfl o0 ?_)
  obtain ⟨W1, hW1⟩ : ∃ W, (((w.alloc (.cells XX 31)).alloc (.cells z0 22)).alloc (.cells z0 22)).setRow (w.heap.size + 1 + 1) z0 = W := ⟨_, rfl⟩
  obtain ⟨g, hg⟩ : ∃ g, w.heap.size = g := ⟨_, rfl⟩
  rw [hg] at hW1
  rw [hg, hW1] at HI
  rw [hg, hW1]
  have HG := Lib.hid hg
  clear hW1 hg h2
  go_loopw [4] (fun i wr => ∃ k : Nat, k ≤ 16 ∧ i = .int .i64 (k : Int) ∧ Hid (Tri 31 22 22 w wr g XX z0 (arrB (byteTo x k)))) (fun i _ => 16 - (intOf i).toNat)
  case atStart => exact ⟨0, by omega, rfl, HI⟩
  case round =>
    clear HI
    obtain ⟨k, hk, rfl, HI⟩ := hrel
    by_cases hlt : k < 16
    · obtain ⟨j, hj⟩ : ∃ j, 2 * k = j := ⟨_, rfl⟩
      obtain ⟨j1, hj1⟩ : ∃ j1, j + 1 = j1 := ⟨_, rfl⟩
      have hst := byteTo_step x k hlt
      have hbl := byteTo_len x k
      obtain ⟨y, hy⟩ : ∃ y, x / 65536 ^ k % 65536 = y := ⟨_, rfl⟩
      obtain ⟨d, hd⟩ : ∃ d : Int, (y : Int) = d := ⟨_, rfl⟩
      have cx : wr.cell? ⟨g, k, none⟩ = some (.int .i64 d) := by rw [cell_of_row _ _ _ _ _ _ HI.out.x, ← HXX.out, tabI_get _ _ (by rw [dgN_len]; exact hlt), dgN_getN _ _ _ hlt, hy, hd]
      rw [hy, hj, hj1] at hst
      have hyl : y < 65536 := by rw [← hy]; exact Nat.mod_lt _ (by omega)
      obtain ⟨lo, hlo⟩ : ∃ a : Int, d % 256 = a := ⟨_, rfl⟩
      obtain ⟨hi, hhi⟩ : ∃ a : Int, d / 256 = a := ⟨_, rfl⟩
      have el : (((UInt8.ofNat (y % 256)).toNat : Nat) : Int) = lo := by simp; omega
      have eh : (((UInt8.ofNat (y / 256)).toNat : Nat) : Int) = hi := by simp; omega
      have cz : wr.cell? ⟨g + 1 + 1, j, none⟩ = some (.int .u8 (((byteTo x k).getD j 0).toNat : Int)) := by rw [cell_of_row _ _ _ _ _ _ HI.out.z, arrB_get _ _ (by omega)]
      have fx := HI.out.fz j
      have HJ1 := HI.out.set j (.int .u8 lo)
      rw [← el, arrB_set, el] at HJ1
      have cz1 : (wr.setCell ⟨g + 1 + 1, j, none⟩ (.int .u8 lo)).cell? ⟨g + 1 + 1, j1, none⟩ = some (.int .u8 ((((byteTo x k).set j (UInt8.ofNat (y % 256))).getD j1 0).toNat : Int)) := by rw [cell_of_row _ _ _ _ _ _ HJ1.z, arrB_get _ _ (by rw [List.length_set]; omega)]
      have fx1 := HJ1.fz j1
      have HJ2 := HJ1.set j1 (.int .u8 hi)
      rw [← eh, arrB_set, eh, hst] at HJ2
      have HI2 := Lib.hid HJ2
      generalize (((byteTo x k).set j (UInt8.ofNat (y % 256))).getD j1 0) = old1 at *
      generalize ((byteTo x k).getD j 0) = old at *
      have f0 : (2 : Int) * (k : Int) = (j : Int) := by omega
      have f1 : (j : Int) + 1 = (j1 : Int) := by omega
      have f2 : bits .and .i64 d 255 = lo := by rw [i64_and255, hlo]
      have f3 : IntKind.u8.wrap lo = lo := by rw [IntKind.wrap_u8]; omega
      have f4 : IntKind.u8.wrap hi = hi := by rw [IntKind.wrap_u8]; omega
      have b1 : 0 ≤ (j : Int) := by omega
      have b2 : (j : Int) < 32 := by omega
      have b3 : 0 ≤ (j1 : Int) := by omega
      have b4 : (j1 : Int) < 32 := by omega
      have b5 : 0 ≤ (k : Int) := by omega
      have b6 : (k : Int) < 16 := by omega
      clear HI hj hj1 hst hbl hy hd hyl hlo el eh HJ1 HJ2
      go_wp2_with fail
      go_roundw
      case rel => exact ⟨k + 1, by omega, by go_num, HI2⟩
      case measure => simp [intOf]; omega
    · obtain rfl : k = 16 := by omega
      rw [byteTo_end, HR.out] at HI
      have h1 := HI.out.z
      have h0 := HI.out.y
      have HB := Lib.hid (show Below w.heap.size w (wr.setRow (g + 1) R) by rw [HG.out]; exact below_row HI.out.below (by omega))
      clear HI
      go_wp2_with (first
        | (refine wpList_load_row rfl 22 (.tmp 3) rfl (g + 1 + 1) rfl 22 R (0, 0) _ h1 Try.underlying22 rfl iR ?_)
        | (refine wpList_store_row rfl 22 (.tmp 2) (.tmp 27) rfl (g + 1) R rfl rfl 22 z0 h0 iR zR oR ?_))
      (try simp only [Exit.inBlock, Exit.then])
      refine bodyPost_ret (results_cell_row rfl _ _ (g + 1) _ R _ _ rfl (setRow_heap _ _ _ _ _ _ h0) Try.underlying22 rfl iR) rfl ?_
      exact ⟨rfl, HB.out⟩

set_option maxHeartbeats 1600000 in
theorem rcan9_any (l : List UInt8) (hl : l.length = 32) (w : World) : Calls Try.prog 30 #[.agg (arrB l)] w fun e w' => e = .returned (.bool (canN l)) ∧ Below w.heap.size w w' := by
  rw [← canN_iff hl]
  have htl := topC_len l
  rw [hl] at htl
  have HFR : Hid (∀ W : World, Calls Try.prog 32 #[.agg (arrB (topC l))] W fun e w' => e = .returned (.agg (tabI (dgN 16 (feN (topC l) : Int)))) ∧ Below W.heap.size W w') := Lib.hid fun W => rfrom9_any _ htl W
  have HBY : Hid (∀ W : World, Calls Try.prog 44 #[.agg (tabI (dgN 16 (feN (topC l) : Int)))] W fun e w' => e = .returned (.agg (arrB (leB 32 (feN (topC l))))) ∧ Below W.heap.size W w') := Lib.hid fun W => rbytes9_any _ W
  have heq := fun u : World => eqB_run (P := Try.prog) 22 5 32 (leB 32 (feN (topC l))) (topC l) (leB_len _ _) htl Try.underlying22 Try.underlying5 (fun w => by kernel_rfl) (fun w => by kernel_rfl) u
  obtain ⟨res, hres⟩ : ∃ r, decide (leB 32 (feN (topC l)) = topC l) = r := ⟨_, rfl⟩
  rw [hres] at heq ⊢
  obtain ⟨Q, hQ⟩ : ∃ Q, tabI (dgN 16 (feN (topC l) : Int)) = Q := ⟨_, rfl⟩
  rw [hQ] at HFR HBY
  obtain ⟨B2, hB2⟩ : ∃ B, arrB (leB 32 (feN (topC l))) = B := ⟨_, rfl⟩
  rw [hB2] at HBY heq
  have h0 : (w.alloc (.cells (arrB l) 22)).heap[w.heap.size]? = some (.cells (arrB l) 22 (0, 0)) := heap_alloc_new _ _
  obtain ⟨a, ha⟩ : ∃ a, l.getD 31 0 = a := ⟨_, rfl⟩
  have cx : (w.alloc (.cells (arrB l) 22)).cell? ⟨w.heap.size, 31, none⟩ = some (.int .u8 (a.toNat : Int)) := by rw [cell_of_row _ _ _ _ _ _ h0, arrB_get _ _ (by omega), ha]
  have f1 : bits .and .u8 (a.toNat : Int) 127 = ((a &&& 127).toNat : Int) := u8_and' a 127
  have eT : (arrB l).setIfInBounds 31 (.int .u8 ((a &&& 127).toNat : Int)) = arrB (topC l) := by rw [arrB_set, ← ha]; rfl
  have h1 : (w.alloc (.cells (arrB (topC l)) 22)).heap[w.heap.size]? = some (.cells (arrB (topC l)) 22 (0, 0)) := heap_alloc_new _ _
  have hb : Below w.heap.size w (w.alloc (.cells (arrB (topC l)) 22)) := (Below.refl w.heap.size w).alloc (Nat.le_refl _) _
  have nT : (arrB (topC l)).size = 32 := by rw [arrB_size, htl]
  have iT : (Try.prog.info? 22).map (·.size) = some (arrB (topC l)).size := by rw [nT]; kernel_rfl
  obtain ⟨L0, hL0⟩ : ∃ L, arrB l = L := ⟨_, rfl⟩
  rw [hL0] at cx eT ⊢
  obtain ⟨T, hT⟩ : ∃ L, arrB (topC l) = L := ⟨_, rfl⟩
  rw [hT] at HFR heq h1 hb iT eT
  have fx := frozen_row h0 31
  rw [hL0] at fx
  have hm32 : Try.prog.eqGuardType Try.prog.depth 22 = false := by kernel_rfl
  obtain ⟨m, hm⟩ : ∃ m : Int, ((a &&& 127).toNat : Int) = m := ⟨_, rfl⟩
  rw [hm] at f1 eT
  obtain ⟨W1, hW1⟩ : ∃ W1, w.alloc (.cells T 22) = W1 := ⟨_, rfl⟩
  rw [hW1] at h1 hb
  have hlt : w.heap.size < W1.heap.size := (Array.getElem?_eq_some_iff.1 h1).1
  have HROW : Hid (∀ W, Below W1.heap.size W1 W → W.heap[w.heap.size]? = some (.cells T 22 (0, 0))) := Lib.hid fun W h => by rw [h.block _ hlt]; exact h1
  have HB := Lib.hid hb
  have HW1 := Lib.hid hW1
  have HET := Lib.hid eT
  clear htl hl hres hQ hB2 h0 ha eT h1 hb nT hL0 hT hm hlt hW1
  go_enter Try.func30, Try.ntmps30
  go_upto_region 2 with fail
  rw [HET.out, HW1.out]
  clear HW1 HET cx f1 fx
  refine wp_region_noPanic ?_
  refine wp_region_held_drew (S := fun W => Below W1.heap.size W1 W) (by kernel_rfl) (by exact (Below.refl _ _).drew) (fun hS => ?_)
  refine' take_at 0 rfl (by kernel_rfl) (by kernel_rfl) (by kernel_rfl) (fun _ _ _ h => h) (by rfl) hS ?_ ?_ ?_
  rotate_left 2
  · intro W hSW; exact run_loadR rfl rfl (HROW.out W hSW) Try.underlying22 rfl iT
  · simp only [List.set_cons_succ, List.set_cons_zero]; rfl
  refine' take_at 3 rfl (by kernel_rfl) (by kernel_rfl) (by kernel_rfl) (fun _ _ _ h => h) (by rfl) hS ?_ ?_ ?_
  rotate_left 2
  · intro W hSW; exact run_loadR rfl rfl (HROW.out W hSW) Try.underlying22 rfl iT
  · simp only [List.set_cons_succ, List.set_cons_zero]; rfl
  refine call_at 1 rfl (by kernel_rfl) (by rfl) (fun K hK => ?_)
  go_simp
  with_reducible refine (HFR.out _).mono ?_
  rintro e v1 ⟨rfl, hb1⟩
  have kb1 := below_next hS hb1
  clear hS hb1
  refine hK.out _ _ (by exact kb1) (fun hS => ?_)
  clear hK K
  refine call_at 2 rfl (by kernel_rfl) (by rfl) (fun K hK => ?_)
  go_simp
  with_reducible refine (HBY.out _).mono ?_
  rintro e v2 ⟨rfl, hb2⟩
  have kb2 := below_next kb1 hb2
  clear hS hb2
  refine hK.out _ _ (by exact kb2) (fun hS => ?_)
  clear hK K
  refine' take_at 4 rfl (by kernel_rfl) (by kernel_rfl) (by kernel_rfl) (fun _ _ _ h => h) (by rfl) hS ?_ ?_ ?_
  rotate_left 2
  · intro W hSW; exact run_eql2 rfl rfl rfl hm32 (heq W)
  · simp only [List.set_cons_succ, List.set_cons_zero]; rfl
  refine' take_at 5 rfl (by kernel_rfl) (by kernel_rfl) (by kernel_rfl) (fun _ _ _ h => h) (by rfl) hS ?_ ?_ ?_
  rotate_left 2
  · intro W hSW; go_simp; try with_reducible rfl
  · simp only [List.set_cons_succ, List.set_cons_zero]; rfl
  refine wpAnyH_done (by kernel_rfl) ?_ _
  refine NoPanic.normal ?_
  clear hS
  (try simp only [Act.put])
  go_wp2_with fail
  go_ret
  exact ⟨rfl, below_next HB.out kb2⟩
end Go.Proofs.Ytfejabfmhddepaa

