/- The contracts of the reference's IsScalar, Sum and Minus. Written by wip/tools/mk_ref11.py. -/
import Derived.Test.YtmmfbbbljhifjaaRefSc11C
import Derived.Test.YtmmfbbbljhifjaaGff2
namespace Go.Proofs.Ytmmfbbbljhifjaa
open Go.RowKit
set_option linter.unusedVariables false
set_option maxRecDepth 100000

theorem isS {l : List UInt8} (h : l.length = 32) : decide (leB 32 (leN l % LL) = l) = decide (leN l < LL) := by
  apply decide_eq_decide.2
  constructor
  · intro e
    have h1 : leN (leB 32 (leN l % LL)) = leN l := by rw [e]
    rw [leN_leB 32 _ (Nat.lt_trans (Nat.mod_lt _ (by decide)) (show LL < 256 ^ 32 by decide))] at h1
    rw [← h1]; exact Nat.mod_lt _ (by decide)
  · intro hlt
    rw [Nat.mod_eq_of_lt hlt]
    have := leB_leN l
    rwa [h] at this
theorem guard11 : Try.prog.eqGuardType Try.prog.depth 22 = false := by kernel_rfl
theorem dig32 (l : List UInt8) (hl : l.length = 32) : Hid (∀ (A : Option Addr) (W : World), Bs W A l → Calls Try.prog 29 #[.slice A 32 32] W (RetD W l)) := Lib.hid fun A W hb => by
  have h := rdigits_any A l 32 W hb (by omega)
  rwa [hl] at h
theorem n34_lt {l : List UInt8} (hl : l.length = 32) : leN l < 65536 ^ 34 := by have := leN_lt l; rw [hl] at this; exact Nat.lt_trans this (by decide)

set_option maxHeartbeats 1600000 in
theorem risscalar_any (l : List UInt8) (hl : l.length = 32) (W0 : World) : Calls Try.prog 12 #[.agg (arrB l)] W0 fun e w' => e = .returned (.bool (decide (leN l < LL))) ∧ Below W0.heap.size W0 w' := by
  rw [← isS hl]
  have HDI := dig32 l hl
  have HMO : Hid (∀ (gd : Nat) (W : World), W.heap[gd]? = some (.cells (tabI (dgN 34 (leN l : Int))) 2 (0, 0)) → Calls Try.prog 28 #[.slice (some ⟨gd, 0, none⟩) 34 34] W fun e w' => e = .returned (.agg (arrB (leB 32 (leN l % LL)))) ∧ Below W.heap.size W w') := Lib.hid fun gd W h => rmodulo_any gd _ (n34_lt hl) W h
  have heq := fun u : World => eqB_run (P := Try.prog) 22 5 32 (leB 32 (leN l % LL)) l (leB_len _ _) hl Try.underlying22 Try.underlying5 (fun w => by kernel_rfl) (fun w => by kernel_rfl) u
  have iL := info32 hl
  have hg32 := guard11
  obtain ⟨res, hres⟩ : ∃ r, decide (leB 32 (leN l % LL) = l) = r := ⟨_, rfl⟩
  rw [hres] at heq ⊢
  generalize arrB (leB 32 (leN l % LL)) = OUT at *
  obtain ⟨LA, hLA⟩ : ∃ a, arrB l = a := ⟨_, rfl⟩
  have HL := Lib.hid hLA
  rw [hLA] at iL heq ⊢
  obtain ⟨W1, hW1⟩ : ∃ X, W0.alloc (.cells LA 22) = X := ⟨_, rfl⟩
  have h1 : W1.heap[W0.heap.size]? = some (.cells LA 22 (0, 0)) := by rw [← hW1]; exact heap_alloc_new _ _
  have hlt : W0.heap.size < W1.heap.size := (Array.getElem?_eq_some_iff.1 h1).1
  have HROW : Hid (∀ W, Below W1.heap.size W1 W → W.heap[W0.heap.size]? = some (.cells LA 22 (0, 0))) := Lib.hid fun W h => by rw [h.block _ hlt]; exact h1
  have HB : Hid (Below W0.heap.size W0 W1) := Lib.hid (by rw [← hW1]; exact below_al (Below.refl _ _) _)
  have HW1 := Lib.hid hW1
  clear hl hres hLA h1 hlt hW1
  go_enter Try.func12, Try.ntmps12
  go_upto_region 1 with fail
  rw [HW1.out]
  refine wp_region_noPanic ?_
  refine wp_region_held_drew (S := fun W => Below W1.heap.size W1 W) (by kernel_rfl) (by exact (Below.refl _ _).drew) (fun hS => ?_)
  refine' take_at 0 rfl (by kernel_rfl) (by kernel_rfl) (by kernel_rfl) (fun _ _ _ h => h) (by rfl) hS ?_ ?_ ?_
  rotate_left 2
  · intro W hSW; go_simp; try with_reducible rfl
  · simp only [List.set_cons_succ, List.set_cons_zero]; rfl
  refine' take_at 3 rfl (by kernel_rfl) (by kernel_rfl) (by kernel_rfl) (fun _ _ _ h => h) (by rfl) hS ?_ ?_ ?_
  rotate_left 2
  · intro W hSW; exact run_loadR rfl rfl (HROW.out W hSW) Try.underlying22 rfl iL
  · simp only [List.set_cons_succ, List.set_cons_zero]; rfl
  refine call_at 1 rfl (by kernel_rfl) (by rfl) (fun K hK => ?_)
  go_simp
  with_reducible refine (HDI.out _ _ (bs_arr (by have h := HROW.out _ hS; rw [← HL.out] at h; exact h))).mono ?_
  rintro e v1 ⟨gd, rfl, hd1, hgd, hb1⟩
  have HD1 := Lib.hid hd1
  have kb1 := below_nx hS hb1
  clear hS hb1 hgd hd1
  refine hK.out _ _ (by exact kb1) (fun hS => ?_)
  clear hK K
  refine call_at 2 rfl (by kernel_rfl) (by rfl) (fun K hK => ?_)
  go_simp
  with_reducible refine (HMO.out _ _ HD1.out).mono ?_
  rintro e v2 ⟨rfl, hb2⟩
  have kb2 := below_nx kb1 hb2
  clear hS hb2
  refine hK.out _ _ (by exact kb2) (fun hS => ?_)
  clear hK K
  refine' take_at 4 rfl (by kernel_rfl) (by kernel_rfl) (by kernel_rfl) (fun _ _ _ h => h) (by rfl) hS ?_ ?_ ?_
  rotate_left 2
  · intro W hSW; exact run_eql2 rfl rfl rfl hg32 (heq W)
  · simp only [List.set_cons_succ, List.set_cons_zero]; rfl
  refine' take_at 5 rfl (by kernel_rfl) (by kernel_rfl) (by kernel_rfl) (fun _ _ _ h => h) (by rfl) hS ?_ ?_ ?_
  rotate_left 2
  · intro W hSW; go_simp; try with_reducible rfl
  · simp only [List.set_cons_succ, List.set_cons_zero]; rfl
  refine wpAnyH_done (by kernel_rfl) ?_ _
  refine NoPanic.normal ?_
  clear hS
  (try simp only [Act.put])
  go_wp2_with fail
  go_ret
  exact ⟨rfl, below_nx HB.out kb2⟩

/-- the result's row, the digits that are turned, the others -/
structure SuI (w wr : World) (g gx gy : Nat) (X Y : List Int) (z : Array Value) : Prop where
  res : wr.heap[g]? = some (.cells z 22 (0, 0))
  xx : wr.heap[gx]? = some (.cells (tabI X) 2 (0, 0))
  yy : wr.heap[gy]? = some (.cells (tabI Y) 2 (0, 0))
  n1 : g ≠ gx
  n2 : gy ≠ gx
  low : w.heap.size ≤ gx
  below : Below w.heap.size w wr
section
variable {w wr : World} {g gx gy : Nat} {X Y : List Int} {z : Array Value}
theorem SuI.drew (h : SuI w wr g gx gy X Y z) : SuI w wr.drew g gx gy X Y z := ⟨h.res, h.xx, h.yy, h.n1, h.n2, h.low, h.below.drew⟩
theorem SuI.cell (h : SuI w wr g gx gy X Y z) (k : Nat) (v : Int) : SuI w (wr.setCell ⟨gx, k, none⟩ (.int .i64 v)) g gx gy (X.set k v) Y z := by
  rw [setCell_eq_setRow wr gx k _ _ _ (.int .i64 v) h.xx, tabI_set]
  exact ⟨by rw [setRow_other _ _ _ _ h.n1]; exact h.res, setRow_heap _ _ _ _ _ _ h.xx, by rw [setRow_other _ _ _ _ h.n2]; exact h.yy, h.n1, h.n2, h.low, below_row h.below h.low⟩
theorem SuI.turned (h : SuI w wr g gx gy X Y z) {w' : World} (ho : Only (fun j => j = gx) wr w') : w'.heap[g]? = some (.cells z 22 (0, 0)) ∧ Below w.heap.size w w' := by
  have hlt : g < wr.heap.size := (Array.getElem?_eq_some_iff.1 h.res).1
  refine ⟨by rw [ho.block _ hlt (fun e => h.n1 e)]; exact h.res, ?_⟩
  exact h.below.trans (ho.below h.below.size (fun k hk e => by have := h.low; omega))
end
theorem vL_plus (f g : Nat → Int) : ∀ l : List Nat, vL (l.map fun i => f i + g i) = vL (l.map f) + vL (l.map g)
  | [] => rfl
  | a :: l => by have := vL_plus f g l; simp only [List.map_cons, vL] at *; omega
theorem Bd_dg (n : Nat) (v : Int) : Bd 65536 (dgN n v) := fun i => by
  by_cases h : i < n
  · have := dgN_get n v i h; omega
  · rw [gI_out (by rw [dgN_len]; omega)]; omega
def sumG (X Y : List Int) : List Int := (List.range 34).map fun i => gI X i + gI Y i
def difG (X Y : List Int) : List Int := (List.range 34).map fun i => gI X i - gI Y i
theorem sumG_len (X Y) : (sumG X Y).length = 34 := by simp [sumG]
theorem difG_len (X Y) : (difG X Y).length = 34 := by simp [difG]
theorem sumG_get (X Y : List Int) (i : Nat) (h : i < 34) : gI X i + gI Y i = gI (sumG X Y) i := by simp [sumG, gI, List.getD, h]
theorem difG_get (X Y : List Int) (i : Nat) (h : i < 34) : gI X i - gI Y i = gI (difG X Y) i := by simp [difG, gI, List.getD, h]
theorem sumG_bd {X Y : List Int} (hX : Bd 65536 X) (hY : Bd 65536 Y) : Bd 131072 (sumG X Y) := fun i => by
  by_cases h : i < 34
  · rw [← sumG_get X Y i h]; have := hX i; have := hY i; omega
  · rw [gI_out (by rw [sumG_len]; omega)]; omega
theorem difG_bd {X Y : List Int} (hX : Bd 65536 X) (hY : Bd 65536 Y) : Bd 131072 (difG X Y) := fun i => by
  by_cases h : i < 34
  · rw [← difG_get X Y i h]; have := hX i; have := hY i; omega
  · rw [gI_out (by rw [difG_len]; omega)]; omega
theorem sumG_val {X Y : List Int} (hX : X.length = 34) (hY : Y.length = 34) : vL (sumG X Y) = vL X + vL Y := by
  unfold sumG; rw [vL_plus, range_gI hX, range_gI hY]
theorem difG_val {X Y : List Int} (hX : X.length = 34) (hY : Y.length = 34) : vL (difG X Y) = vL X - vL Y := by
  unfold difG; rw [vL_sub, range_gI hX, range_gI hY]
theorem vL_dg34 {V : Nat} (h : V < 65536 ^ 34) : vL (dgN 34 (V : Int)) = (V : Int) := vL_dgN 34 _ (by omega) (by rw [pow34]; exact Int.ofNat_lt.2 h)
/-- carried and taken modulo the order -/
theorem modC {D : List Int} {V : Nat} (hl : D.length = 34) {B : Int} (hB : 2 ≤ B) (hb : Bd B D) (hv : vL D = (V : Int)) (hV : V < 65536 ^ 34) (gd : Nat) (W : World) (h : W.heap[gd]? = some (.cells (tabI (carryTo D 33)) 2 (0, 0))) :
    Calls Try.prog 28 #[.slice (some ⟨gd, 0, none⟩) 34 34] W fun e w' => e = .returned (.agg (arrB (leB 32 (V % LL)))) ∧ Below W.heap.size W w' := by
  have e := carry_dg (n := 33) hl hB hb (by rw [hv]; omega) (by rw [hv, pow34]; exact Int.ofNat_lt.2 hV)
  rw [hv] at e
  rw [e] at h
  exact rmodulo_any gd V hV W h

set_option maxHeartbeats 6400000 in
theorem rsum11_any (l m : List UInt8) (hl : l.length = 32) (hm : m.length = 32) (W : World) : Calls Try.prog 17 #[.agg (arrB l), .agg (arrB m)] W fun e w' => e = .returned (.agg (arrB (leB 32 ((leN l + leN m) % LL)))) ∧ Below W.heap.size W w' := by
  have hz := fun u => zer32_zero u
  have HDL := dig32 l hl
  have HDM := dig32 m hm
  have h1 := n34_lt hl
  have h2 := n34_lt hm
  have hsum : leN l + leN m < 65536 ^ 34 := by
    have a := leN_lt l; have b := leN_lt m
    rw [hl] at a; rw [hm] at b
    exact Nat.lt_of_lt_of_le (Nat.add_lt_add a b) (by decide)
  have HMO : Hid (∀ (gd : Nat) (W : World), W.heap[gd]? = some (.cells (tabI (carryTo (sumG (dgN 34 (leN l : Int)) (dgN 34 (leN m : Int))) 33)) 2 (0, 0)) → Calls Try.prog 28 #[.slice (some ⟨gd, 0, none⟩) 34 34] W fun e w' => e = .returned (.agg (arrB (leB 32 ((leN l + leN m) % LL)))) ∧ Below W.heap.size W w') := Lib.hid fun gd W h =>
    modC (sumG_len _ _) (by decide) (sumG_bd (Bd_dg _ _) (Bd_dg _ _)) (by rw [sumG_val (dgN_len _ _) (dgN_len _ _), vL_dg34 h1, vL_dg34 h2]; omega) hsum gd W h
  have HCA : Hid (∀ (gd : Nat) (W : World), W.heap[gd]? = some (.cells (tabI (sumG (dgN 34 (leN l : Int)) (dgN 34 (leN m : Int)))) 2 (0, 0)) → Calls Try.prog 31 #[.slice (some ⟨gd, 0, none⟩) 34 34] W fun e w' => e = .returned (.slice (some ⟨gd, 0, none⟩) 34 34) ∧ CaI W w' gd (carryTo (sumG (dgN 34 (leN l : Int)) (dgN 34 (leN m : Int))) 33)) := Lib.hid fun gd W h =>
    rcarried_any gd 131072 _ (sumG_len _ _) (by decide) (by decide) (sumG_bd (Bd_dg _ _) (Bd_dg _ _)) W h
  have HXB := Lib.hid (Bd_dg 34 (leN l : Int))
  have HYB := Lib.hid (Bd_dg 34 (leN m : Int))
  have HXL := Lib.hid (dgN_len 34 (leN l : Int))
  have HYL := Lib.hid (dgN_len 34 (leN m : Int))
  have HZL := Lib.hid (sumG_len (dgN 34 (leN l : Int)) (dgN 34 (leN m : Int)))
  have HZG := Lib.hid (sumG_get (dgN 34 (leN l : Int)) (dgN 34 (leN m : Int)))
  have iO : (Try.prog.info? 22).map (·.size) = some (arrB (leB 32 ((leN l + leN m) % LL))).size := info32 (leB_len _ _)
  have oO := arrB_one (leB 32 ((leN l + leN m) % LL))
  have sO : zer32.size = (arrB (leB 32 ((leN l + leN m) % LL))).size := by rw [zer32_size, arrB_size, leB_len]
  obtain ⟨OUT, hOUT⟩ : ∃ x, arrB (leB 32 ((leN l + leN m) % LL)) = x := ⟨_, rfl⟩
  rw [hOUT] at HMO iO oO sO ⊢
  have HDL2 : Hid (∀ (A : Option Addr) (W : World), Bs W A l → Calls Try.prog 29 #[.slice A 32 32] W fun e w' => ∃ g, e = .returned (.slice (some ⟨g, 0, none⟩) 34 34) ∧ w'.heap[g]? = some (.cells (tabI (dgN 34 (leN l : Int))) 2 (0, 0)) ∧ W.heap.size ≤ g ∧ Below W.heap.size W w') := HDL
  have HDM2 : Hid (∀ (A : Option Addr) (W : World), Bs W A m → Calls Try.prog 29 #[.slice A 32 32] W fun e w' => ∃ g, e = .returned (.slice (some ⟨g, 0, none⟩) 34 34) ∧ w'.heap[g]? = some (.cells (tabI (dgN 34 (leN m : Int))) 2 (0, 0)) ∧ W.heap.size ≤ g ∧ Below W.heap.size W w') := HDM
  clear HDL HDM hOUT h1 h2 hsum hl hm
  generalize dgN 34 (leN l : Int) = X at *
  generalize dgN 34 (leN m : Int) = Y at *
  generalize sumG X Y = ZZ at *
  generalize zer32 = z32 at *
  have hr0 : RowsW (((W.alloc (.cells (arrB l) 22)).alloc (.cells (arrB m) 22)).alloc (.cells z32 22)) [(W.heap.size + 1 + 1, z32, 22), (W.heap.size + 1, arrB m, 22), (W.heap.size, arrB l, 22)] := by
    have h := (((RowsW.nil W).box (arrB l) 22).box (arrB m) 22).box z32 22
    simp only [World.size_alloc] at h
    exact h
  obtain ⟨LA, hLA⟩ : ∃ a, arrB l = a := ⟨_, rfl⟩
  obtain ⟨MA, hMA⟩ : ∃ a, arrB m = a := ⟨_, rfl⟩
  have HLA := Lib.hid hLA
  have HMA := Lib.hid hMA
  rw [hLA, hMA] at hr0 ⊢
  obtain ⟨W1, hW1⟩ : ∃ Q, ((W.alloc (.cells LA 22)).alloc (.cells MA 22)).alloc (.cells z32 22) = Q := ⟨_, rfl⟩
  rw [hW1] at hr0
  have HB1 : Hid (Below W.heap.size W W1) := Lib.hid (by rw [← hW1]; exact below_al (below_al (below_al (Below.refl _ _) _) _) _)
  have HR1 := Lib.hid hr0
  have HW1 := Lib.hid hW1
  clear hr0 hLA hMA hW1
  go_enter Try.func17, Try.ntmps17
  go_wp2_with fail
  rw [HW1.out]
  with_reducible refine (HDL2.out _ _ (bs_arr (by have h := HR1.out.tail.tail.head; rw [← HLA.out] at h; exact h))).mono ?_
  rintro e v1 ⟨gx, rfl, hx1, hgx, hb1⟩
  have HX1 := Lib.hid hx1
  have HR2 := Lib.hid (HR1.out.below hb1)
  have HB2 := Lib.hid (below_nx HB1.out hb1)
  have HGX : Hid (W.heap.size + 1 + 1 < gx ∧ W.heap.size ≤ gx) := Lib.hid ⟨by have := (Array.getElem?_eq_some_iff.1 HR1.out.head).1; omega, by have := HB1.out.size; omega⟩
  clear hx1 hgx hb1
  go_wp2_with fail
  with_reducible refine (HDM2.out _ _ (bs_arr (by have h := HR2.out.tail.head; rw [← HMA.out] at h; exact h))).mono ?_
  rintro e v2 ⟨gy, rfl, hy2, hgy, hb2⟩
  have HI : Hid (SuI W v2 (W.heap.size + 1 + 1) gx gy (opG 34 (fun t => gI X t + gI Y t) X 0) Y z32) := Lib.hid (by
    have a := HGX.out
    have b := (Array.getElem?_eq_some_iff.1 HX1.out).1
    refine ⟨(HR2.out.below hb2).head, ?_, hy2, by omega, by omega, a.2, below_nx HB2.out hb2⟩
    rw [opG_zero _ HXL.out, hb2.block _ b]; exact HX1.out)
  have HGG : Hid (W.heap.size ≤ W.heap.size + 1 + 1) := Lib.hid (by omega)
  clear hy2 hgy hb2 HX1 HR2 HB2 HGX HDL2 HDM2
  go_wp2_with fail
  obtain ⟨g, hg⟩ : ∃ g, W.heap.size + 1 + 1 = g := ⟨_, rfl⟩
  rw [hg] at HI HGG
  rw [hg]
  clear hg
  go_loopw [7] (fun i wr => ∃ a : Nat, a ≤ 34 ∧ i = .int .i64 (a : Int) ∧ Hid (SuI W wr g gx gy (opG 34 (fun t => gI X t + gI Y t) X a) Y z32)) (fun i _ => 34 - (intOf i).toNat)
  case atStart => exact ⟨0, by omega, rfl, HI⟩
  case round =>
    clear HI
    obtain ⟨a, ha, rfl, HI⟩ := hrel
    by_cases hlt : a < 34
    · obtain ⟨x, hx⟩ : ∃ x, gI X a = x := ⟨_, rfl⟩
      obtain ⟨y, hy⟩ : ∃ y, gI Y a = y := ⟨_, rfl⟩
      have hxb := HXB.out a
      have hyb := HYB.out a
      rw [hx] at hxb
      rw [hy] at hyb
      have cs : wr.cell? ⟨gx, a, none⟩ = some (.int .i64 x) := by rw [cell_of_row _ _ _ _ _ _ HI.out.xx, tabI_get _ _ (by rw [opG_len]; exact hlt), opG_get _ _ _ _ hlt, if_neg (by omega), hx]
      have cl : wr.cell? ⟨gy, a, none⟩ = some (.int .i64 y) := by rw [cell_of_row _ _ _ _ _ _ HI.out.yy, tabI_get _ _ (by rw [HYL.out]; omega), hy]
      have fx : wr.frozen? ⟨gx, a, none⟩ = false := by have := HI.out.xx; simp [World.frozen?, this]
      have HI2 : Hid (SuI W (wr.drew.setCell ⟨gx, a, none⟩ (.int .i64 (x + y))) g gx gy (opG 34 (fun t => gI X t + gI Y t) X (a + 1)) Y z32) := Lib.hid (by
        have h := HI.out.drew.cell a (x + y)
        rw [← hx, ← hy, opG_set (fun t => gI X t + gI Y t) _ hlt] at h
        rwa [hx, hy] at h)
      have b6 : 0 ≤ (a : Int) := by omega
      have b7 : (a : Int) < 34 := by omega
      have e7 : decide ((a : Int) < 34) = true := decide_eq_true (by omega)
      have e8 : IntKind.i64.wrap (x + y) = x + y := by rw [IntKind.wrap_i64]; omega
      clear HI hx hy ha
      go_wp2_with fail
      refine wp_region_still_tail 11 (by kernel_rfl) (by kernel_rfl) ?_
      simp only [List.take_succ_cons, List.take_zero, List.drop_succ_cons, List.drop_zero]
      iterate 11 still_step
      refine wpStill_nil ?_
      go_wp2_with fail
      go_roundw
      case rel => exact ⟨a + 1, by omega, by go_num, HI2⟩
      case measure => simp [intOf]; omega
    · have e7 : decide ((a : Int) < 34) = false := decide_eq_false (by omega)
      have ha34 : a = 34 := by omega
      rw [ha34, opG_end (b := ZZ) _ _ HZL.out HZG.out] at HI
      clear ha34 hlt ha
      have hzrow := HI.out.xx
      go_wp2_with fail
      with_reducible refine (HCA.out _ _ hzrow).mono ?_
      rintro e v3 ⟨rfl, hc3⟩
      have HRW := Lib.hid hc3.row
      have HI3 := Lib.hid (HI.out.turned hc3.only)
      clear hc3 hzrow HI
      go_wp2_with fail
      with_reducible refine (HMO.out _ _ HRW.out).mono ?_
      rintro e v4 ⟨rfl, hb4⟩
      have hr4 : v4.heap[g]? = some (.cells z32 22 (0, 0)) := by rw [hb4.block _ (Array.getElem?_eq_some_iff.1 HI3.out.1).1]; exact HI3.out.1
      have HE : Hid (Below W.heap.size W (v4.setRow g OUT)) := Lib.hid (below_row (below_nx HI3.out.2 hb4) HGG.out)
      clear hb4
      go_wp2_with (refine wpList_store_row rfl 22 (.tmp 4) (.tmp 32) rfl g OUT rfl rfl 22 z32 hr4 iO sO oO ?_)
      (try simp only [Exit.inBlock, Exit.then])
      refine bodyPost_ret (results_cell_row rfl _ _ g _ OUT _ _ rfl (setRow_heap _ _ _ _ _ _ hr4) Try.underlying22 rfl iO) rfl ?_
      exact ⟨rfl, HE.out⟩

set_option maxHeartbeats 6400000 in
theorem rminus11_any (l : List UInt8) (hl : l.length = 32) (W : World) : Calls Try.prog 19 #[.agg (arrB l)] W fun e w' => e = .returned (.agg (arrB (leB 32 ((LL - leN l % LL) % LL)))) ∧ Below W.heap.size W w' := by
  have hz := fun u => zer32_zero u
  have HDL := dig32 l hl
  have h1 := n34_lt hl
  obtain ⟨R, hR⟩ : ∃ R, leN l % LL = R := ⟨_, rfl⟩
  have hRl : R < LL := by rw [← hR]; exact Nat.mod_lt _ (by decide)
  have hRn : leN (leB 32 R) = R := leN_leB 32 R (Nat.lt_trans hRl (by decide))
  have HDM := dig32 (leB 32 R) (leB_len _ _)
  have HDO := dig32 (leB 32 LL) (leB_len _ _)
  have hLn : leN (leB 32 LL) = LL := leN_leB 32 LL (by decide)
  have HM1 : Hid (∀ (gd : Nat) (W : World), W.heap[gd]? = some (.cells (tabI (dgN 34 (leN l : Int))) 2 (0, 0)) → Calls Try.prog 28 #[.slice (some ⟨gd, 0, none⟩) 34 34] W fun e w' => e = .returned (.agg (arrB (leB 32 R))) ∧ Below W.heap.size W w') := Lib.hid fun gd W h => by
    have := rmodulo_any gd _ h1 W h
    rwa [hR] at this
  have HOR : Hid (∀ W : World, Calls Try.prog 10 #[] W fun e w' => e = .returned (.agg (arrB (leB 32 LL))) ∧ Below W.heap.size W w') := Lib.hid rorder_any
  have h2 : R < 65536 ^ 34 := Nat.lt_trans hRl (by decide)
  have h3 : LL < 65536 ^ 34 := by decide
  have HMO : Hid (∀ (gd : Nat) (W : World), W.heap[gd]? = some (.cells (tabI (carryTo (difG (dgN 34 (LL : Int)) (dgN 34 (R : Int))) 33)) 2 (0, 0)) → Calls Try.prog 28 #[.slice (some ⟨gd, 0, none⟩) 34 34] W fun e w' => e = .returned (.agg (arrB (leB 32 ((LL - R) % LL)))) ∧ Below W.heap.size W w') := Lib.hid fun gd W h =>
    modC (difG_len _ _) (by decide) (difG_bd (Bd_dg _ _) (Bd_dg _ _)) (by rw [difG_val (dgN_len _ _) (dgN_len _ _), vL_dg34 h2, vL_dg34 h3]; omega) (Nat.lt_of_le_of_lt (Nat.sub_le _ _) h3) gd W h
  have HCA : Hid (∀ (gd : Nat) (W : World), W.heap[gd]? = some (.cells (tabI (difG (dgN 34 (LL : Int)) (dgN 34 (R : Int)))) 2 (0, 0)) → Calls Try.prog 31 #[.slice (some ⟨gd, 0, none⟩) 34 34] W fun e w' => e = .returned (.slice (some ⟨gd, 0, none⟩) 34 34) ∧ CaI W w' gd (carryTo (difG (dgN 34 (LL : Int)) (dgN 34 (R : Int))) 33)) := Lib.hid fun gd W h =>
    rcarried_any gd 131072 _ (difG_len _ _) (by decide) (by decide) (difG_bd (Bd_dg _ _) (Bd_dg _ _)) W h
  have HXB := Lib.hid (Bd_dg 34 (LL : Int))
  have HYB := Lib.hid (Bd_dg 34 (R : Int))
  have HXL := Lib.hid (dgN_len 34 (LL : Int))
  have HYL := Lib.hid (dgN_len 34 (R : Int))
  have HZL := Lib.hid (difG_len (dgN 34 (LL : Int)) (dgN 34 (R : Int)))
  have HZG := Lib.hid (difG_get (dgN 34 (LL : Int)) (dgN 34 (R : Int)))
  have iO : (Try.prog.info? 22).map (·.size) = some (arrB (leB 32 ((LL - R) % LL))).size := info32 (leB_len _ _)
  have oO := arrB_one (leB 32 ((LL - R) % LL))
  have sO : zer32.size = (arrB (leB 32 ((LL - R) % LL))).size := by rw [zer32_size, arrB_size, leB_len]
  have iM : (Try.prog.info? 22).map (·.size) = some (arrB (leB 32 R)).size := info32 (leB_len _ _)
  have oM := arrB_one (leB 32 R)
  have sM : zer32.size = (arrB (leB 32 R)).size := by rw [zer32_size, arrB_size, leB_len]
  have iN : (Try.prog.info? 22).map (·.size) = some (arrB (leB 32 LL)).size := info32 (leB_len _ _)
  have oN := arrB_one (leB 32 LL)
  have sN : zer32.size = (arrB (leB 32 LL)).size := by rw [zer32_size, arrB_size, leB_len]
  rw [hR]
  obtain ⟨OUT, hOUT⟩ : ∃ x, arrB (leB 32 ((LL - R) % LL)) = x := ⟨_, rfl⟩
  rw [hOUT] at HMO iO oO sO ⊢
  have HDL2 : Hid (∀ (A : Option Addr) (W : World), Bs W A l → Calls Try.prog 29 #[.slice A 32 32] W fun e w' => ∃ g, e = .returned (.slice (some ⟨g, 0, none⟩) 34 34) ∧ w'.heap[g]? = some (.cells (tabI (dgN 34 (leN l : Int))) 2 (0, 0)) ∧ W.heap.size ≤ g ∧ Below W.heap.size W w') := HDL
  have HDM2 : Hid (∀ (A : Option Addr) (W : World), Bs W A (leB 32 R) → Calls Try.prog 29 #[.slice A 32 32] W fun e w' => ∃ g, e = .returned (.slice (some ⟨g, 0, none⟩) 34 34) ∧ w'.heap[g]? = some (.cells (tabI (dgN 34 (R : Int))) 2 (0, 0)) ∧ W.heap.size ≤ g ∧ Below W.heap.size W w') := Lib.hid (by have h := HDM.out; unfold RetD at h; rw [hRn] at h; exact h)
  have HDO2 : Hid (∀ (A : Option Addr) (W : World), Bs W A (leB 32 LL) → Calls Try.prog 29 #[.slice A 32 32] W fun e w' => ∃ g, e = .returned (.slice (some ⟨g, 0, none⟩) 34 34) ∧ w'.heap[g]? = some (.cells (tabI (dgN 34 (LL : Int))) 2 (0, 0)) ∧ W.heap.size ≤ g ∧ Below W.heap.size W w') := Lib.hid (by have h := HDO.out; unfold RetD at h; rw [hLn] at h; exact h)
  clear HDL HDM HDO hOUT h1 h2 h3 hR hRl hRn hLn hl
  generalize dgN 34 (leN l : Int) = X0 at *
  generalize dgN 34 (LL : Int) = X at *
  generalize dgN 34 (R : Int) = Y at *
  generalize difG X Y = ZZ at *
  generalize zer32 = z32 at *
  obtain ⟨LM, hLM⟩ : ∃ q, leB 32 R = q := ⟨_, rfl⟩
  obtain ⟨LO, hLO⟩ : ∃ q, leB 32 LL = q := ⟨_, rfl⟩
  rw [hLM] at HM1 HDM2 iM oM sM
  rw [hLO] at HOR HDO2 iN oN sN
  clear hLM hLO
  obtain ⟨AM, hAM⟩ : ∃ q, arrB LM = q := ⟨_, rfl⟩
  obtain ⟨AO, hAO⟩ : ∃ q, arrB LO = q := ⟨_, rfl⟩
  have HAM := Lib.hid hAM
  have HAO := Lib.hid hAO
  rw [hAM] at HM1 iM oM sM
  rw [hAO] at HOR iN oN sN
  clear hAM hAO
  have hr0 : RowsW ((W.alloc (.cells (arrB l) 22)).alloc (.cells z32 22)) [(W.heap.size + 1, z32, 22), (W.heap.size, arrB l, 22)] := by
    have h := ((RowsW.nil W).box (arrB l) 22).box z32 22
    simp only [World.size_alloc] at h
    exact h
  obtain ⟨LA, hLA⟩ : ∃ a, arrB l = a := ⟨_, rfl⟩
  have HLA := Lib.hid hLA
  rw [hLA] at hr0 ⊢
  obtain ⟨W1, hW1⟩ : ∃ Q, (W.alloc (.cells LA 22)).alloc (.cells z32 22) = Q := ⟨_, rfl⟩
  rw [hW1] at hr0
  have HB1 : Hid (Below W.heap.size W W1) := Lib.hid (by rw [← hW1]; exact below_al (below_al (Below.refl _ _) _) _)
  have HR1 := Lib.hid hr0
  have HW1 := Lib.hid hW1
  clear hr0 hLA hW1
  go_enter Try.func19, Try.ntmps19
  go_wp2_with fail
  rw [HW1.out]
  with_reducible refine (HDL2.out _ _ (bs_arr (by have h := HR1.out.tail.head; rw [← HLA.out] at h; exact h))).mono ?_
  rintro e v1 ⟨g0, rfl, hx1, hgx, hb1⟩
  have HX1 := Lib.hid hx1
  have HR2 := Lib.hid (HR1.out.below hb1)
  have HB2 := Lib.hid (below_nx HB1.out hb1)
  clear hx1 hgx hb1
  go_wp2_with fail
  with_reducible refine (HM1.out _ _ HX1.out).mono ?_
  rintro e v2 ⟨rfl, hb2⟩
  have HR3 := Lib.hid ((HR2.out.below hb2).new z32 AM 22)
  have HB3 := Lib.hid (below_new (below_nx HB2.out hb2) z32 AM 22)
  have h5 : (v2.alloc (.cells z32 22)).heap[v2.heap.size]? = some (.cells z32 22 (0, 0)) := heap_alloc_new _ _
  clear hb2 HX1 HR2 HB2
  go_wp2_with (refine wpList_store_row rfl 22 (.tmp 3) (.tmp 10) rfl v2.heap.size AM rfl rfl 22 z32 h5 iM sM oM ?_)
  obtain ⟨W3, hW3⟩ : ∃ Q, (v2.alloc (.cells z32 22)).setRow v2.heap.size AM = Q := ⟨_, rfl⟩
  obtain ⟨gm, hgm⟩ : ∃ Q, v2.heap.size = Q := ⟨_, rfl⟩
  rw [hgm] at hW3
  rw [hgm, hW3] at HR3 HB3
  rw [hgm, hW3]
  clear hW3 hgm h5
  with_reducible refine (HOR.out _).mono ?_
  rintro e v4 ⟨rfl, hb4⟩
  have HR5 := Lib.hid ((HR3.out.below hb4).new z32 AO 22)
  have HB5 := Lib.hid (below_new (below_nx HB3.out hb4) z32 AO 22)
  have h6 : (v4.alloc (.cells z32 22)).heap[v4.heap.size]? = some (.cells z32 22 (0, 0)) := heap_alloc_new _ _
  clear hb4 HR3 HB3
  go_upto_region 3 with (refine wpList_store_row rfl 22 (.tmp 4) (.tmp 11) rfl v4.heap.size AO rfl rfl 22 z32 h6 iN sN oN ?_)
  obtain ⟨W5, hW5⟩ : ∃ Q, (v4.alloc (.cells z32 22)).setRow v4.heap.size AO = Q := ⟨_, rfl⟩
  obtain ⟨go, hgo⟩ : ∃ Q, v4.heap.size = Q := ⟨_, rfl⟩
  rw [hgo] at hW5
  rw [hgo, hW5] at HR5 HB5
  rw [hgo, hW5]
  clear hW5 hgo h6
  go_wp2_with fail
  with_reducible refine (HDO2.out _ _ (bs_arr (by have h := HR5.out.head; rw [← HAO.out] at h; exact h))).mono ?_
  rintro e v6 ⟨gx, rfl, hx6, hgx, hb6⟩
  have HX6 := Lib.hid hx6
  have HR6 := Lib.hid (HR5.out.below hb6)
  have HB6 := Lib.hid (below_nx HB5.out hb6)
  have HGX : Hid (W.heap.size + 1 < gx ∧ W.heap.size ≤ gx) := Lib.hid ⟨by have := (Array.getElem?_eq_some_iff.1 HR5.out.tail.tail.head).1; omega, by have := HB5.out.size; omega⟩
  clear hx6 hgx hb6
  go_wp2_with fail
  with_reducible refine (HDM2.out _ _ (bs_arr (by have h := HR6.out.tail.head; rw [← HAM.out] at h; exact h))).mono ?_
  rintro e v7 ⟨gy, rfl, hy7, hgy, hb7⟩
  have HI : Hid (SuI W v7 (W.heap.size + 1) gx gy (opG 34 (fun t => gI X t - gI Y t) X 0) Y z32) := Lib.hid (by
    have a := HGX.out
    have b := (Array.getElem?_eq_some_iff.1 HX6.out).1
    refine ⟨(HR6.out.below hb7).tail.tail.head, ?_, hy7, by omega, by omega, a.2, below_nx HB6.out hb7⟩
    rw [opG_zero _ HXL.out, hb7.block _ b]; exact HX6.out)
  have HGG : Hid (W.heap.size ≤ W.heap.size + 1) := Lib.hid (by omega)
  clear hy7 hgy hb7 HX6 HR6 HB6 HGX HR5 HB5
  go_wp2_with fail
  obtain ⟨g, hg⟩ : ∃ g, W.heap.size + 1 = g := ⟨_, rfl⟩
  rw [hg] at HI HGG
  rw [hg]
  clear hg
  go_loopw [7] (fun i wr => ∃ a : Nat, a ≤ 34 ∧ i = .int .i64 (a : Int) ∧ Hid (SuI W wr g gx gy (opG 34 (fun t => gI X t - gI Y t) X a) Y z32)) (fun i _ => 34 - (intOf i).toNat)
  case atStart => exact ⟨0, by omega, rfl, HI⟩
  case round =>
    clear HI
    obtain ⟨a, ha, rfl, HI⟩ := hrel
    by_cases hlt : a < 34
    · obtain ⟨x, hx⟩ : ∃ x, gI X a = x := ⟨_, rfl⟩
      obtain ⟨y, hy⟩ : ∃ y, gI Y a = y := ⟨_, rfl⟩
      have hxb := HXB.out a
      have hyb := HYB.out a
      rw [hx] at hxb
      rw [hy] at hyb
      have cs : wr.cell? ⟨gx, a, none⟩ = some (.int .i64 x) := by rw [cell_of_row _ _ _ _ _ _ HI.out.xx, tabI_get _ _ (by rw [opG_len]; exact hlt), opG_get _ _ _ _ hlt, if_neg (by omega), hx]
      have cl : wr.cell? ⟨gy, a, none⟩ = some (.int .i64 y) := by rw [cell_of_row _ _ _ _ _ _ HI.out.yy, tabI_get _ _ (by rw [HYL.out]; omega), hy]
      have fx : wr.frozen? ⟨gx, a, none⟩ = false := by have := HI.out.xx; simp [World.frozen?, this]
      have HI2 : Hid (SuI W (wr.drew.setCell ⟨gx, a, none⟩ (.int .i64 (x - y))) g gx gy (opG 34 (fun t => gI X t - gI Y t) X (a + 1)) Y z32) := Lib.hid (by
        have h := HI.out.drew.cell a (x - y)
        rw [← hx, ← hy, opG_set (fun t => gI X t - gI Y t) _ hlt] at h
        rwa [hx, hy] at h)
      have b6 : 0 ≤ (a : Int) := by omega
      have b7 : (a : Int) < 34 := by omega
      have e7 : decide ((a : Int) < 34) = true := decide_eq_true (by omega)
      have e8 : IntKind.i64.wrap (x - y) = x - y := by rw [IntKind.wrap_i64]; omega
      clear HI hx hy ha
      go_wp2_with fail
      refine wp_region_still_tail 11 (by kernel_rfl) (by kernel_rfl) ?_
      simp only [List.take_succ_cons, List.take_zero, List.drop_succ_cons, List.drop_zero]
      iterate 11 still_step
      refine wpStill_nil ?_
      go_wp2_with fail
      go_roundw
      case rel => exact ⟨a + 1, by omega, by go_num, HI2⟩
      case measure => simp [intOf]; omega
    · have e7 : decide ((a : Int) < 34) = false := decide_eq_false (by omega)
      have ha34 : a = 34 := by omega
      rw [ha34, opG_end (b := ZZ) _ _ HZL.out HZG.out] at HI
      clear ha34 hlt ha
      have hzrow := HI.out.xx
      go_wp2_with fail
      with_reducible refine (HCA.out _ _ hzrow).mono ?_
      rintro e v3 ⟨rfl, hc3⟩
      have HRW := Lib.hid hc3.row
      have HI3 := Lib.hid (HI.out.turned hc3.only)
      clear hc3 hzrow HI
      go_wp2_with fail
      with_reducible refine (HMO.out _ _ HRW.out).mono ?_
      rintro e v4 ⟨rfl, hb4⟩
      have hr4 : v4.heap[g]? = some (.cells z32 22 (0, 0)) := by rw [hb4.block _ (Array.getElem?_eq_some_iff.1 HI3.out.1).1]; exact HI3.out.1
      have HE : Hid (Below W.heap.size W (v4.setRow g OUT)) := Lib.hid (below_row (below_nx HI3.out.2 hb4) HGG.out)
      clear hb4
      go_wp2_with (refine wpList_store_row rfl 22 (.tmp 2) (.tmp 36) rfl g OUT rfl rfl 22 z32 hr4 iO sO oO ?_)
      (try simp only [Exit.inBlock, Exit.then])
      refine bodyPost_ret (results_cell_row rfl _ _ g _ OUT _ _ rfl (setRow_heap _ _ _ _ _ _ hr4) Try.underlying22 rfl iO) rfl ?_
      exact ⟨rfl, HE.out⟩
end Go.Proofs.Ytmmfbbbljhifjaa

