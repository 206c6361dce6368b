/- The contract of the reference's modulo. -/
import Derived.Test.YtmmfbbbljhifjaaRefSc11A
namespace Go.Proofs.Ytmmfbbbljhifjaa
open Go.RowKit
set_option linter.unusedVariables false
set_option maxRecDepth 100000

theorem below_nx {w w1 w2 : World} (h : Below w.heap.size w w1) (h2 : Below w1.heap.size w1 w2) : Below w.heap.size w w2 := h.trans (h2.mono h.size)
theorem below_al {w w1 : World} (h : Below w.heap.size w w1) (o : Obj) : Below w.heap.size w (w1.alloc o) := h.alloc h.size o
theorem bs_arr {W : World} {g : Nat} {t : TypeId} {l : List UInt8} (h : W.heap[g]? = some (.cells (arrB l) t (0, 0))) : Bs W (some ⟨g, 0, none⟩) l := fun _ => ⟨g, 0, rfl, fun j hj => by rw [Nat.zero_add, cell_of_row _ _ _ _ _ _ h, arrB_get _ _ hj]⟩
theorem i64_lo16 (n : Int) : bits .and .i64 n 65535 = n % 65536 := by
  have h : (BitVec.ofInt 64 65535).toNat = 2 ^ 16 - 1 := by decide
  have key : (BitVec.ofInt 64 n &&& BitVec.ofInt 64 65535).toNat = (n % ((2 ^ 64 : Nat) : Int)).toNat % 2 ^ 16 := by
    rw [BitVec.toNat_and, h, Nat.and_two_pow_sub_one_eq_mod, BitVec.toNat_ofInt]
  show IntKind.i64.wrap ((BitVec.ofInt 64 n &&& BitVec.ofInt 64 65535).toNat : Nat) = n % 65536
  rw [key, IntKind.wrap_i64]
  omega
theorem i64_lo8 (n : Int) : bits .and .i64 n 255 = n % 256 := by
  have h : (BitVec.ofInt 64 255).toNat = 2 ^ 8 - 1 := by decide
  have key : (BitVec.ofInt 64 n &&& BitVec.ofInt 64 255).toNat = (n % ((2 ^ 64 : Nat) : Int)).toNat % 2 ^ 8 := by
    rw [BitVec.toNat_and, h, Nat.and_two_pow_sub_one_eq_mod, BitVec.toNat_ofInt]
  show IntKind.i64.wrap ((BitVec.ofInt 64 n &&& BitVec.ofInt 64 255).toNat : Nat) = n % 256
  rw [key, IntKind.wrap_i64]
  omega
theorem i64_lo1 (n : Int) : bits .and .i64 n 1 = n % 2 := by
  have h : (BitVec.ofInt 64 1).toNat = 2 ^ 1 - 1 := by decide
  have key : (BitVec.ofInt 64 n &&& BitVec.ofInt 64 1).toNat = (n % ((2 ^ 64 : Nat) : Int)).toNat % 2 ^ 1 := by
    rw [BitVec.toNat_and, h, Nat.and_two_pow_sub_one_eq_mod, BitVec.toNat_ofInt]
  show IntKind.i64.wrap ((BitVec.ofInt 64 n &&& BitVec.ofInt 64 1).toNat : Nat) = n % 2
  rw [key, IntKind.wrap_i64]
  omega
theorem info17 {l : List Int} (h : l.length = 17) : (Try.prog.info? 54).map (·.size) = some (tabI l).size := by rw [tabI_size, h]; kernel_rfl
def zer17 : Array Value := tabI (List.replicate 17 0)
theorem zer17_zero (u : World) : (zeroValue 54).run Try.prog u = .ok (.agg zer17) u := zero_row 54 zer17 17 (by kernel_rfl) u
theorem zer17_dg : zer17 = tabI (dgN 17 ((0 : Nat) : Int)) := rfl

/-- the rows: the result's, the digits that came in, the order's, what is left -/
structure MoI (w wr : World) (g gd gl gr : Nat) (D X : List Int) (z : Array Value) : Prop where
  res : wr.heap[g]? = some (.cells z 22 (0, 0))
  dd : wr.heap[gd]? = some (.cells (tabI D) 2 (0, 0))
  ll : wr.heap[gl]? = some (.cells (tabI (dgN 34 (LL : Int))) 2 (0, 0))
  rr : wr.heap[gr]? = some (.cells (tabI X) 54 (0, 0))
  o1 : gd < g
  o2 : g < gl
  o3 : gl < gr
  below : Below g w wr
section
variable {w wr : World} {g gd gl gr : Nat} {D X Y : List Int} {z : Array Value}
theorem MoI.drew (h : MoI w wr g gd gl gr D X z) : MoI w wr.drew g gd gl gr D X z := ⟨h.res, h.dd, h.ll, h.rr, h.o1, h.o2, h.o3, h.below.drew⟩
theorem MoI.row (h : MoI w wr g gd gl gr D X z) (Y : List Int) : MoI w (wr.setRow gr (tabI Y)) g gd gl gr D Y z := by
  have h1 := h.o1; have h2 := h.o2; have h3 := h.o3
  exact ⟨by rw [setRow_other _ _ _ _ (by omega)]; exact h.res, by rw [setRow_other _ _ _ _ (by omega)]; exact h.dd, by rw [setRow_other _ _ _ _ (by omega)]; exact h.ll, setRow_heap _ _ _ _ _ _ h.rr, h1, h2, h3, below_row h.below (by omega)⟩
theorem MoI.cell (h : MoI w wr g gd gl gr D X z) (k : Nat) (v : Int) : MoI w (wr.setCell ⟨gr, k, none⟩ (.int .i64 v)) g gd gl gr D (X.set k v) z := by
  rw [setCell_eq_setRow wr gr k _ _ _ (.int .i64 v) h.rr, tabI_set]
  exact h.row _
theorem MoI.off (h : MoI w wr g gd gl gr D X z) (gs : Nat) (hg : gr < gs) (cs : Array Value) : MoI w (wr.setRow gs cs) g gd gl gr D X z := by
  have h1 := h.o1; have h2 := h.o2; have h3 := h.o3
  exact ⟨by rw [setRow_other _ _ _ _ (by omega)]; exact h.res, by rw [setRow_other _ _ _ _ (by omega)]; exact h.dd, by rw [setRow_other _ _ _ _ (by omega)]; exact h.ll, by rw [setRow_other _ _ _ _ (by omega)]; exact h.rr, h1, h2, h3, below_row h.below (by omega)⟩
theorem MoI.lt (h : MoI w wr g gd gl gr D X z) : gr < wr.heap.size := (Array.getElem?_eq_some_iff.1 h.rr).1
theorem MoI.alloc (h : MoI w wr g gd gl gr D X z) (o : Obj) : MoI w (wr.alloc o) g gd gl gr D X z := by
  have h1 := h.o1; have h2 := h.o2; have h3 := h.o3; have h4 := h.lt
  exact ⟨by rw [heap_alloc_old _ _ (by omega)]; exact h.res, by rw [heap_alloc_old _ _ (by omega)]; exact h.dd, by rw [heap_alloc_old _ _ (by omega)]; exact h.ll, by rw [heap_alloc_old _ _ h4]; exact h.rr, h1, h2, h3, h.below.alloc (by omega) _⟩
end
/-- and the row that is tried -/
structure MoS (w wr : World) (g gd gl gr gs : Nat) (D X Y : List Int) (z : Array Value) : Prop where
  base : MoI w wr g gd gl gr D X z
  ss : wr.heap[gs]? = some (.cells (tabI Y) 54 (0, 0))
  o4 : gr < gs
section
variable {w wr : World} {g gd gl gr gs : Nat} {D X Y : List Int} {z : Array Value}
theorem MoS.drew (h : MoS w wr g gd gl gr gs D X Y z) : MoS w wr.drew g gd gl gr gs D X Y z := ⟨h.base.drew, h.ss, h.o4⟩
theorem MoS.cell (h : MoS w wr g gd gl gr gs D X Y z) (k : Nat) (v : Int) : MoS w (wr.setCell ⟨gs, k, none⟩ (.int .i64 v)) g gd gl gr gs D X (Y.set k v) z := by
  rw [setCell_eq_setRow wr gs k _ _ _ (.int .i64 v) h.ss, tabI_set]
  exact ⟨h.base.off gs h.o4 _, setRow_heap _ _ _ _ _ _ h.ss, h.o4⟩
end

/-- while the bytes are written -/
structure MoO (w wr : World) (g gr go : Nat) (X : List Int) (z : Array Value) (B : List UInt8) : Prop where
  res : wr.heap[g]? = some (.cells z 22 (0, 0))
  rr : wr.heap[gr]? = some (.cells (tabI X) 54 (0, 0))
  out : wr.heap[go]? = some (.cells (arrB B) 22 (0, 0))
  o1 : g < gr
  o2 : gr < go
  below : Below g w wr
theorem MoO.set {w wr : World} {g gr go : Nat} {X : List Int} {z : Array Value} {B : List UInt8} (h : MoO w wr g gr go X z B) (k : Nat) (x : UInt8) : MoO w (wr.setCell ⟨go, k, none⟩ (.int .u8 (x.toNat : Int))) g gr go X z (B.set k x) := by
  have h1 := h.o1; have h2 := h.o2
  rw [setCell_eq_setRow wr go k _ _ _ (.int .u8 (x.toNat : Int)) h.out, arrB_set]
  exact ⟨by rw [setRow_other _ _ _ _ (by omega)]; exact h.res, by rw [setRow_other _ _ _ _ (by omega)]; exact h.rr, setRow_heap _ _ _ _ _ _ h.out, h1, h2, below_row h.below (by omega)⟩

set_option maxHeartbeats 12800000 in
theorem rmodulo_any (gd V : Nat) (hV : V < 65536 ^ 34) (w : World) (hd : w.heap[gd]? = some (.cells (tabI (dgN 34 (V : Int))) 2 (0, 0))) :
    Calls Try.prog 28 #[.slice (some ⟨gd, 0, none⟩) 34 34] w fun e w' => e = .returned (.agg (arrB (leB 32 (V % LL)))) ∧ Below w.heap.size w w' := by
  have hz := fun u => zer32_zero u
  have hz17 := fun u => zer17_zero u
  have HOR : Hid (∀ W : World, Calls Try.prog 10 #[] W fun e w' => e = .returned (.agg ordA) ∧ Below W.heap.size W w') := Lib.hid rorder_any
  have HDI : Hid (∀ (A : Option Addr) (W : World), Bs W A (leB 32 LL) → Calls Try.prog 29 #[.slice A 32 32] W (RetD W (leB 32 LL))) := Lib.hid fun A W hb => by
    have h := rdigits_any A (leB 32 LL) 32 W hb (by rw [leB_len]; omega)
    rwa [leB_len] at h
  have io := ordA_info
  have oo := ordA_one
  have so : zer32.size = ordA.size := by rw [zer32_size, ordA_size]
  have HO : Hid (ordA = arrB (leB 32 LL)) := Lib.hid rfl
  have hgd : gd < w.heap.size := (Array.getElem?_eq_some_iff.1 hd).1
  have HZ32 : Hid (zer32 = arrB (List.replicate 32 0)) := Lib.hid rfl
  have HZS := Lib.hid zer32_size
  obtain ⟨z32, hz32⟩ : ∃ z, zer32 = z := ⟨_, rfl⟩
  rw [hz32] at so HZ32 HZS
  simp only [hz32] at hz
  have HZE := Lib.hid hz32
  have HD0 := Lib.hid hd
  have HGD := Lib.hid hgd
  have HV := Lib.hid hV
  clear hz32 hd hgd hV
  go_enter Try.func28, Try.ntmps28
  go_wp2_with fail
  obtain ⟨W1, hW1⟩ : ∃ X, w.alloc (.cells z32 22) = X := ⟨_, rfl⟩
  have hr1 : W1.heap[w.heap.size]? = some (.cells z32 22 (0, 0)) := by rw [← hW1]; exact heap_alloc_new _ _
  have hb1 : Below w.heap.size w W1 := by rw [← hW1]; exact below_al (Below.refl _ _) _
  rw [hW1]
  clear hW1
  with_reducible refine (HOR.out _).mono ?_
  rintro e v1 ⟨rfl, hbv1⟩
  have hr2 : v1.heap[w.heap.size]? = some (.cells z32 22 (0, 0)) := by rw [hbv1.block _ (Array.getElem?_eq_some_iff.1 hr1).1]; exact hr1
  have HR2 := Lib.hid hr2
  have HB2 := Lib.hid (below_nx hb1 hbv1)
  have h3 : (v1.alloc (.cells z32 22)).heap[v1.heap.size]? = some (.cells z32 22 (0, 0)) := heap_alloc_new _ _
  clear hr1 hb1 hbv1 hr2
  go_upto_region 2 with (refine wpList_store_row rfl 22 (.tmp 3) (.tmp 14) rfl v1.heap.size ordA rfl rfl 22 z32 h3 io so oo ?_)
  obtain ⟨W3, hW3⟩ : ∃ X, (v1.alloc (.cells z32 22)).setRow v1.heap.size ordA = X := ⟨_, rfl⟩
  have hr3 : W3.heap[v1.heap.size]? = some (.cells ordA 22 (0, 0)) := by rw [← hW3]; exact setRow_heap _ _ _ _ _ _ h3
  have hbv3 : Below v1.heap.size v1 W3 := by rw [← hW3]; exact below_row ((Below.refl _ _).alloc (Nat.le_refl _) _) (Nat.le_refl _)
  obtain ⟨go, hgo⟩ : ∃ X, v1.heap.size = X := ⟨_, rfl⟩
  have HR3 : Hid (W3.heap[w.heap.size]? = some (.cells z32 22 (0, 0))) := Lib.hid (by rw [hbv3.block _ (Array.getElem?_eq_some_iff.1 HR2.out).1]; exact HR2.out)
  have HB3 := Lib.hid (below_nx HB2.out hbv3)
  rw [hgo] at hr3
  rw [HO.out] at hr3
  have HBS : Hid (Bs W3 (some ⟨go, 0, none⟩) (leB 32 LL)) := Lib.hid (bs_arr hr3)
  rw [hW3, hgo]
  clear hr3 hbv3 h3 hW3 hgo HR2 HB2 HOR
  go_wp2_with fail
  with_reducible refine (HDI.out _ _ HBS.out).mono ?_
  rintro e v4 ⟨gl, rfl, hl4, hgl, hb4⟩
  have HL4 : Hid (v4.heap[gl]? = some (.cells (tabI (dgN 34 (LL : Int))) 2 (0, 0))) := Lib.hid (by rw [leN_leB 32 LL (by decide)] at hl4; exact hl4)
  have HR4 : Hid (v4.heap[w.heap.size]? = some (.cells z32 22 (0, 0))) := Lib.hid (by rw [hb4.block _ (Array.getElem?_eq_some_iff.1 HR3.out).1]; exact HR3.out)
  have HB4 := Lib.hid (below_nx HB3.out hb4)
  have HGL : Hid (w.heap.size < gl ∧ gl < v4.heap.size) := Lib.hid ⟨by have := (Array.getElem?_eq_some_iff.1 HR3.out).1; omega, (Array.getElem?_eq_some_iff.1 HL4.out).1⟩
  clear hl4 hgl hb4 HR3 HB3 HBS HDI
  have h5 : (v4.alloc (.cells zer17 54)).heap[v4.heap.size]? = some (.cells zer17 54 (0, 0)) := heap_alloc_new _ _
  have i17 : (Try.prog.info? 54).map (·.size) = some zer17.size := info17 rfl
  have o17 : zer17.all (·.oneCell') = true := tabI_one _
  have HI : Hid (MoI w ((v4.alloc (.cells zer17 54)).setRow v4.heap.size zer17) w.heap.size gd gl v4.heap.size (dgN 34 (V : Int)) (dgN 17 (modR V 544 : Int)) z32) := Lib.hid (by
    rw [modR_top V HV.out]
    have hd4 : v4.heap[gd]? = some (.cells (tabI (dgN 34 (V : Int))) 2 (0, 0)) := by rw [HB4.out.block _ HGD.out]; exact HD0.out
    have a := HGL.out
    have b := HGD.out
    have c := HB4.out.size
    refine ⟨?_, ?_, ?_, by rw [← zer17_dg]; exact setRow_heap _ _ _ _ _ _ h5, b, a.1, a.2, below_row (below_al HB4.out _) c⟩
    · rw [setRow_other _ _ _ _ (by omega), heap_alloc_old _ _ (by omega)]; exact HR4.out
    · rw [setRow_other _ _ _ _ (by omega), heap_alloc_old _ _ (by omega)]; exact hd4
    · rw [setRow_other _ _ _ _ (by omega), heap_alloc_old _ _ (by omega)]; exact HL4.out)
  go_wp2_with (first
    | (refine wpList_runsV (o := ⟨some 17, _, _, _, _, _⟩) rfl (.agg zer17) (by kernel_rfl) ?_)
    | (refine wpList_store_row rfl 54 (.tmp 5) (.tmp 17) rfl v4.heap.size zer17 rfl rfl 54 zer17 h5 i17 rfl o17 ?_))
  obtain ⟨W5, hW5⟩ : ∃ X, (v4.alloc (.cells zer17 54)).setRow v4.heap.size zer17 = X := ⟨_, rfl⟩
  obtain ⟨gr, hgr⟩ : ∃ X, v4.heap.size = X := ⟨_, rfl⟩
  obtain ⟨g, hg⟩ : ∃ X, w.heap.size = X := ⟨_, rfl⟩
  rw [hW5, hgr, hg] at HI
  rw [hW5, hgr, hg]
  have HG := Lib.hid hg
  clear hW5 hgr hg h5 HR4 HB4 HL4 HGL HD0 HGD HO io oo so
  obtain ⟨D, hD⟩ : ∃ D, dgN 34 (V : Int) = D := ⟨_, rfl⟩
  have HD := Lib.hid hD
  rw [hD] at HI
  clear hD
  go_loopw [6] (fun i wr => ∃ k : Nat, k ≤ 544 ∧ i = .int .i64 ((k : Int) - 1) ∧ Hid (MoI w wr g gd gl gr D (dgN 17 (modR V k : Int)) z32)) (fun i _ => (intOf i + 1).toNat)
  case atStart => exact ⟨544, by omega, rfl, HI⟩
  case round =>
    clear HI
    obtain ⟨k, hk, rfl, HI⟩ := hrel
    cases k with
    | succ j =>
      obtain ⟨v, hv⟩ : ∃ v : Int, ((j + 1 : Nat) : Int) - 1 = v := ⟨_, rfl⟩
      rw [hv]
      obtain rfl : v = (j : Int) := by omega
      clear hv
      obtain ⟨R, hR⟩ : ∃ R, modR V (j + 1) = R := ⟨_, rfl⟩
      obtain ⟨c0, hc0⟩ : ∃ c, V / 2 ^ j % 2 = c := ⟨_, rfl⟩
      have hnext := modR_next hR.symm hc0.symm
      have hRl : R < LL := by rw [← hR]; exact modR_lt _ _
      have hcl : c0 < 2 := by rw [← hc0]; exact Nat.mod_lt _ (by decide)
      rw [hR] at HI
      obtain ⟨q, hq⟩ : ∃ q, j / 16 = q := ⟨_, rfl⟩
      obtain ⟨r, hr⟩ : ∃ r, j % 16 = r := ⟨_, rfl⟩
      have hq34 : q < 34 := by omega
      have hr16 : r < 16 := by omega
      obtain ⟨dv, hdv⟩ : ∃ d, V / 65536 ^ q % 65536 = d := ⟨_, rfl⟩
      have cd : wr.cell? ⟨gd, q, none⟩ = some (.int .i64 (dv : Int)) := by rw [cell_of_row _ _ _ _ _ _ HI.out.dd, tabI_get _ _ (by rw [← HD.out, dgN_len]; exact hq34), ← HD.out, gI_dgN 34 q V hq34, hdv]
      obtain ⟨y, hy⟩ : ∃ y, dv / 2 ^ r = y := ⟨_, rfl⟩
      have f1 : (dv : Int) / 2 ^ r = (y : Int) := by rw [← hy, Int.natCast_ediv]; simp
      have f2 : bits .and .i64 (y : Int) 1 = (c0 : Int) := by
        rw [i64_lo1]
        have h := bit_at V j
        rw [hq, hr, hdv, hy, hc0] at h
        omega
      have f3 : (j : Int).tdiv 16 = (q : Int) := by rw [Int.tdiv_eq_ediv_of_nonneg (by omega)]; omega
      have f3' : (j : Int) / 16 = (q : Int) := by omega
      have f4 : (j : Int).tmod 16 = (r : Int) := by rw [Int.tmod_eq_emod_of_nonneg (by omega)]; omega
      have f4' : (j : Int) % 16 = (r : Int) := by omega
      have f5 : IntKind.u64.wrap (r : Int) = (r : Int) := by rw [IntKind.wrap_u64]; omega
      have b1 : 0 ≤ (q : Int) := by omega
      have b2 : (q : Int) < 34 := by omega
      have b3 : 0 ≤ (r : Int) := by omega
      have b4 : decide (0 ≤ (j : Int)) = true := decide_eq_true (by omega)
      have b5 : 0 ≤ (j : Int) := by omega
      have HN := Lib.hid hnext
      have HRL := Lib.hid hRl
      have HCL := Lib.hid hcl
      have HQ : Hid (j < 544) := Lib.hid (by omega)
      clear hnext hRl hcl hR hc0 hq hr hdv hy hk
      go_wp2_with fail
      clear cd f1 f2 f3 f3' f4 f4' f5 b1 b2 b3
      have HI0 : Hid (MoI w wr g gd gl gr D (opG 17 (fun t => gI (dgN 17 ((2 * R + c0 : Nat) : Int)) t) (dgN 17 (R : Int)) 0) z32) := Lib.hid (by rw [opG_zero _ (dgN_len _ _)]; exact HI.out)
      clear HI
      go_loopw [7, 8] (fun c i wr => ∃ a : Nat, a ≤ 17 ∧ i = .int .i64 (a : Int) ∧ c = .int .i64 (dblC R c0 a : Int) ∧ Hid (MoI w wr g gd gl gr D (opG 17 (fun t => gI (dgN 17 ((2 * R + c0 : Nat) : Int)) t) (dgN 17 (R : Int)) a) z32)) (fun _ i _ => 17 - (intOf i).toNat)
      case atStart => exact ⟨0, by omega, rfl, by rw [dblC_zero], HI0⟩
      case round =>
        clear HI0
        obtain ⟨a, ha, rfl, rfl, HI0⟩ := hrel
        by_cases hlt : a < 17
        · obtain ⟨dg, hdg⟩ : ∃ d, R / 65536 ^ a % 65536 = d := ⟨_, rfl⟩
          obtain ⟨cc, hcc⟩ : ∃ c, dblC R c0 a = c := ⟨_, rfl⟩
          have hccl : cc < 2 := by rw [← hcc]; exact dblC_le R c0 a HCL.out
          have hdgl : dg < 65536 := by rw [← hdg]; exact Nat.mod_lt _ (by decide)
          have st := dbl_step R c0 a
          rw [hcc, hdg] at st
          rw [hcc]
          obtain ⟨lo, hlo⟩ : ∃ x, (2 * R + c0) / 65536 ^ a % 65536 = x := ⟨_, rfl⟩
          obtain ⟨hi, hhi⟩ : ∃ x, dblC R c0 (a + 1) = x := ⟨_, rfl⟩
          rw [hlo, hhi] at st
          have cr : wr.cell? ⟨gr, a, none⟩ = some (.int .i64 (dg : Int)) := by rw [cell_of_row _ _ _ _ _ _ HI0.out.rr, tabI_get _ _ (by rw [opG_len]; exact hlt), opG_get _ _ _ _ hlt, if_neg (by omega), gI_dgN 17 a R hlt, hdg]
          have fx : wr.frozen? ⟨gr, a, none⟩ = false := by have := HI0.out.rr; simp [World.frozen?, this]
          have HI2 : Hid (MoI w (wr.setCell ⟨gr, a, none⟩ (.int .i64 (lo : Int))) g gd gl gr D (opG 17 (fun t => gI (dgN 17 ((2 * R + c0 : Nat) : Int)) t) (dgN 17 (R : Int)) (a + 1)) z32) := Lib.hid (by
            have h := HI0.out.cell a (lo : Int)
            rw [show (lo : Int) = gI (dgN 17 ((2 * R + c0 : Nat) : Int)) a by rw [gI_dgN 17 a _ hlt, hlo], opG_set (fun t => gI (dgN 17 ((2 * R + c0 : Nat) : Int)) t) _ hlt] at h
            rwa [gI_dgN 17 a _ hlt, hlo] at h)
          have e1 : (2 : Int) * (dg : Int) = ((2 * dg : Nat) : Int) := by omega
          have e2 : (cc : Int) + ((2 * dg : Nat) : Int) = ((cc + 2 * dg : Nat) : Int) := by omega
          have e3 : bits .and .i64 ((cc + 2 * dg : Nat) : Int) 65535 = (lo : Int) := by rw [i64_lo16]; omega
          have e4 : ((cc + 2 * dg : Nat) : Int) / 65536 = (hi : Int) := by omega
          have e5 : cc + 2 * dg < 200000 := by omega
          have e6 : 2 * dg < 200000 := by omega
          have e7 : decide ((a : Int) < 17) = true := decide_eq_true (by omega)
          have b6 : 0 ≤ (a : Int) := by omega
          have b7 : (a : Int) < 17 := by omega
          generalize cc + 2 * dg = s at *
          generalize 2 * dg = d2 at *
          clear HI0 hdg hcc hccl hdgl st hlo ha
          have HHI := Lib.hid hhi
          clear hhi
          go_wp2_with fail
          go_roundw
          case rel => exact ⟨a + 1, by omega, by go_num, by rw [HHI.out], HI2⟩
          case measure => simp [intOf]; omega
        · have e7 : decide ((a : Int) < 17) = false := decide_eq_false (by omega)
          have ha17 : a = 17 := by omega
          rw [ha17, opG_end (b := dgN 17 ((2 * R + c0 : Nat) : Int)) _ _ (dgN_len _ _) (fun _ _ => rfl)] at HI0
          have hR2 : 2 * R + c0 < 2 * LL := by have := HRL.out; have := HCL.out; omega
          have HN2 := HN.out
          obtain ⟨R2, hR2e⟩ : ∃ x, 2 * R + c0 = x := ⟨_, rfl⟩
          rw [hR2e] at HI0 hR2 HN2
          have HN3 := Lib.hid HN2
          have HR2L := Lib.hid hR2
          have hrr := HI0.out.rr
          have iX : (Try.prog.info? 54).map (·.size) = some (tabI (dgN 17 (R2 : Int))).size := info17 (dgN_len _ _)
          have oX := tabI_one (dgN 17 (R2 : Int))
          have sX : zer17.size = (tabI (dgN 17 (R2 : Int))).size := by unfold zer17; rw [tabI_size, tabI_size, dgN_len]; simp
          have h6 : (wr.alloc (.cells zer17 54)).heap[wr.heap.size]? = some (.cells zer17 54 (0, 0)) := heap_alloc_new _ _
          have HS0 : Hid (MoS w ((wr.alloc (.cells zer17 54)).setRow wr.heap.size (tabI (dgN 17 (R2 : Int)))) g gd gl gr wr.heap.size D (dgN 17 (R2 : Int)) (opG 17 (fun t => gI (dgN 17 (R2 : Int)) t - gI (dgN 34 (LL : Int)) t) (dgN 17 (R2 : Int)) 0) z32) := Lib.hid (by
            rw [opG_zero _ (dgN_len _ _)]
            exact ⟨(HI0.out.alloc _).off _ HI0.out.lt _, setRow_heap _ _ _ _ _ _ h6, HI0.out.lt⟩)
          obtain ⟨TX, hTX⟩ : ∃ X, tabI (dgN 17 (R2 : Int)) = X := ⟨_, rfl⟩
          rw [hTX] at hrr iX oX sX HS0
          clear HI0 ha17 hlt ha hR2 hR2e HN2 hTX HRL HCL HN
          go_wp2_with (first
            | (refine wpList_load_row rfl 54 (.tmp 5) rfl gr rfl 54 TX (0, 0) _ hrr Try.underlying54 rfl iX ?_)
            | (refine wpList_store_row rfl 54 (.tmp 9) (.tmp 52) rfl wr.heap.size TX rfl rfl 54 zer17 h6 iX sX oX ?_))
          obtain ⟨W6, hW6⟩ : ∃ X, (wr.alloc (.cells zer17 54)).setRow wr.heap.size TX = X := ⟨_, rfl⟩
          obtain ⟨gs, hgs⟩ : ∃ X, wr.heap.size = X := ⟨_, rfl⟩
          rw [hgs] at hW6
          rw [hgs, hW6] at HS0
          rw [hgs, hW6]
          clear hW6 hgs h6 hrr iX oX sX e7
          go_loopw [10] (fun i wr => ∃ a : Nat, a ≤ 17 ∧ i = .int .i64 (a : Int) ∧ Hid (MoS w wr g gd gl gr gs D (dgN 17 (R2 : Int)) (opG 17 (fun t => gI (dgN 17 (R2 : Int)) t - gI (dgN 34 (LL : Int)) t) (dgN 17 (R2 : Int)) a) z32)) (fun i _ => 17 - (intOf i).toNat)
          case atStart => exact ⟨0, by omega, rfl, HS0⟩
          case round =>
            clear HS0
            obtain ⟨a, ha, rfl, HS0⟩ := hrel
            by_cases hlt : a < 17
            · obtain ⟨x, hx⟩ : ∃ x, gI (dgN 17 (R2 : Int)) a = x := ⟨_, rfl⟩
              obtain ⟨y, hy⟩ : ∃ y, gI (dgN 34 (LL : Int)) a = y := ⟨_, rfl⟩
              have hxb := dgN_get 17 (R2 : Int) a hlt
              have hyb := dgN_get 34 (LL : Int) a (by omega)
              rw [hx] at hxb
              rw [hy] at hyb
              have cs : wr.cell? ⟨gs, a, none⟩ = some (.int .i64 x) := by rw [cell_of_row _ _ _ _ _ _ HS0.out.ss, tabI_get _ _ (by rw [opG_len]; exact hlt), opG_get _ _ _ _ hlt, if_neg (by omega), hx]
              have cl : wr.cell? ⟨gl, a, none⟩ = some (.int .i64 y) := by rw [cell_of_row _ _ _ _ _ _ HS0.out.base.ll, tabI_get _ _ (by rw [dgN_len]; omega), hy]
              have fx : wr.frozen? ⟨gs, a, none⟩ = false := by have := HS0.out.ss; simp [World.frozen?, this]
              have HS2 : Hid (MoS w (wr.drew.setCell ⟨gs, a, none⟩ (.int .i64 (x - y))) g gd gl gr gs D (dgN 17 (R2 : Int)) (opG 17 (fun t => gI (dgN 17 (R2 : Int)) t - gI (dgN 34 (LL : Int)) t) (dgN 17 (R2 : Int)) (a + 1)) z32) := Lib.hid (by
                have h := HS0.out.drew.cell a (x - y)
                rw [← hx, ← hy, opG_set (fun t => gI (dgN 17 (R2 : Int)) t - gI (dgN 34 (LL : Int)) t) _ hlt] at h
                rwa [hx, hy] at h)
              have e7 : decide ((a : Int) < 17) = true := decide_eq_true (by omega)
              have b6 : 0 ≤ (a : Int) := by omega
              have b7 : (a : Int) < 17 := by omega
              have b8 : (a : Int) < 34 := by omega
              have e8 : IntKind.i64.wrap (x - y) = x - y := by rw [IntKind.wrap_i64]; omega
              clear HS0 hx hy ha
              go_wp2_with fail
              refine wp_region_still_tail 9 (by kernel_rfl) (by kernel_rfl) ?_
              simp only [List.take_succ_cons, List.take_zero, List.drop_succ_cons, List.drop_zero]
              iterate 9 still_step
              refine wpStill_nil ?_
              go_wp2_with fail
              go_roundw
              case rel => exact ⟨a + 1, by omega, by go_num, HS2⟩
              case measure => simp [intOf]; omega
            · have e7 : decide ((a : Int) < 17) = false := decide_eq_false (by omega)
              have ha17 : a = 17 := by omega
              rw [ha17, opG_end (b := subG R2) _ _ (subG_len _) (fun t ht => (subG_get R2 t ht).symm)] at HS0
              clear ha17 hlt ha
              have HS0 : Hid (MoS w wr g gd gl gr gs D (dgN 17 (R2 : Int)) (carryTo (subG R2) 0) z32) := HS0
              go_wp2_with fail
              clear e7
              go_loopw [11] (fun i wr => ∃ a : Nat, a ≤ 16 ∧ i = .int .i64 (a : Int) ∧ Hid (MoS w wr g gd gl gr gs D (dgN 17 (R2 : Int)) (carryTo (subG R2) a) z32)) (fun i _ => 16 - (intOf i).toNat)
              case atStart => exact ⟨0, by omega, rfl, HS0⟩
              case round =>
                clear HS0
                obtain ⟨k, hk, rfl, HI⟩ := hrel
                by_cases hlt : k < 16
                · have hml : (carryTo (subG R2) k).length = 17 := by rw [carryTo_len, subG_len]
                  have hst := carry_st (l := subG R2) (B := 65536) (by omega) (subG_bd R2) k (by rw [subG_len]; omega)
                  obtain ⟨m, hm⟩ : ∃ m, carryTo (subG R2) k = m := ⟨_, rfl⟩
                  obtain ⟨m2, hm2⟩ : ∃ m2, m.set (k + 1) (gI m (k + 1) + gI m k / 65536) = m2 := ⟨_, rfl⟩
                  have hnx : carryTo (subG R2) (k + 1) = m2.set k (gI m k % 65536) := by rw [carryTo, hm, ← hm2]; rfl
                  have hg2 : gI m2 k = gI m k := by rw [← hm2, gI_set _ _ _ _ (by rw [← hm, hml]; omega), if_neg (by omega)]
                  have hxb := hst.at_
                  have hyb : -65536 ≤ gI m (k + 1) ∧ gI m (k + 1) ≤ 65536 := by
                    have h1 := hst.high (k + 1) (by omega)
                    rw [hm] at h1
                    rw [h1]
                    exact subG_bd R2 (k + 1)
                  rw [hm] at hml hxb HI
                  have HNX := Lib.hid hnx
                  have hl2 : m2.length = 17 := by rw [← hm2, List.length_set]; exact hml
                  have cx : wr.cell? ⟨gs, k, none⟩ = some (.int .i64 (gI m k)) := by rw [cell_of_row _ _ _ _ _ _ HI.out.ss, tabI_get _ _ (by omega)]
                  have cy : wr.cell? ⟨gs, k + 1, none⟩ = some (.int .i64 (gI m (k + 1))) := by rw [cell_of_row _ _ _ _ _ _ HI.out.ss, tabI_get _ _ (by omega)]
                  have fx : wr.frozen? ⟨gs, k + 1, none⟩ = false := by have := HI.out.ss; simp [World.frozen?, this]
                  obtain ⟨x, hx⟩ : ∃ x, gI m k = x := ⟨_, rfl⟩
                  obtain ⟨y, hy⟩ : ∃ y, gI m (k + 1) = y := ⟨_, rfl⟩
                  obtain ⟨q, hq⟩ : ∃ q, x / 65536 = q := ⟨_, rfl⟩
                  obtain ⟨r, hr⟩ : ∃ r, x % 65536 = r := ⟨_, rfl⟩
                  obtain ⟨s, hs⟩ : ∃ s, y + q = s := ⟨_, rfl⟩
                  rw [hx] at hxb cx hg2
                  rw [hy] at hyb cy
                  rw [hx, hr] at hnx
                  rw [hx, hy, hq, hs] at hm2
                  rw [hx, hr] at HNX
                  have f1 : IntKind.i64.wrap s = s := by rw [IntKind.wrap_i64]; omega
                  have f2 : bits .and .i64 x 65535 = r := by rw [i64_lo16, hr]
                  have f3 : IntKind.i64.wrap ((k : Int) + 1) = (k : Int) + 1 := by rw [IntKind.wrap_i64]; omega
                  have e7 : decide ((k : Int) < 16) = true := decide_eq_true (by omega)
                  have p1 : 0 ≤ (k : Int) := by omega
                  have p2 : (k : Int) < 16 := by omega
                  have p3 : 0 ≤ (k : Int) + 1 := by omega
                  have p4 : (k : Int) + 1 < 17 := by omega
                  have p5 : (k : Int) < 17 := by omega
                  have HI2 : Hid (MoS w (wr.drew.setCell ⟨gs, k + 1, none⟩ (.int .i64 s)) g gd gl gr gs D (dgN 17 (R2 : Int)) m2 z32) := Lib.hid (by rw [← hm2]; exact (HI.out.drew).cell (k + 1) _)
                  have c2 : (wr.setCell ⟨gs, k + 1, none⟩ (.int .i64 s)).drew.cell? ⟨gs, k, none⟩ = some (.int .i64 x) := by rw [show (wr.setCell ⟨gs, k + 1, none⟩ (.int .i64 s)).drew = wr.drew.setCell ⟨gs, k + 1, none⟩ (.int .i64 s) from rfl, cell_of_row _ _ _ _ _ _ HI2.out.ss, tabI_get _ _ (by omega), hg2]
                  have z2 : (wr.setCell ⟨gs, k + 1, none⟩ (.int .i64 s)).drew.frozen? ⟨gs, k, none⟩ = false := by
                    have := HI2.out.ss
                    show (wr.drew.setCell ⟨gs, k + 1, none⟩ (.int .i64 s)).frozen? ⟨gs, k, none⟩ = false
                    simp [World.frozen?, this]
                  have HI3 : Hid (MoS w ((wr.drew.setCell ⟨gs, k + 1, none⟩ (.int .i64 s)).setCell ⟨gs, k, none⟩ (.int .i64 r)) g gd gl gr gs D (dgN 17 (R2 : Int)) (m2.set k r) z32) := Lib.hid (HI2.out.cell k _)
                  clear hst hm hm2 hnx hg2 hml hl2 hx hy hr HI HI2 hk
                  go_wp2_with fail
                  refine wp_region_still_tail 11 (by kernel_rfl) (by kernel_rfl) ?_
                  simp only [List.take_succ_cons, List.take_zero, List.drop_succ_cons, List.drop_zero]
                  iterate 11 still_step
                  refine wpStill_nil ?_
                  go_wp2_with fail
                  go_roundw
                  case rel => exact ⟨k + 1, by omega, by go_num, by rw [HNX.out]; exact HI3⟩
                  case measure => simp [intOf]; omega
                · have e7 : decide ((k : Int) < 16) = false := decide_eq_false (by omega)
                  have hk16 : k = 16 := by omega
                  rw [hk16] at HI
                  have hsc := sub_carry R2 HR2L.out
                  obtain ⟨m, hm⟩ : ∃ m, carryTo (subG R2) 16 = m := ⟨_, rfl⟩
                  rw [hm] at hsc HI
                  have hml : m.length = 17 := by rw [← hm, carryTo_len, subG_len]
                  obtain ⟨top, htop⟩ : ∃ x, gI m 16 = x := ⟨_, rfl⟩
                  have ct : wr.cell? ⟨gs, 16, none⟩ = some (.int .i64 top) := by rw [cell_of_row _ _ _ _ _ _ HI.out.ss, tabI_get _ _ (by omega), htop]
                  rw [htop] at hsc
                  by_cases hle : LL ≤ R2
                  · have ht : decide (0 ≤ top) = true := decide_eq_true (hsc.1.2 hle)
                    have hmd := hsc.2 hle
                    have hnx : modR V j = R2 - LL := by have := HN3.out; rwa [if_pos hle] at this
                    have hss := HI.out.ss
                    have hrr := HI.out.base.rr
                    have HI2 : Hid (MoI w (wr.setRow gr (tabI m)) g gd gl gr D (dgN 17 (modR V j : Int)) z32) := Lib.hid (by rw [hnx, ← hmd]; exact HI.out.base.row m)
                    have iM : (Try.prog.info? 54).map (·.size) = some (tabI m).size := info17 hml
                    have oM := tabI_one m
                    have sM : (tabI (dgN 17 (R2 : Int))).size = (tabI m).size := by rw [tabI_size, tabI_size, dgN_len, hml]
                    obtain ⟨TM, hTM⟩ : ∃ X, tabI m = X := ⟨_, rfl⟩
                    obtain ⟨TX, hTX⟩ : ∃ X, tabI (dgN 17 (R2 : Int)) = X := ⟨_, rfl⟩
                    rw [hTM] at hss iM oM sM HI2
                    rw [hTX] at hrr sM
                    clear hsc hmd hnx hTM hTX hml htop hm hle HI hk16 hlt hk HN3 HR2L
                    have hj := HQ.out
                    go_wp2_with (first
                      | (refine wpList_load_row rfl 54 (.tmp 9) rfl gs rfl 54 TM (0, 0) _ hss Try.underlying54 rfl iM ?_)
                      | (refine wpList_store_row rfl 54 (.tmp 5) (.tmp 92) rfl gr TM rfl rfl 54 TX hrr iM sM oM ?_))
                    go_roundw
                    case rel => exact ⟨j, by have := HQ.out; omega, by first | rfl | go_num, HI2⟩
                    case measure => first | (simp [intOf]; done) | (simp [intOf]; omega)
                  · have ht : decide (0 ≤ top) = false := decide_eq_false (fun h => hle (hsc.1.1 h))
                    have hnx : modR V j = R2 := by have := HN3.out; rwa [if_neg hle] at this
                    have HI2 : Hid (MoI w wr g gd gl gr D (dgN 17 (modR V j : Int)) z32) := Lib.hid (by rw [hnx]; exact HI.out.base)
                    clear hsc hnx hml htop hm hle HI hk16 hlt hk HN3 HR2L
                    have hj := HQ.out
                    go_wp2_with fail
                    go_roundw
                    case rel => exact ⟨j, by have := HQ.out; omega, by first | rfl | go_num, HI2⟩
                    case measure => first | (simp [intOf]; done) | (simp [intOf]; omega)
    | zero =>
      have b4 : decide ((0 : Int) ≤ -1) = false := by decide
      have b5 : decide (0 ≤ (((0 : Nat) : Int) - 1)) = false := by decide
      obtain ⟨R, hR⟩ : ∃ R, modR V 0 = R := ⟨_, rfl⟩
      rw [hR] at HI
      rw [modR_zero] at hR
      have hRl : R < 256 ^ 32 := by rw [← hR]; exact Nat.lt_trans (Nat.mod_lt _ (by decide)) (show LL < 256 ^ 32 by decide)
      have HRE := Lib.hid hR
      have HRL := Lib.hid hRl
      have h7 : (wr.alloc (.cells z32 22)).heap[wr.heap.size]? = some (.cells z32 22 (0, 0)) := heap_alloc_new _ _
      have i32 : (Try.prog.info? 22).map (·.size) = some z32.size := by rw [HZS.out]; kernel_rfl
      have o32 : z32.all (·.oneCell') = true := by rw [HZ32.out]; exact arrB_one _
      have HO0 : Hid (MoO w ((wr.alloc (.cells z32 22)).setRow wr.heap.size z32) g gr wr.heap.size (dgN 17 (R : Int)) z32 (byK R 0)) := Lib.hid (by
        have a := HI.out.lt
        have b := HI.out.o2
        have c := HI.out.o3
        have d : g ≤ wr.heap.size := by have := HI.out.below.size; have := HG.out; omega
        refine ⟨?_, ?_, ?_, by omega, a, below_row (HI.out.below.alloc d _) d⟩
        · rw [setRow_other _ _ _ _ (by omega), heap_alloc_old _ _ (by omega)]; exact HI.out.res
        · rw [setRow_other _ _ _ _ (by omega), heap_alloc_old _ _ (by omega)]; exact HI.out.rr
        · rw [byK_zero, ← HZ32.out]; exact setRow_heap _ _ _ _ _ _ h7)
      clear HI hR hRl hk
      go_wp2_with (first
        | (refine wpList_runsV (o := ⟨some 93, _, _, _, _, _⟩) rfl (.agg z32) (by rw [← HZE.out]; kernel_rfl) ?_)
        | (refine wpList_store_row rfl 22 (.tmp 12) (.tmp 93) rfl wr.heap.size z32 rfl rfl 22 z32 h7 i32 rfl o32 ?_))
      obtain ⟨W7, hW7⟩ : ∃ X, (wr.alloc (.cells z32 22)).setRow wr.heap.size z32 = X := ⟨_, rfl⟩
      obtain ⟨go, hgo⟩ : ∃ X, wr.heap.size = X := ⟨_, rfl⟩
      rw [hgo] at hW7
      rw [hgo, hW7] at HO0
      rw [hgo, hW7]
      clear hW7 hgo h7 i32 o32 b4 b5
      go_loopw [13] (fun i wr => ∃ k : Nat, k ≤ 32 ∧ i = .int .i64 (k : Int) ∧ Hid (MoO w wr g gr go (dgN 17 (R : Int)) z32 (byK R k))) (fun i _ => 32 - (intOf i).toNat)
      case atStart => exact ⟨0, by omega, rfl, HO0⟩
      case round =>
        clear HO0
        obtain ⟨k, hk, rfl, HO0⟩ := hrel
        by_cases hlt : k < 32
        · obtain ⟨q, hq⟩ : ∃ q, k / 2 = q := ⟨_, rfl⟩
          obtain ⟨r, hr⟩ : ∃ r, k % 2 = r := ⟨_, rfl⟩
          obtain ⟨e, he⟩ : ∃ e, 8 * r = e := ⟨_, rfl⟩
          have hq17 : q < 17 := by omega
          have hby := byte_dg R k
          rw [hq, hr, he] at hby
          obtain ⟨dv, hdv⟩ : ∃ d, R / 65536 ^ q % 65536 = d := ⟨_, rfl⟩
          rw [hdv] at hby
          obtain ⟨y, hy⟩ : ∃ y, dv / 2 ^ e = y := ⟨_, rfl⟩
          rw [hy] at hby
          have cr : wr.cell? ⟨gr, q, none⟩ = some (.int .i64 (dv : Int)) := by rw [cell_of_row _ _ _ _ _ _ HO0.out.rr, tabI_get _ _ (by rw [dgN_len]; exact hq17), gI_dgN 17 q R hq17, hdv]
          have ce : wr.cell? ⟨go, k, none⟩ = some (.int .u8 (((byK R k).getD k 0).toNat : Int)) := by rw [cell_of_row _ _ _ _ _ _ HO0.out.out, arrB_get _ _ (by rw [byK_len]; exact hlt)]
          have fx : wr.frozen? ⟨go, k, none⟩ = false := by have := HO0.out.out; simp [World.frozen?, this]
          obtain ⟨v, hv⟩ : ∃ v : Nat, (byF R k).toNat = v := ⟨_, rfl⟩
          have hv2 : v = y % 256 := by rw [← hv, byF_nat, hby]
          have HO2 : Hid (MoO w (wr.setCell ⟨go, k, none⟩ (.int .u8 (v : Int))) g gr go (dgN 17 (R : Int)) z32 (byK R (k + 1))) := Lib.hid (by
            have h := HO0.out.set k (byF R k)
            rwa [byK_set _ _ hlt, hv] at h)
          have f1 : (dv : Int) / 2 ^ e = (y : Int) := by rw [← hy, Int.natCast_ediv]; simp
          have f2 : bits .and .i64 (y : Int) 255 = (v : Int) := by rw [i64_lo8]; omega
          have f2' : IntKind.u8.wrap (v : Int) = (v : Int) := by rw [IntKind.wrap_u8]; omega
          have f3 : (k : Int).tdiv 2 = (q : Int) := by rw [Int.tdiv_eq_ediv_of_nonneg (by omega)]; omega
          have f3' : (k : Int) / 2 = (q : Int) := by omega
          have f4 : (k : Int).tmod 2 = (r : Int) := by rw [Int.tmod_eq_emod_of_nonneg (by omega)]; omega
          have f4' : (k : Int) % 2 = (r : Int) := by omega
          have f5 : (8 : Int) * (r : Int) = (e : Int) := by omega
          have f6 : IntKind.u64.wrap (e : Int) = (e : Int) := by rw [IntKind.wrap_u64]; omega
          have b1 : 0 ≤ (q : Int) := by omega
          have b2 : (q : Int) < 17 := by omega
          have b3 : 0 ≤ (e : Int) := by omega
          have b5 : 0 ≤ (k : Int) := by omega
          have b6 : (k : Int) < 32 := by omega
          have b7 : decide ((k : Int) < 32) = true := decide_eq_true (by omega)
          generalize ((byK R k).getD k 0) = old at *
          clear HO0 hq hr he hby hdv hy hv hv2 hk
          go_wp2_with fail
          go_roundw
          case rel => exact ⟨k + 1, by omega, by go_num, HO2⟩
          case measure => simp [intOf]; omega
        · have b7 : decide ((k : Int) < 32) = false := decide_eq_false (by omega)
          have hk32 : k = 32 := by omega
          rw [hk32, byK_end R 32 HRL.out (by omega)] at HO0
          have h1 := HO0.out.out
          have h0 := HO0.out.res
          have iO : (Try.prog.info? 22).map (·.size) = some (arrB (leB 32 R)).size := info32 (leB_len _ _)
          have oO := arrB_one (leB 32 R)
          have sO : z32.size = (arrB (leB 32 R)).size := by rw [HZS.out, arrB_size, leB_len]
          have HBE : Hid (Below w.heap.size w (wr.setRow g (arrB (leB 32 R)))) := Lib.hid (by rw [HG.out]; exact below_row HO0.out.below (Nat.le_refl _))
          obtain ⟨OUT, hOUT⟩ : ∃ o, arrB (leB 32 R) = o := ⟨_, rfl⟩
          rw [hOUT] at h1 iO oO sO HBE
          have HOUT : Hid (arrB (leB 32 (V % LL)) = OUT) := Lib.hid (by rw [HRE.out, hOUT])
          clear HO0 hOUT hk32 hlt hk
          go_wp2_with (first
            | (refine wpList_load_row rfl 22 (.tmp 12) rfl go rfl 22 OUT (0, 0) _ h1 Try.underlying22 rfl iO ?_)
            | (refine wpList_store_row rfl 22 (.tmp 2) (.tmp 111) rfl g OUT rfl rfl 22 z32 h0 iO sO oO ?_))
          (try simp only [Exit.inBlock, Exit.then])
          refine bodyPost_ret (results_cell_row rfl _ _ g _ OUT _ _ rfl (setRow_heap _ _ _ _ _ _ h0) Try.underlying22 rfl iO) rfl ?_
          exact ⟨by rw [HOUT.out], HBE.out⟩
end Go.Proofs.Ytmmfbbbljhifjaa

