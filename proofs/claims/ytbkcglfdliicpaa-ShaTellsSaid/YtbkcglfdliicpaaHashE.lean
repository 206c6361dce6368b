/- The contracts of the developers' Sum, Write and Of. -/
import Derived.Test.YtbkcglfdliicpaaHashD
namespace Go.Proofs.Ytbkcglfdliicpaa
open Go.RowKit
set_option linter.unusedVariables false
set_option maxRecDepth 100000

/-- what copied gives of p, whatever is laid behind -/
def CopyOk (p : Value) (h : Sh) (W : World) : Prop := ∀ W', Below W.heap.size W W' → Calls Try.prog 32 #[p] W' fun e w' => ∃ g', e = .returned (.pointer (some ⟨g', 0, none⟩)) ∧ HS w' g' h ∧ W'.heap.size ≤ g' ∧ Below W'.heap.size W' w'
theorem HashH.copyOk {W : World} {g : Nat} {h : Sh} {F : Nat → Prop} (hh : HashH W g h F) : CopyOk (.pointer (some ⟨g, 0, none⟩)) h W := fun W' hb => by
  rcases hh.2 with hs | ⟨s, k, ha, rfl⟩
  · exact hcopied_any W' (hs.next hb)
  · exact hcopied_new W' (ha.next hb)
theorem nil_copyOk (W : World) : CopyOk (.pointer none) Sh.nil W := fun W' _ => hcopied_nil W'

theorem hrounds_any : Hid (∀ W : World, Calls Try.prog 24 #[] W fun e w' => e = .returned (.agg (tabW ksL)) ∧ Below W.heap.size W w') := Lib.hid (by rw [← tabW_ks]; exact fun W => rounds_any W)

set_option maxHeartbeats 1600000 in
theorem hsum_any (p : Option Addr) (h : Sh) (W : World) (hc : CopyOk (.pointer p) h W) (hn : h.n ≤ 1152921504606866976) :
    Calls Try.prog 13 #[.pointer p] W fun e w' => e = .returned (.agg (arrB h.sum)) ∧ Below W.heap.size W w' := by
  have hz := fun u => zero_arr 24 (arrB (List.replicate 64 0)) 64 (by kernel_rfl) u
  obtain ⟨z, hze⟩ : ∃ z, arrB (List.replicate 64 0) = z := ⟨_, rfl⟩
  have nz : z.size = 64 := by rw [← hze, arrB_size]; simp
  rw [hze] at hz
  have HFI : Hid (∀ (W : World) (g : Nat), HS W g h → Calls Try.prog 26 #[.pointer (some ⟨g, 0, none⟩), .agg (tabW ksL)] W fun e w' => e = .returned (.agg (arrB h.sum)) ∧ Only (fun j => j = g) W w') := Lib.hid fun W g hs => hfin_any W hs hn
  have hsl : h.sum.length = 64 := bytesS_len _
  have nS : (arrB h.sum).size = 64 := by rw [arrB_size, hsl]
  have oS := arrB_one h.sum
  have HRO := hrounds_any
  obtain ⟨KK, hKK⟩ : ∃ K, tabW ksL = K := ⟨_, rfl⟩
  obtain ⟨S, hS⟩ : ∃ S, arrB h.sum = S := ⟨_, rfl⟩
  rw [hKK] at HFI HRO
  rw [hS] at HFI nS oS ⊢
  have iS : (Try.prog.info? 24).map (·.size) = some S.size := by rw [nS]; kernel_rfl
  have sS : z.size = S.size := by rw [nz, nS]
  obtain ⟨W1, hW1⟩ : ∃ W1, W.alloc (.cells z 24) = W1 := ⟨_, rfl⟩
  have hb1 : Below W.heap.size W W1 := by rw [← hW1]; exact below_alloc (Below.refl _ _) _
  have hrow : W1.heap[W.heap.size]? = some (.cells z 24 (0, 0)) := by rw [← hW1]; exact heap_alloc_new _ _
  have HC := Lib.hid (hc W1 hb1)
  have HB1 := Lib.hid hb1
  have HR := Lib.hid hrow
  have HW1 := Lib.hid hW1
  clear hze nz hsl nS hKK hS hW1 hb1 hrow hc hn
  go_enter Try.func13, Try.ntmps13
  go_wp2_with fail
  rw [HW1.out]
  clear HW1
  with_reducible refine HC.out.mono ?_
  rintro e w2 ⟨g, rfl, hs2, hg2, hb2⟩
  have HS2 := Lib.hid hs2
  have HG2 : Hid (W1.heap.size ≤ g) := Lib.hid hg2
  have HB2 := Lib.hid hb2
  clear hs2 hg2 hb2 HC
  go_wp2_with fail
  with_reducible refine (HRO.out _).mono ?_
  rintro e w3 ⟨rfl, hb3⟩
  have HS3 := Lib.hid (HS2.out.next hb3)
  have HB3 := Lib.hid (below_next HB2.out hb3)
  clear hb3 HS2
  go_wp2_with fail
  with_reducible refine (HFI.out _ _ HS3.out).mono ?_
  rintro e w4 ⟨rfl, ho4⟩
  have hlt : W.heap.size < W1.heap.size := (Array.getElem?_eq_some_iff.1 HR.out).1
  have hr4 : w4.heap[W.heap.size]? = some (.cells z 24 (0, 0)) := by
    rw [ho4.block _ (Nat.lt_of_lt_of_le hlt HB3.out.size) (by have := HG2.out; omega), HB3.out.block _ hlt]; exact HR.out
  have HE : Hid (Below W.heap.size W (w4.setRow W.heap.size S)) := Lib.hid (by
    have a : Below W.heap.size W w4 := (below_next HB1.out HB3.out).trans (ho4.below (Nat.le_trans HB1.out.size HB3.out.size) (fun k hk e => by have := HG2.out; have := HB1.out.size; omega))
    exact below_setRow a (Nat.le_refl _))
  clear ho4 hlt HS3 HB3 HFI HRO
  go_wp2_with (refine wpList_store_row rfl 24 (.tmp 2) (.tmp 8) rfl W.heap.size S rfl rfl 24 z hr4 iS sS oS ?_)
  (try simp only [Exit.inBlock, Exit.then])
  refine bodyPost_ret (results_cell_row rfl _ _ W.heap.size _ S _ _ rfl (setRow_heap w4 _ _ _ _ _ hr4) Try.underlying24 rfl iS) rfl ?_
  exact ⟨rfl, HE.out⟩

theorem hwriteNo_any (W : World) (A : Option Addr) (l : List UInt8) (c : Nat) : Calls Try.prog 19 #[.pointer none, .slice A l.length c] W fun e w' => e = .returned (.tuple #[]) ∧ w' = W := by
  generalize l.length = n
  go_enter Try.func19, Try.ntmps19
  go_wp2
  (try simp only [Exit.inBlock, Exit.then])
  refine bodyPost_ret (results_none rfl _ _ _) rfl ?_
  first | exact ⟨rfl, rfl⟩ | exact ⟨rfl, trivial⟩

set_option maxHeartbeats 3200000 in
/-- a Hash that is begun is written to -/
theorem hwrite_any {g : Nat} {h : Sh} (W : World) (A : Option Addr) (l : List UInt8) (c : Nat) (hsX : HS W g h) (hbX : Bs W A l) (hc : l.length ≤ c) (hoff : 0 < l.length → ∀ j, At A j → j ≠ g) (hn : h.n ≤ 1152921504606847976) (hl : l.length ≤ 10000) :
    Calls Try.prog 19 #[.pointer (some ⟨g, 0, none⟩), .slice A l.length c] W fun e w' => e = .returned (.tuple #[]) ∧ HS w' g (h.add l) ∧ Only (fun j => j = g) W w' := by
  have hsX' := hsX
  obtain ⟨hoX, k, haX, htX⟩ := hsX'
  have hcb := haX.cb
  have HOX : Hid (Only (fun j => j = g) W W) := Lib.hid (Only.refl _ _)
  have hhe := hheld_any W haX (by omega)
  obtain ⟨r, hr⟩ : ∃ r, h.n % 128 = r := ⟨_, rfl⟩
  have hrl : r < 128 := by omega
  rw [hr] at hhe
  have HHE := Lib.hid hhe
  obtain ⟨Q, hQ⟩ : ∃ Q, 128 - r = Q := ⟨_, rfl⟩
  have t1 : IntKind.i64.wrap (128 - (r : Int)) = (Q : Int) := by rw [IntKind.wrap_i64]; omega
  have t2 : (128 : Int) - (r : Int) = (Q : Int) := by omega
  have hHO := hhold_any W A l c haX hbX (by omega) (by omega)
  have HTK := Lib.hid (fun (W' : World) (hb : Below W.heap.size W W') => htake_any W' A l c (hsX.next hb) (hbX.below hb) hc hoff (by omega) (by omega))
  obtain ⟨L, hL⟩ : ∃ L, l.length = L := ⟨_, rfl⟩
  by_cases hlt : r + L < 128
  · obtain ⟨e0, e1, e2, e3⟩ := hold_short l hoX haX.len htX (by omega)
    rw [e0] at hHO
    have HEND : Hid (∀ w', HA w' g true h.s (h.n + l.length) (heldK h.n k l) → HS w' g (h.add l)) := Lib.hid (fun w' ha => ⟨Sh.add_ok hoX l, _, by rw [e1, e2]; exact ha, by rw [e2]; exact e3⟩)
    have hlq : (L : Int) < (Q : Int) := by omega
    rw [hL] at hHO HEND
    have HHO := Lib.hid hHO
    clear hhe hHO e0 e1 e2 e3 haX hsX hbX hoX htX hn hl hc hoff hr hrl hQ hlt HTK
    (try rw [hL])
    go_enter Try.func19, Try.ntmps19
    go_wp2_with fail
    with_reducible refine HHE.out.mono ?_
    rintro e w3 ⟨rfl, hw3⟩
    subst hw3
    clear HHE
    go_wp2_with fail
    with_reducible refine HHO.out.mono ?_
    rintro e w4 ⟨rfl, ha4, ho4⟩
    have HE1 := Lib.hid (HEND.out _ ha4)
    have HE2 := Lib.hid (HOX.out.trans ho4)
    clear HHO ha4 ho4 HEND
    go_wp2_with fail
    (try simp only [Exit.inBlock, Exit.then])
    refine bodyPost_ret (results_none rfl _ _ _) rfl ?_
    exact ⟨rfl, HE1.out, HE2.out⟩
  · have hlq : ¬ (L : Int) < (Q : Int) := by omega
    have HRO := hrounds_any
    rw [hL] at HTK
    clear hhe hHO haX hsX hbX hoX htX hn hl hc hoff hr hrl hQ hlt
    (try rw [hL])
    go_enter Try.func19, Try.ntmps19
    go_wp2_with fail
    with_reducible refine HHE.out.mono ?_
    rintro e w3 ⟨rfl, hw3⟩
    subst hw3
    clear HHE
    go_wp2_with fail
    with_reducible refine (HRO.out _).mono ?_
    rintro e w4 ⟨rfl, hb4⟩
    have HT := Lib.hid (HTK.out w4 hb4)
    have HO4 := Lib.hid (HOX.out.trans (Only.of_below hb4))
    clear HTK hb4 HRO
    go_wp2_with fail
    with_reducible refine HT.out.mono ?_
    rintro e w5 ⟨rfl, hs5, ho5⟩
    have HE1 := Lib.hid hs5
    have HE2 := Lib.hid (HO4.out.trans ho5)
    clear HT hs5 ho5
    go_wp2_with fail
    (try simp only [Exit.inBlock, Exit.then])
    refine bodyPost_end (results_none rfl _ _ _) rfl ?_
    exact ⟨rfl, HE1.out, HE2.out⟩

set_option maxHeartbeats 3200000 in
/-- a Hash that is not begun is written to -/
theorem hwrite_new {g : Nat} {s0 : St} {k0 : List UInt8} (W : World) (A : Option Addr) (l : List UInt8) (c : Nat) (ha0 : HA W g false s0 0 k0) (hb0 : Bs W A l) (hc : l.length ≤ c) (hoff : 0 < l.length → ∀ j, At A j → j ≠ g) (hl : l.length ≤ 10000) :
    Calls Try.prog 19 #[.pointer (some ⟨g, 0, none⟩), .slice A l.length c] W fun e w' => e = .returned (.tuple #[]) ∧ HS w' g (Sh.nil.add l) ∧ Only (fun j => j = g) W w' := by
  have hcb := ha0.cb
  have HNW := Lib.hid (hnew_any W)
  have HA0 := Lib.hid ha0
  have HB0 := Lib.hid hb0
  have HCC := Lib.hid hc
  have HOF := Lib.hid hoff
  have HLL := Lib.hid hl
  obtain ⟨L0, hL0⟩ : ∃ L, l.length = L := ⟨_, rfl⟩
  have HL0 := Lib.hid hL0
  rw [hL0]
  clear ha0 hb0 hc hoff hl hL0
  go_enter Try.func19, Try.ntmps19
  go_wp2_with fail
  with_reducible refine HNW.out.mono ?_
  rintro e w1 ⟨g1, rfl, ⟨ho1, k1, ha1, ht1⟩, hg1, hb1⟩
  have ha0 := HA0.out.next hb1
  have hV := hcells_one true (Sh.nil.s).l Sh.nil.n k1
  have hcl := hcells_len true (s := (Sh.nil.s).l) Sh.nil.n (St.len _) ha1.len
  have hcl0 := hcells_len false (s := s0.l) 0 (St.len _) ha0.len
  have hrow1 := ha1.row
  have hrow0 := ha0.row
  have haX := ha0.setAll true Sh.nil.s Sh.nil.n k1 ha1.len
  have oV := all_oneCell_toArray hV
  have nV : (hcells true (Sh.nil.s).l Sh.nil.n k1).toArray.size = 138 := by simpa using hcl
  have nV0 : (hcells false s0.l 0 k0).toArray.size = 138 := by simpa using hcl0
  have ho0 : Only (fun j => j = g) W (w1.setRow g (hcells true (Sh.nil.s).l Sh.nil.n k1).toArray) := (Only.of_below hb1).trans only_setRow
  have hbX : Bs (w1.setRow g (hcells true (Sh.nil.s).l Sh.nil.n k1).toArray) A l := by
    intro hp
    exact (HB0.out.only ho0 (fun j hj e => HOF.out hp j hj e)) hp
  obtain ⟨V, hVe⟩ : ∃ V, (hcells true (Sh.nil.s).l Sh.nil.n k1).toArray = V := ⟨_, rfl⟩
  obtain ⟨V0, hVe0⟩ : ∃ V, (hcells false s0.l 0 k0).toArray = V := ⟨_, rfl⟩
  rw [hVe] at hrow1 haX oV nV ho0 hbX
  rw [hVe0] at hrow0 nV0
  have iV : (Try.prog.info? 52).map (·.size) = some V.size := by rw [nV]; kernel_rfl
  have sV : V0.size = V.size := by rw [nV0, nV]
  have HAX := Lib.hid haX
  have HBX := Lib.hid hbX
  have HOX := Lib.hid ho0
  have HT1 := Lib.hid ht1
  clear hV hcl hcl0 haX hbX ho0 ht1 ha0 ha1 hb1 hg1 ho1 hVe hVe0 nV nV0 hcb HA0 HNW HB0
  go_upto_region 3 with (first
    | (refine wpList_load_row rfl 52 (.tmp 13) rfl g1 rfl 52 V (0, 0) _ hrow1 Try.underlying52 rfl iV ?_)
    | (refine wpList_store_row rfl 52 (.tmp 15) (.tmp 14) rfl g V rfl rfl 52 V0 hrow0 iV sV oV ?_))
  clear hrow1 hrow0 oV iV sV
  obtain ⟨WX, hWX⟩ : ∃ w, w1.setRow g V = w := ⟨_, rfl⟩
  rw [hWX] at HAX HBX HOX
  rw [hWX]
  clear hWX
  have haX := HAX.out
  have hbX := HBX.out
  have htX := HT1.out
  have hc := HCC.out
  have hoff := HOF.out
  have hl := HLL.out
  have hoX := Sh.nil_ok
  have hL0 := HL0.out
  have hn : Sh.nil.n = 0 := rfl
  have hsX : HS WX g Sh.nil := ⟨hoX, k1, haX, htX⟩
  clear HAX HBX HT1 HCC HOF HLL HL0
  have hhe := hheld_any WX haX (by omega)
  obtain ⟨r, hr⟩ : ∃ r, Sh.nil.n % 128 = r := ⟨_, rfl⟩
  have hrl : r < 128 := by omega
  rw [hr] at hhe
  have HHE := Lib.hid hhe
  obtain ⟨Q, hQ⟩ : ∃ Q, 128 - r = Q := ⟨_, rfl⟩
  have t1 : IntKind.i64.wrap (128 - (r : Int)) = (Q : Int) := by rw [IntKind.wrap_i64]; omega
  have t2 : (128 : Int) - (r : Int) = (Q : Int) := by omega
  have hHO := hhold_any WX A l c haX hbX (by omega) (by omega)
  have HTK := Lib.hid (fun (W' : World) (hb : Below WX.heap.size WX W') => htake_any W' A l c (hsX.next hb) (hbX.below hb) hc hoff (by omega) (by omega))
  obtain ⟨L, hL⟩ : ∃ L, l.length = L := ⟨_, rfl⟩
  obtain rfl : L0 = L := by omega
  by_cases hlt : r + L0 < 128
  · obtain ⟨e0, e1, e2, e3⟩ := hold_short l hoX haX.len htX (by omega)
    rw [e0] at hHO
    have HEND : Hid (∀ w', HA w' g true Sh.nil.s (Sh.nil.n + l.length) (heldK Sh.nil.n k1 l) → HS w' g (Sh.nil.add l)) := Lib.hid (fun w' ha => ⟨Sh.add_ok hoX l, _, by rw [e1, e2]; exact ha, by rw [e2]; exact e3⟩)
    have hlq : (L0 : Int) < (Q : Int) := by omega
    rw [hL] at hHO HEND
    have HHO := Lib.hid hHO
    clear hhe hHO e0 e1 e2 e3 haX hsX hbX hoX htX hl hc hoff hL0 hr hrl hQ hlt HTK
    go_wp2_with fail
    with_reducible refine HHE.out.mono ?_
    rintro e w3 ⟨rfl, hw3⟩
    subst hw3
    clear HHE
    go_wp2_with fail
    with_reducible refine HHO.out.mono ?_
    rintro e w4 ⟨rfl, ha4, ho4⟩
    have HE1 := Lib.hid (HEND.out _ ha4)
    have HE2 := Lib.hid (HOX.out.trans ho4)
    clear HHO ha4 ho4 HEND
    go_wp2_with fail
    (try simp only [Exit.inBlock, Exit.then])
    refine bodyPost_ret (results_none rfl _ _ _) rfl ?_
    exact ⟨rfl, HE1.out, HE2.out⟩
  · have hlq : ¬ (L0 : Int) < (Q : Int) := by omega
    have HRO := hrounds_any
    rw [hL] at HTK
    clear hhe hHO haX hsX hbX hoX htX hl hc hoff hL0 hr hrl hQ hlt
    go_wp2_with fail
    with_reducible refine HHE.out.mono ?_
    rintro e w3 ⟨rfl, hw3⟩
    subst hw3
    clear HHE
    go_wp2_with fail
    with_reducible refine (HRO.out _).mono ?_
    rintro e w4 ⟨rfl, hb4⟩
    have HT := Lib.hid (HTK.out w4 hb4)
    have HO4 := Lib.hid (HOX.out.trans (Only.of_below hb4))
    clear HTK hb4 HRO
    go_wp2_with fail
    with_reducible refine HT.out.mono ?_
    rintro e w5 ⟨rfl, hs5, ho5⟩
    have HE1 := Lib.hid hs5
    have HE2 := Lib.hid (HO4.out.trans ho5)
    clear HT hs5 ho5
    go_wp2_with fail
    (try simp only [Exit.inBlock, Exit.then])
    refine bodyPost_end (results_none rfl _ _ _) rfl ?_
    exact ⟨rfl, HE1.out, HE2.out⟩
end Go.Proofs.Ytbkcglfdliicpaa

