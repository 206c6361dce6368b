/- The landed package mult: the sum of products (sum). -/
import Derived.Test.YtfejabfmhddepaaMultB
namespace Go.Proofs.Ytfejabfmhddepaa
open Go.RowKit
set_option linter.unusedVariables false
set_option maxRecDepth 100000

/-- a product: its number's bytes, its multiples' cells, its point -/
abbrev PrT := List UInt8 × List (Array Value) × PtD
def cellP (q : PrT) : Array Value := prC q.1 q.2.1
def numP (q : PrT) : Nat × PtD := (leN q.1, q.2.2)
/-- products whose cells stand for what they are -/
def PrL (R : Array Value → PtD → Prop) (L : List PrT) : Prop := ∀ q ∈ L, q.1.length = 32 ∧ Mup R q.2.2 15 q.2.1
theorem PrL.sizes {R : Array Value → PtD → Prop} {L : List PrT} (C : PtB R) (h : PrL R L) : ∀ m ∈ L.map cellP, m.size = 352 := by
  intro m hm
  obtain ⟨q, hq, rfl⟩ := List.mem_map.1 hm
  obtain ⟨h1, h2⟩ := h q hq
  exact prC_size h1 (h2.size C) h2.len
theorem PrL.lt {R : Array Value → PtD → Prop} {L : List PrT} (h : PrL R L) : ∀ q ∈ L.map numP, q.1 < 256 ^ 32 := by
  intro q hq
  obtain ⟨x, hx, rfl⟩ := List.mem_map.1 hq
  have := leN_lt x.1
  rw [(h x hx).1] at this
  exact this
/-- a digit's multiple, out of a row of products -/
theorem mpart_row {R : Array Value → PtD → Prop} (C : PtB R) {L : List PrT} (hL : PrL R L) {W : World} {g : Nat} {t : TypeId} {fr : Nat × Nat} (hg : W.heap[g]? = some (.cells (flatC (L.map cellP)) t fr)) {k o : Nat} (hk : k < L.length) (ho : k * 352 = o) {i : Nat} (hi : i < 64) :
    Calls Try.prog 79 #[.pointer (some ⟨g, o, none⟩), .int .i64 (i : Int)] W (RetPt R W (pmul (dgP i ((L.map numP).getD k (0, pzero)).1) ((L.map numP).getD k (0, pzero)).2)) := by
  obtain ⟨h1, h2⟩ := hL _ (List.getElem_mem hk)
  obtain ⟨⟨l, ms, p⟩, hq⟩ : ∃ q, L[k] = q := ⟨_, rfl⟩
  have hsz := hL.sizes C
  have hk' : k < (L.map cellP).length := by simpa using hk
  have hcell : (L.map cellP)[k] = prC l ms := by rw [List.getElem_map, hq]; rfl
  have hnum : ((L.map numP).getD k (0, pzero)) = (leN l, p) := by
    have hl : k < (L.map numP).length := by simpa using hk
    simp only [List.getD, List.getElem?_eq_getElem hl, Option.getD_some, List.getElem_map, hq]; rfl
  rw [hq] at h1 h2
  have h1 : l.length = 32 := h1
  have h2 : Mup R p 15 ms := h2
  have h1 : l.length = 32 := h1
  have h2 : Mup R p 15 ms := h2
  have h2 : Mup R p 15 ms := h2
  have h1 : l.length = 32 := h1
  have h2 : Mup R p 15 ms := h2
  have h2 : Mup R p 15 ms := h2
  have h2 : Mup R p 15 ms := h2
  have h1 : l.length = 32 := h1
  have h2 : Mup R p 15 ms := h2
  have h2 : Mup R p 15 ms := h2
  have h2 : Mup R p 15 ms := h2
  have get : ∀ j, j < 352 → (flatC (L.map cellP))[o + j]? = (prC l ms)[j]? := by
    intro j hj
    have := flatC_get hsz #[] (k := o) k hk' (by simp; omega) j hj
    rwa [hcell, Array.empty_append] at this
  have hms := h2.size C
  have hd : dgP i (leN l) < ms.length := by rw [h2.len]; exact Nat.mod_lt _ (by omega)
  have hr := h2.is _ hd
  rw [if_pos (by have := h2.len; omega)] at hr
  refine (mpart_any hg h1 h2.len (fun j hj => ?_) (fun d hd j hj => ?_) hms (h2.one C) hi).mono ?_
  · rw [get j (by omega)]
    unfold prC
    rw [Array.getElem?_append_left (by rw [arrB_size]; omega), arrB_get l j (by omega)]
  · have h16 := h2.len
    rw [Nat.add_assoc, Nat.add_assoc, get _ (by omega)]
    unfold prC
    rw [← Nat.add_assoc]
    exact flatC_get hms (arrB l) d hd (by rw [arrB_size, h1, Nat.mul_comm]) j hj
  · rintro e w' ⟨rfl, hb⟩
    have e2 : ms.getD (dgP i (leN l)) #[] = ms[dgP i (leN l)] := by simp [List.getD, hd]
    rw [hnum, e2]
    exact ⟨_, rfl, hr, hb⟩
set_option maxHeartbeats 3200000 in
theorem msum_any {R : Array Value → PtD → Prop} (C : PtC R) (hz : R z20 pzero) {L : List PrT} (hL : PrL R L) {w : World} {gs n cap : Nat} {t : TypeId} {fr : Nat × Nat} (hg : w.heap[gs]? = some (.cells (flatC (L.map cellP)) t fr)) (hn : L.length = n) (hn9 : n < 1000) :
    Calls Try.prog 41 #[.slice (some ⟨gs, 0, none⟩) n cap] w (RetPt R w (sumP (fun n => n) (L.map numP))) := by
  have hgl : gs < w.heap.size := (Array.getElem?_eq_some_iff.1 hg).1
  have hP0 := hiP_zero hL.lt
  have hPE := hiP_end (L.map numP)
  rw [← hPE]
  have HPA : Hid (∀ (W : World) (k o i : Nat), Below w.heap.size w W → k < n → k * 352 = o → i < 64 → Calls Try.prog 79 #[.pointer (some ⟨gs, o, none⟩), .int .i64 (i : Int)] W (RetPt R W (pmul (dgP i ((L.map numP).getD k (0, pzero)).1) ((L.map numP).getD k (0, pzero)).2))) := Lib.hid fun W k o i hb hk ho hi =>
    mpart_row C.base hL (by rw [hb.block gs hgl]; exact hg) (by omega) ho hi
  have HST : Hid (∀ k, k < 64 → padd (pmul 16 (hiP k (L.map numP))) (sumP (dgP (63 - k)) ((L.map numP).take n)) = hiP (k + 1) (L.map numP)) := Lib.hid fun k hk => by
    rw [List.take_of_length_le (by simp; omega)]; exact hiP_step hk _
  have HTK : Hid (∀ i m, m < n → padd (sumP (dgP i) ((L.map numP).take m)) (pmul (dgP i ((L.map numP).getD m (0, pzero)).1) ((L.map numP).getD m (0, pzero)).2) = sumP (dgP i) ((L.map numP).take (m + 1))) := Lib.hid fun i m hm => by
    have hl : m < (L.map numP).length := by simp; omega
    have e : (L.map numP).getD m (0, pzero) = (L.map numP)[m] := by simp only [List.getD, List.getElem?_eq_getElem hl, Option.getD_some]
    rw [e]
    exact sumP_take (dgP i) (L.map numP) m hl
  have HNL : Hid (n < 1000) := Lib.hid hn9
  have HP0 := Lib.hid hP0
  have HZ := Lib.hid hz
  generalize L.map numP = M at *
  clear hL hg hn hgl hP0 hPE hz hn9 L
  have hz20 : ∀ u, (zeroValue 28).run Try.prog u = .ok (.agg z20) u := zp_zero
  generalize z20 = Z at *
  have HR0 := Lib.hid ((RowsW.nil w).box Z 28)
  have HB0 := Lib.hid (below_box (Below.refl w.heap.size w) Z 28)
  go_enter Try.func41, Try.ntmps41
  go_upto_region 1 with fail
  obtain ⟨W0, hW0⟩ : ∃ W, w.alloc (.cells Z 28) = W := ⟨_, rfl⟩
  obtain ⟨g0, hg0⟩ : ∃ g, w.heap.size = g := ⟨_, rfl⟩
  rw [hW0] at HR0 HB0
  rw [hg0] at HR0
  rw [hW0]
  (try rw [hg0])
  have HG0 := Lib.hid hg0
  clear hW0 hg0
  go_wp2_with fail
  with_reducible refine (C.zero _).mono ?_
  rintro e v1 ⟨cz, rfl, rz, hb1⟩
  have RZ1 := Lib.hid rz
  have HR1 := Lib.hid (HR0.out.below hb1)
  have HB1 := Lib.hid (below_next HB0.out hb1)
  clear rz hb1 HR0 HB0
  have hzs : Z.size = 20 := pt20 C.base HZ.out
  have hcs : cz.size = 20 := pt20 C.base RZ1.out
  have h0q : (v1.alloc (.cells Z 28)).heap[v1.heap.size]? = some (.cells Z 28 (0, 0)) := heap_alloc_new _ _
  have HR2 := Lib.hid (HR1.out.new Z cz 28)
  have HB2 := Lib.hid (below_new HB1.out Z cz 28)
  have HN2 := Lib.hid HR1.out.ne
  have HG2 := Lib.hid HB1.out.size
  have RZ2 : Hid (R cz (hiP 0 M)) := Lib.hid (by rw [HP0.out]; exact RZ1.out)
  go_upto_region 2 with (refine wpList_store_row rfl 28 (.tmp 3) (.tmp 6) rfl v1.heap.size cz rfl rfl 28 Z h0q (C.base.info RZ1.out) (by rw [hzs, hcs]) (C.base.one RZ1.out) ?_)
  obtain ⟨W2, hW2⟩ : ∃ X, (v1.alloc (.cells Z 28)).setRow v1.heap.size cz = X := ⟨_, rfl⟩
  obtain ⟨gz, hgz⟩ : ∃ X, v1.heap.size = X := ⟨_, rfl⟩
  rw [hW2, hgz] at HR2
  rw [hW2] at HB2
  rw [hgz] at HN2 HG2
  rw [hW2, hgz]
  have HNE : Hid (∀ r ∈ [(g0, Z, 28)], r.1 ≠ gz) := HN2
  clear hW2 hgz h0q HR1 HB1 HN2 RZ1 hcs HP0
  have HZS := Lib.hid hzs
  clear hzs
  go_wp2_with fail
  go_loopw [4] (fun i_ wr => ∃ k : Nat, k ≤ 64 ∧ i_ = .int .i64 (63 - (k : Int)) ∧ ∃ A, Hid (R A (hiP k M)) ∧ Hid (RowsW wr [(gz, A, 28), (g0, Z, 28)]) ∧ Hid (Below w.heap.size w wr)) (fun i_ _ => (intOf i_ + 1).toNat)
  case atStart => exact ⟨0, by omega, rfl, cz, RZ2, HR2, HB2⟩
  case round =>
    clear RZ2 HR2 HB2
    obtain ⟨k, hk, rfl, A, RA, HR1, HB1⟩ := hrel
    by_cases hlt : k < 64
    · obtain ⟨i, hi⟩ : ∃ i, 63 - k = i := ⟨_, rfl⟩
      have e1 : 63 - (k : Int) = (i : Int) := by omega
      have HE2 : Hid ((i : Int) - 1 = 63 - ((k + 1 : Nat) : Int)) := Lib.hid (by omega)
      have H64 : Hid (i < 64) := Lib.hid (by omega)
      have hst := HST.out k hlt
      rw [hi] at hst
      have HS1 := Lib.hid hst
      have HKL := Lib.hid hlt
      obtain ⟨s, hs⟩ : ∃ s, hiP k M = s := ⟨_, rfl⟩
      rw [hs] at RA HS1
      have a0 : decide (0 ≤ (i : Int)) = true := decide_eq_true (by omega)
      have a1 : IntKind.i64.wrap ((i : Int) - 1) = (i : Int) - 1 := by rw [IntKind.wrap_i64]; have := H64.out; omega
      rw [e1]
      clear hi e1 hst hs hlt hk
      go_wp2_with fail
      go_loopw [11] (fun j_ wr => ∃ j : Nat, j ≤ 4 ∧ j_ = .int .i64 (j : Int) ∧ ∃ A, Hid (R A (dblP j s)) ∧ Hid (RowsW wr [(gz, A, 28), (g0, Z, 28)]) ∧ Hid (Below w.heap.size w wr)) (fun j_ _ => 4 - (intOf j_).toNat)
      case atStart => exact ⟨0, by omega, rfl, A, RA, HR1, HB1⟩
      case round =>
        clear RA HR1 HB1
        obtain ⟨j, hj, rfl, A, RA, HR1, HB1⟩ := hrel
        by_cases hlt : j < 4
        · have b0 : decide ((j : Int) < 4) = true := decide_eq_true (by omega)
          have l7 := HR1.out.head
          go_wp2_with (refine wpList_load_row rfl 28 (.tmp 3) rfl gz rfl 28 A (0, 0) _ l7 Try.underlying28 rfl (C.base.info RA.out) ?_)
          with_reducible refine (C.double RA.out _).mono ?_
          rintro e v ⟨cv, rfl, rv, hv⟩
          have RV : Hid (R cv (dblP (j + 1) s)) := Lib.hid rv
          have hrq := HR1.out.below hv
          have hst := hrq.head
          have HR3 := Lib.hid (hrq.put HNE.out cv)
          have HB3 : Hid (Below w.heap.size w (v.setRow gz cv)) := Lib.hid (below_row (below_next HB1.out hv) HG2.out)
          clear rv hv l7
          go_wp2_with (refine wpList_store_row rfl 28 (.tmp 3) (.tmp 14) rfl gz cv rfl rfl 28 A hst (C.base.info RV.out) (by rw [pt20 C.base RA.out, pt20 C.base RV.out]) (C.base.one RV.out) ?_)
          go_roundw
          case rel => exact ⟨j + 1, by omega, by go_num, cv, RV, HR3, HB3⟩
          case measure => simp [intOf] <;> omega
        · have b0 : decide ((j : Int) < 4) = false := decide_eq_false (by omega)
          have RA2 : Hid (R A (padd (pmul 16 s) (sumP (dgP i) (M.take 0)))) := Lib.hid (by
            have h := RA.out
            rw [show j = 4 by omega, dblP_pmul] at h
            rw [List.take_zero, sumP, padd_z]; exact h)
          clear RA hlt hj
          go_wp2_with fail
          go_loopw [18] (fun m_ wr => ∃ m : Nat, m ≤ n ∧ m_ = .int .i64 (m : Int) ∧ ∃ A, Hid (R A (padd (pmul 16 s) (sumP (dgP i) (M.take m)))) ∧ Hid (RowsW wr [(gz, A, 28), (g0, Z, 28)]) ∧ Hid (Below w.heap.size w wr)) (fun m_ _ => n - (intOf m_).toNat)
          case atStart => exact ⟨0, by omega, rfl, A, RA2, HR1, HB1⟩
          case round =>
            clear RA2 HR1 HB1
            obtain ⟨m, hm, rfl, A, RA, HR1, HB1⟩ := hrel
            by_cases hlt : m < n
            · have b1 : decide ((m : Int) < (n : Int)) = true := decide_eq_true (by omega)
              have b2 : decide (m < n) = true := decide_eq_true hlt
              have b3 : 0 ≤ (m : Int) := by omega
              have b5 : IntKind.i64.wrap ((m : Int) + 1) = (m : Int) + 1 := by rw [IntKind.wrap_i64]; have := HNL.out; omega
              have b4 : (m : Int) < (n : Int) := by omega
              go_upto_region 12 with fail
              rename_i K5 hK5
              refine wp_region_noPanic ?_
              refine wp_region_held_tail (S := fun W => Below wr.heap.size wr W) 7 (by kernel_rfl) ⟨by kernel_rfl, by kernel_rfl, by kernel_rfl, by kernel_rfl⟩ (by exact (Below.refl _ _).drew) (fun hT inv hS => ?_)
              refine' take_atT 0 hT inv rfl (by omega) (by kernel_rfl) (by kernel_rfl) (fun _ _ _ h => h) (by rfl) hS ?_ ?_ ?_
              rotate_left 2
              · intro W hSW; exact run_loadR rfl rfl (HR1.out.below hSW).head Try.underlying28 rfl (C.base.info RA.out)
              · simp only [List.set_cons_succ, List.set_cons_zero]; rfl
              intro inv
              refine' take_atT 1 hT inv rfl (by omega) (by kernel_rfl) (by kernel_rfl) (fun _ _ _ h => h) (by rfl) hS ?_ ?_ ?_
              rotate_left 2
              · intro W hSW; go_simp; try with_reducible rfl
              · simp only [List.set_cons_succ, List.set_cons_zero]; rfl
              intro inv
              refine' take_atT 2 hT inv rfl (by omega) (by kernel_rfl) (by kernel_rfl) (fun _ _ _ h => h) (by rfl) hS ?_ ?_ ?_
              rotate_left 2
              · intro W hSW; go_simp; try with_reducible rfl
              · simp only [List.set_cons_succ, List.set_cons_zero]; rfl
              intro inv
              refine' take_atT 3 hT inv rfl (by omega) (by kernel_rfl) (by kernel_rfl) (fun _ _ _ h => h) (by rfl) hS ?_ ?_ ?_
              rotate_left 2
              · intro W hSW; go_simp; try with_reducible rfl
              · simp only [List.set_cons_succ, List.set_cons_zero]; rfl
              intro inv
              refine' take_atT 4 hT inv rfl (by omega) (by kernel_rfl) (by kernel_rfl) (fun _ _ _ h => h) (by rfl) hS ?_ ?_ ?_
              rotate_left 2
              · intro W hSW; go_simp; try with_reducible rfl
              · simp only [List.set_cons_succ, List.set_cons_zero]; rfl
              intro inv
              refine call_atT 5 inv rfl (by omega) (by kernel_rfl) (by rfl) (fun K hK => ?_)
              go_simp
              with_reducible refine (HPA.out _ m _ i (below_then HB1.out hS) hlt rfl H64.out).mono ?_
              rintro e v5 ⟨c5, rfl, r5, hv5⟩
              have R5 := Lib.hid r5
              clear r5
              have hb5 := below_next hS hv5
              clear hS hv5
              refine hK.out _ _ (by exact hb5) (fun inv hS => ?_)
              clear hK K
              refine call_atT 6 inv rfl (by omega) (by kernel_rfl) (by rfl) (fun K hK => ?_)
              go_simp
              with_reducible refine ((C.add RA.out R5.out) _).mono ?_
              rintro e v6 ⟨c6, rfl, r6, hv6⟩
              rw [padd_assoc, HTK.out i m hlt] at r6
              have R6 := Lib.hid r6
              clear r6
              have hb6 := below_next hS hv6
              clear hS hv6
              refine hK.out _ _ (by exact hb6) (fun inv hS => ?_)
              clear hK K
              refine done_atT (by kernel_rfl) ?_
              simp only [List.drop_succ_cons, List.drop_zero]
              have hrq := HR1.out.below hb6
              have hst := hrq.head
              have HR3 := Lib.hid (hrq.put HNE.out c6)
              have HB3 : Hid (Below w.heap.size w (v6.setRow gz c6)) := Lib.hid (below_row (below_then HB1.out hb6) HG2.out)
              go_wp2_with (refine wpList_store_row rfl 28 (.tmp 3) (.tmp 27) rfl gz c6 rfl rfl 28 A hst (C.base.info R6.out) (by rw [pt20 C.base RA.out, pt20 C.base R6.out]) (C.base.one R6.out) ?_)
              refine hK5 _ _ ?_
              go_wp2_with fail
              go_roundw
              case rel => exact ⟨m + 1, by omega, by go_num, c6, R6, HR3, HB3⟩
              case measure => simp [intOf] <;> omega
            · have b1 : decide ((m : Int) < (n : Int)) = false := decide_eq_false (by omega)
              have b2 : decide (m < n) = false := decide_eq_false hlt
              have RN : Hid (R A (hiP (k + 1) M)) := Lib.hid (by
                have h := RA.out
                rw [show m = n by omega, HS1.out] at h; exact h)
              clear RA hlt hm
              go_wp2_with fail
              go_roundw
              case rel => exact ⟨k + 1, by have := HKL.out; omega, by rw [← HE2.out], A, RN, HR1, HB1⟩
              case measure => simp [intOf] <;> omega
    · have a0 : decide (0 ≤ 63 - (k : Int)) = false := decide_eq_false (by omega)
      have a1 : decide ((k : Int) ≤ 63) = false := decide_eq_false (by omega)
      have RN : Hid (R A (hiP 64 M)) := Lib.hid (by
        have h := RA.out
        rw [show k = 64 by omega] at h; exact h)
      have hr0 := HR1.out.head
      have hr1 := HR1.out.tail.head
      have hf : (wr.setRow g0 A).heap[g0]? = some (.cells A 28 (0, 0)) := setRow_heap _ _ _ _ _ _ hr1
      have HF := Lib.hid hf
      have HB3 : Hid (Below w.heap.size w (wr.setRow g0 A)) := Lib.hid (below_row HB1.out (by have := HG0.out; omega))
      clear hlt hk RA hf
      go_wp2_with (first
        | (refine wpList_load_row rfl 28 (.tmp 3) rfl gz rfl 28 A (0, 0) _ hr0 Try.underlying28 rfl (C.base.info RN.out) ?_)
        | (refine wpList_store_row rfl 28 (.tmp 2) (.tmp 29) rfl g0 A rfl rfl 28 Z hr1 (C.base.info RN.out) (by rw [HZS.out, pt20 C.base RN.out]) (C.base.one RN.out) ?_))
      (try simp only [Exit.inBlock, Exit.then])
      refine bodyPost_ret (results_cell_row rfl _ _ g0 _ A _ _ rfl HF.out Try.underlying28 rfl (C.base.info RN.out)) rfl ?_
      exact ⟨A, rfl, RN.out, HB3.out⟩
end Go.Proofs.Ytfejabfmhddepaa

