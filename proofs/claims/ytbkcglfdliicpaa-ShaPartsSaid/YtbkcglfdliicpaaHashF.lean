/- The contracts of the developers' Mid and Of. -/
import Derived.Test.YtbkcglfdliicpaaHashE
namespace Go.Proofs.Ytbkcglfdliicpaa
open Go.RowKit
set_option linter.unusedVariables false
set_option maxRecDepth 100000

set_option maxHeartbeats 3200000 in
theorem hmid_any (p : Option Addr) (h : Sh) (W0 : World) (hc : CopyOk (.pointer p) h W0) (hn : h.n ≤ 1152921504606866976) :
    Calls Try.prog 16 #[.pointer p] W0 (RetOb 5 W0 h.mid) := by
  have Hpost : Hid (∀ l v w', l = h.mid → Ob 5 w' W0.heap.size v l → Below W0.heap.size W0 w' → RetOb 5 W0 h.mid (.returned v) w') := Lib.hid (fun l v w' e ho hb => by subst e; exact ⟨v, rfl, ho, hb⟩)
  have HC := Lib.hid (hc W0 (Below.refl _ _))
  have HN := Lib.hid hn
  clear hc hn
  go_enter Try.func16, Try.ntmps16
  go_wp2_with fail
  with_reducible refine HC.out.mono ?_
  rintro e w2 ⟨g, rfl, hs2, hg2, hb2⟩
  have HB2 := Lib.hid hb2
  clear hb2 hg2 HC
  obtain ⟨hok, k, ha2, ht⟩ := hs2
  have hn := HN.out
  unfold Sh.ok at hok
  have hkl := ha2.len
  have hmid : h.mid = (bytesS h.s ++ hiB h.n) ++ h.t ++ List.replicate (128 - h.t.length) 0 := by simp [Sh.mid]
  have HQ := Lib.hid hmid
  have htl : h.t.length < 128 := by omega
  have HMOD := Lib.hid hok
  have HTK : Hid (k.take h.t.length = h.t) := Lib.hid (by rw [hok]; exact ht)
  have HAP : Hid (∀ (v : Value) (base : Nat) (w : World), Ob 5 w base v (bytesS h.s) → base ≤ w.heap.size → Calls Try.prog 33 #[v, .int .u64 (h.n : Int)] w fun e w' => ∃ v', e = .returned v' ∧ Ob 5 w' base v' (bytesS h.s ++ hiB h.n) ∧ Below base w w') := Lib.hid fun v base w ho hb => happ_any v _ base h.n w ho (by rw [bytesS_len]; omega) hb (by omega)
  have HBY := Lib.hid fun W : World => hbytes_any h.s W
  have hfl : (bytesS h.s ++ hiB h.n).length = 72 := by rw [List.length_append, bytesS_len, hiB_len]
  obtain ⟨F1, hF1⟩ : ∃ F, bytesS h.s ++ hiB h.n = F := ⟨_, rfl⟩
  rw [hF1] at HQ HAP hfl
  obtain ⟨B1, hB1⟩ : ∃ F, bytesS h.s = F := ⟨_, rfl⟩
  rw [hB1] at HAP HBY
  obtain ⟨T, hT⟩ : ∃ T, h.t = T := ⟨_, rfl⟩
  rw [hT] at HQ htl HMOD HTK
  obtain ⟨s, hs⟩ : ∃ s, h.s = s := ⟨_, rfl⟩
  rw [hs] at ha2 HBY
  obtain ⟨n, hnn⟩ : ∃ n, h.n = n := ⟨_, rfl⟩
  rw [hnn] at ha2 HAP HMOD
  have hnle : n ≤ 1152921504606866976 := by omega
  have HNN := Lib.hid hnle
  have HTL := Lib.hid htl
  have HFL := Lib.hid hfl
  have iS : (Try.prog.info? 49).map (·.size) = some (s.l.map wv).length := by rw [List.length_map, St.len]; kernel_rfl
  have eS : (s.l.map wv).toArray = tabW s.l := rfl
  clear hmid hok hn hkl hF1 hB1 hT hs hnn ht hnle htl hfl HN
  go_upto_region 2 with fail
  refine wp_region_noPanic ?_
  refine wp_region_held_drew (S := fun W => HA W g true s n k ∧ Below W0.heap.size W0 W) (by kernel_rfl) (by exact ⟨ha2.drew, HB2.out.drew⟩) (fun hS => ?_)
  refine' take_at 0 rfl (by kernel_rfl) (by kernel_rfl) (by kernel_rfl) (fun _ _ _ h => h) (by rfl) hS ?_ ?_ ?_
  rotate_left 2
  · intro W hSW; go_simp; try with_reducible rfl
  · simp only [List.set_cons_succ, List.set_cons_zero]; rfl
  refine' take_at 1 rfl (by kernel_rfl) (by kernel_rfl) (by kernel_rfl) (fun _ _ _ h => h) (by rfl) hS ?_ ?_ ?_
  rotate_left 2
  · intro W hSW; go_simp; try with_reducible rfl
  · simp only [List.set_cons_succ, List.set_cons_zero]; rfl
  refine' take_at 2 rfl (by kernel_rfl) (by kernel_rfl) (by kernel_rfl) (fun _ _ _ h => h) (by rfl) hS ?_ ?_ ?_
  rotate_left 2
  · intro W hSW; go_simp; try with_reducible rfl
  · simp only [List.set_cons_succ, List.set_cons_zero]; rfl
  refine' take_at 3 rfl (by kernel_rfl) (by kernel_rfl) (by kernel_rfl) (fun _ _ _ h => h) (by rfl) hS ?_ ?_ ?_
  rotate_left 2
  · intro W hSW; exact run_load_range rfl rfl hSW.1.cs Try.underlying49 rfl iS
  · simp only [List.set_cons_succ, List.set_cons_zero]; rfl
  refine' take_at 5 rfl (by kernel_rfl) (by kernel_rfl) (by kernel_rfl) (fun _ _ _ h => h) (by rfl) hS ?_ ?_ ?_
  rotate_left 2
  · intro W hSW; go_simp; try with_reducible rfl
  · simp only [List.set_cons_succ, List.set_cons_zero]; rfl
  refine' take_at 6 rfl (by kernel_rfl) (by kernel_rfl) (by kernel_rfl) (fun _ _ _ h => h) (by rfl) hS ?_ ?_ ?_
  rotate_left 2
  · intro W hSW; go_simp; try with_reducible rfl
  · simp only [List.set_cons_succ, List.set_cons_zero]; rfl
  refine' take_at 7 rfl (by kernel_rfl) (by kernel_rfl) (by kernel_rfl) (fun _ _ _ h => h) (by rfl) hS ?_ ?_ ?_
  rotate_left 2
  · intro W hSW; go_simp; try with_reducible rfl
  · simp only [List.set_cons_succ, List.set_cons_zero]; rfl
  refine' take_at 8 rfl (by kernel_rfl) (by kernel_rfl) (by kernel_rfl) (fun _ _ _ h => h) (by rfl) hS ?_ ?_ ?_
  rotate_left 2
  · intro W hSW; have hc := hSW.1.cn; go_simp; try with_reducible rfl
  · simp only [List.set_cons_succ, List.set_cons_zero]; rfl
  refine call_at 4 rfl (by kernel_rfl) (by rfl) (fun K hK => ?_)
  go_simp
  with_reducible refine (HBY.out _).mono ?_
  rintro e v0 ⟨v, rfl, ho0, hb0⟩
  have kb0 := And.intro (hS.1.next hb0) (below_next hS.2 hb0)
  have HO0 := Lib.hid ho0
  have HLE0 := Lib.hid hb0.size
  have HG0 := Lib.hid hS.1.lt
  have HB9 := Lib.hid hS.2.size
  clear hS hb0 ho0
  refine hK.out _ _ (by exact kb0) (fun hS => ?_)
  clear hK K
  refine call_at 9 rfl (by kernel_rfl) (by rfl) (fun K hK => ?_)
  go_simp
  with_reducible refine (HAP.out _ _ _ HO0.out HLE0.out).mono ?_
  rintro e v1 ⟨v2, rfl, ho1, hb1⟩
  have kb1 := And.intro (kb0.1.below hb1 HG0.out) (kb0.2.trans (hb1.mono HB9.out))
  have HO1 := Lib.hid (ho1.low HB9.out)
  clear hS hb1 ho1 HO0 HLE0 HG0 HB9
  refine hK.out _ _ (by exact kb1) (fun hS => ?_)
  clear hK K
  refine' take_at 10 rfl (by kernel_rfl) (by kernel_rfl) (by kernel_rfl) (fun _ _ _ h => h) (by rfl) hS ?_ ?_ ?_
  rotate_left 2
  · intro W hSW; go_simp; try with_reducible rfl
  · simp only [List.set_cons_succ, List.set_cons_zero]; rfl
  refine wpAnyH_done (by kernel_rfl) ?_ _
  refine NoPanic.normal ?_
  clear hS kb0
  (try simp only [Act.put])
  obtain ⟨ha3, hb3⟩ := kb1
  have HA3 := Lib.hid (ha3.drew)
  have HB3 : Hid (Below W0.heap.size W0 (v1.drew)) := Lib.hid hb3.drew
  have HHE : Hid (Calls Try.prog 35 #[.pointer (some ⟨g, 0, none⟩)] (v1.drew) fun e w' => e = .returned (.int .i64 (T.length : Int)) ∧ w' = v1.drew) := Lib.hid (by
    have := hheld_any (v1.drew) (ha3.drew) (by have := HNN.out; omega)
    rwa [← HMOD.out] at this)
  have hsl := fun u => slice_block_head g T.length HTL.out u
  have HBT : Hid (Bs (v1.drew) (some ⟨g, 10, none⟩) T) := Lib.hid (by
    have := bs_take ha3.bs T.length
    rw [HTK.out] at this
    exact this)
  obtain ⟨A1, c1, rfl, -, -⟩ := HO1.out.formL HFL.out
  have HO2 : Hid (Ob 5 (v1.drew) W0.heap.size (.slice A1 72 c1) F1) := Lib.hid (by exact HO1.out)
  obtain ⟨L5, hL5⟩ : ∃ L, (F1 ++ T).length = L := ⟨_, rfl⟩
  obtain ⟨Z, hZ⟩ : ∃ Z, 128 - T.length = Z := ⟨_, rfl⟩
  have hLT : L5 = 72 + T.length := by rw [← hL5, List.length_append, HFL.out]
  rw [hZ] at HQ
  have tZ : IntKind.i64.wrap (200 - (L5 : Int)) = (Z : Int) := by rw [IntKind.wrap_i64]; have := HTL.out; omega
  have tZ2 : 200 - (L5 : Int) = (Z : Int) := by have := HTL.out; omega
  have hZl : L5 + Z ≤ 2147483648 := by have := HTL.out; omega
  have HZL := Lib.hid hZl
  have HL5 := Lib.hid hL5
  have hTl : F1.length + T.length ≤ 140737488355328 := by rw [HFL.out]; have := HTL.out; omega
  have HTL2 := Lib.hid hTl
  clear ha3 hb3 hL5 hZ hLT hZl hTl HO1 HB2 HBY HAP ha2 iS eS
  go_upto_region 3 with fail
  refine wp_region_still_tail 7 (by kernel_rfl) (by kernel_rfl) ?_
  simp only [List.take_succ_cons, List.take_zero, List.drop_succ_cons, List.drop_zero]
  iterate 5 still_step
  still_call (HHE.out)
  iterate 1 still_step
  refine wpStill_nil ?_
  go_wp2_with (first
    | (at_builtin; refine wpList_append_bs rfl (.tmp 17) (.tmp 23) 22 rfl W0.heap.size 5 Try.underlying22 info5 _ F1 rfl HO2.out _ T _ _ rfl rfl HBT.out HTL2.out HB3.out.size ?_; intro v5 w5 ho5 hgr5; have HB5 := Lib.hid (HB3.out.grown hgr5 HB3.out.size (fun k hk => HO2.out.fresh k (own_at hk))); obtain ⟨A5, c5, rfl, -, -⟩ := ho5.formL HL5.out; have HO5 := Lib.hid ho5; clear ho5 hgr5 HO2)
    | (at_builtin; refine wpList_append_zeros rfl (.tmp 25) (.tmp 28) rfl W0.heap.size _ _ rfl HO5.out Z rfl (by rw [HL5.out]; exact HZL.out) HB5.out.size ?_; intro v6 w6 ho6 hgr6; have HB6 := Lib.hid (HB5.out.grown hgr6 HB5.out.size (fun k hk => HO5.out.fresh k (own_at hk))); have HO6 := Lib.hid ho6; clear ho6 hgr6 HO5))
  go_ret
  exact Hpost.out _ _ _ HQ.out.symm HO6.out HB6.out

theorem rowsB_take (rows : BRow) (i : Nat) (r : Option Addr × List UInt8 × Nat) (h : rows[i]? = some r) : rowsB (rows.take (i + 1)) = rowsB (rows.take i) ++ r.2.1 := by
  unfold rowsB
  rw [List.take_add_one, h, List.flatMap_append]
  simp
theorem rowsB_le (rows : BRow) (i : Nat) (r : Option Addr × List UInt8 × Nat) (h : rows[i]? = some r) : (rowsB (rows.take i)).length + r.2.1.length ≤ (rowsB rows).length := by
  have e : rowsB rows = rowsB (rows.take (i + 1)) ++ rowsB (rows.drop (i + 1)) := by
    unfold rowsB
    rw [← List.flatMap_append, List.take_append_drop]
  rw [e, rowsB_take rows i r h]
  simp only [List.length_append]
  omega

/-- what stands where while a sum of rows is taken -/
structure OfP (W0 W : World) (gk g : Nat) (KK z : Array Value) (h : Sh) : Prop where
  ks : W.heap[gk]? = some (.cells KK 54 (0, 0))
  z : W.heap[W0.heap.size]? = some (.cells z 24 (0, 0))
  hs : HS W g h
  below : Below W0.heap.size W0 W
theorem OfP.only {W0 W W' : World} {gk g : Nat} {KK z : Array Value} {h h' : Sh} (o : OfP W0 W gk g KK z h) (hs : HS W' g h') (ho : Only (fun j => j = g) W W') (h1 : gk ≠ g) (h2 : W0.heap.size < g) : OfP W0 W' gk g KK z h' :=
  ⟨by rw [ho.block _ (Array.getElem?_eq_some_iff.1 o.ks).1 h1]; exact o.ks, by rw [ho.block _ (Array.getElem?_eq_some_iff.1 o.z).1 (by omega)]; exact o.z, hs, o.below.trans (ho.below o.below.size (fun k hk e => by omega))⟩

set_option maxHeartbeats 3200000 in
theorem hof_any (W0 : World) (P : Option Addr) (rows : BRow) (c : Nat) (hr : RowAt W0 P rows) (hc : rows.length ≤ c) (hn : rows.length ≤ 10) (hl : (rowsB rows).length ≤ 10000) :
    Calls Try.prog 10 #[.slice P rows.length c] W0 fun e w' => e = .returned (.agg (arrB (digest (rowsB rows)))) ∧ Below W0.heap.size W0 w' := by
  have hz := fun u => zero_arr 24 (arrB (List.replicate 64 0)) 64 (by kernel_rfl) u
  obtain ⟨z, hze⟩ : ∃ z, arrB (List.replicate 64 0) = z := ⟨_, rfl⟩
  have nz : z.size = 64 := by rw [← hze, arrB_size]; simp
  rw [hze] at hz
  have hz80 := fun u => zero_tabW 54 80 (by kernel_rfl) u
  obtain ⟨z80, hz80e⟩ : ∃ t, tabW (List.replicate 80 0) = t := ⟨_, rfl⟩
  have n80 : z80.size = 80 := by rw [← hz80e, tabW_size]; simp
  rw [hz80e] at hz80
  have HROW : Hid (∀ (i : Nat) (W : World), Below W0.heap.size W0 W → i < rows.length → ∃ b o A l c', P = some ⟨b, o, none⟩ ∧ rows[i]? = some (A, l, c') ∧ W.cell? ⟨b, o + i, none⟩ = some (.slice A l.length c') ∧ Bs W A l ∧ l.length ≤ c' ∧ (0 < l.length → ∀ j, At A j → j < W0.heap.size)) := Lib.hid fun i W hb hi => by
    obtain ⟨b, o, e, hcl⟩ := hr.cell (by omega)
    have hg : rows[i]? = some rows[i] := List.getElem?_eq_getElem hi
    obtain ⟨h1, h2⟩ := hr.row _ (List.mem_of_getElem? hg)
    refine ⟨b, o, rows[i].1, rows[i].2.1, rows[i].2.2, e, hg, ?_, h1.below hb, h2, fun hp j hj => bs_lt h1 hp hj⟩
    have hcc := hcl i _ hg
    rw [hb.cell (World.block_lt_of_cell? _ _ hcc)]
    exact hcc
  have hd : digest (rowsB rows) = (Sh.nil.add (rowsB rows)).sum := (sum_digest _).symm
  rw [hd]
  have hsl : ((Sh.nil.add (rowsB rows)).sum).length = 64 := bytesS_len _
  have HFI : Hid (∀ (W : World) (g : Nat), HS W g (Sh.nil.add (rowsB rows)) → Calls Try.prog 26 #[.pointer (some ⟨g, 0, none⟩), .agg (tabW ksL)] W fun e w' => e = .returned (.agg (arrB (Sh.nil.add (rowsB rows)).sum)) ∧ Only (fun j => j = g) W w') := Lib.hid fun W g hs => hfin_any W hs (by show 0 + (rowsB rows).length ≤ _; omega)
  obtain ⟨S, hS⟩ : ∃ S, arrB (Sh.nil.add (rowsB rows)).sum = S := ⟨_, rfl⟩
  have nS : S.size = 64 := by rw [← hS, arrB_size, hsl]
  have oS : S.all (·.oneCell') = true := by rw [← hS]; exact arrB_one _
  rw [hS] at HFI ⊢
  have iS : (Try.prog.info? 24).map (·.size) = some S.size := by rw [nS]; kernel_rfl
  have sS : z.size = S.size := by rw [nz, nS]
  have HRO := hrounds_any
  have HNW := Lib.hid fun W : World => hnew_any W
  have HTK : Hid (∀ (W : World) (g i : Nat) (A : Option Addr) (l : List UInt8) (c' : Nat), rows[i]? = some (A, l, c') → HS W g (Sh.nil.add (rowsB (rows.take i))) → Bs W A l → l.length ≤ c' → (0 < l.length → ∀ j, At A j → j ≠ g) →
      Calls Try.prog 25 #[.pointer (some ⟨g, 0, none⟩), .agg (tabW ksL), .slice A l.length c'] W fun e w' => e = .returned (.tuple #[]) ∧ HS w' g (Sh.nil.add (rowsB (rows.take (i + 1)))) ∧ Only (fun j => j = g) W w') := Lib.hid fun W g i A l c' hi hs hb hc ho => by
    have hle := rowsB_le rows i _ hi
    rw [rowsB_take rows i _ hi, ← Sh.add_add]
    refine htake_any W A l c' hs hb hc ho ?_ ?_
    · show 0 + (rowsB (rows.take i)).length + l.length ≤ _
      simp only at hle
      omega
    · simp only at hle
      omega
  obtain ⟨KK, hKK⟩ : ∃ K, tabW ksL = K := ⟨_, rfl⟩
  have nK : KK.size = 80 := by rw [← hKK, tabW_size]; simp [ksL]
  have oK : KK.all (·.oneCell') = true := by rw [← hKK]; exact tabW_one _
  have iK : (Try.prog.info? 54).map (·.size) = some KK.size := by rw [nK]; kernel_rfl
  have sK : z80.size = KK.size := by rw [n80, nK]
  rw [hKK] at HFI HRO HTK
  obtain ⟨N, hN⟩ : ∃ N, rows.length = N := ⟨_, rfl⟩
  rw [hN] at HROW ⊢
  have HALL : Hid (rows.take N = rows) := Lib.hid (by rw [← hN]; exact List.take_length)
  have hN10 : N ≤ 10 := by omega
  have HN10 := Lib.hid hN10
  have HADD0 : Hid (Sh.nil.add (rowsB (rows.take 0)) = Sh.nil) := Lib.hid (Sh.add_nil Sh.nil_ok)
  obtain ⟨W1, hW1⟩ : ∃ W1, W0.alloc (.cells z 24) = W1 := ⟨_, rfl⟩
  have hb1 : Below W0.heap.size W0 W1 := by rw [← hW1]; exact below_alloc (Below.refl _ _) _
  have hz1 : W1.heap[W0.heap.size]? = some (.cells z 24 (0, 0)) := by rw [← hW1]; exact heap_alloc_new _ _
  have HB1 := Lib.hid hb1
  have HZ1 := Lib.hid hz1
  have HW1 := Lib.hid hW1
  have HC := Lib.hid hc
  clear hr hc hn hl hze nz hz80e n80 hd hsl hS nS hKK nK hN hW1 hb1 hz1
  go_enter Try.func10, Try.ntmps10
  go_wp2_with fail
  rw [HW1.out]
  clear HW1
  with_reducible refine (HRO.out _).mono ?_
  rintro e w2 ⟨rfl, hb2⟩
  have h0 : (w2.alloc (.cells z80 54)).heap[w2.heap.size]? = some (.cells z80 54 (0, 0)) := heap_alloc_new _ _
  have HKR : Hid (((w2.alloc (.cells z80 54)).setRow w2.heap.size KK).heap[w2.heap.size]? = some (.cells KK 54 (0, 0))) := Lib.hid (setRow_heap _ _ _ _ _ _ h0)
  have HB3 : Hid (Below W1.heap.size W1 ((w2.alloc (.cells z80 54)).setRow w2.heap.size KK)) := Lib.hid (below_setRow (below_alloc hb2 _) hb2.size)
  have HGL : Hid (W1.heap.size ≤ w2.heap.size) := Lib.hid hb2.size
  obtain ⟨gk, hgk⟩ : ∃ gk, w2.heap.size = gk := ⟨_, rfl⟩
  rw [hgk] at h0 HKR HB3 HGL
  have HGK := Lib.hid hgk
  clear hb2 HRO hgk
  go_wp2_with (refine wpList_store_row rfl 54 (.tmp 3) (.tmp 7) rfl gk KK (by rw [← HGK.out]; rfl) rfl 54 z80 h0 iK sK oK ?_)
  (try rw [HGK.out])
  clear h0 oK sK
  obtain ⟨W3, hW3⟩ : ∃ W3, (w2.alloc (.cells z80 54)).setRow gk KK = W3 := ⟨_, rfl⟩
  rw [hW3] at HKR HB3
  rw [hW3]
  clear hW3 HGK
  with_reducible refine (HNW.out _).mono ?_
  rintro e w4 ⟨g, rfl, hs4, hg4, hb4⟩
  have hlt0 : W0.heap.size < W1.heap.size := (Array.getElem?_eq_some_iff.1 HZ1.out).1
  have hk3 : gk < W3.heap.size := (Array.getElem?_eq_some_iff.1 HKR.out).1
  have HNE : Hid (gk ≠ g ∧ W0.heap.size < g) := Lib.hid ⟨by omega, by have := HGL.out; omega⟩
  have HOP : Hid (OfP W0 w4 gk g KK z (Sh.nil.add (rowsB (rows.take 0)))) := Lib.hid (by
    rw [HADD0.out]
    refine ⟨by rw [hb4.block _ hk3]; exact HKR.out, ?_, hs4, (below_next (below_next HB1.out HB3.out) hb4)⟩
    rw [hb4.block _ (by have := HGL.out; omega), HB3.out.block _ hlt0]
    exact HZ1.out)
  clear hs4 hg4 hb4 HNW HKR HB3 HGL hlt0 hk3 HB1 HZ1 HADD0
  go_wp2_with fail
  go_loopw [11] (fun i wr => ∃ k : Nat, k ≤ N ∧ i = .int .i64 (k : Int) ∧ Hid (OfP W0 wr gk g KK z (Sh.nil.add (rowsB (rows.take k))))) (fun i _ => N - (intOf i).toNat)
  case atStart => exact ⟨0, by omega, rfl, HOP⟩
  case round =>
    clear HOP
    obtain ⟨k, hk, rfl, HOP⟩ := hrel
    have hN10 := HN10.out
    by_cases hlt : k < N
    · obtain ⟨b, o, A, l, c', rfl, hri, hcell, hbs, hlc, hfar⟩ := HROW.out k wr HOP.out.below hlt
      have hks := HOP.out.ks
      have HT := Lib.hid (HTK.out wr g k A l c' hri HOP.out.hs hbs hlc (fun hp j hj e => by have := hfar hp j hj; have := HNE.out.2; omega))
      have HEND : Hid (∀ w', HS w' g (Sh.nil.add (rowsB (rows.take (k + 1)))) → Only (fun j => j = g) wr w' → OfP W0 w' gk g KK z (Sh.nil.add (rowsB (rows.take (k + 1))))) := Lib.hid fun w' h1 h2 => HOP.out.only h1 h2 HNE.out.1 HNE.out.2
      have p1 : (k : Int) < (N : Int) := by omega
      have p2 : 0 ≤ (k : Int) := by omega
      have e1 : (o : Int) + (k : Int) = ((o + k : Nat) : Int) := by omega
      obtain ⟨L, hL⟩ : ∃ L, l.length = L := ⟨_, rfl⟩
      rw [hL] at hcell HT
      have HLT := Lib.hid hlt
      clear hri hbs hlc hfar hL HOP hlt
      go_wp2_with (refine wpList_load_row rfl 54 (.tmp 3) rfl gk rfl 54 KK (0, 0) _ hks Try.underlying54 rfl iK ?_)
      with_reducible refine HT.out.mono ?_
      rintro e w5 ⟨rfl, hs5, ho5⟩
      have HE := Lib.hid (HEND.out _ hs5 ho5)
      clear hs5 ho5 HT HEND hks
      go_wp2_with fail
      go_roundw
      case rel => exact ⟨k + 1, by have := HLT.out; omega, by go_num, HE⟩
      case measure => simp [intOf]; have := HLT.out; omega
    · obtain rfl : k = N := by omega
      have HP2 : Hid (OfP W0 wr gk g KK z (Sh.nil.add (rowsB rows))) := Lib.hid (by have := HOP.out; rwa [HALL.out] at this)
      have hks := HP2.out.ks
      have HF := Lib.hid (HFI.out wr g HP2.out.hs)
      clear HOP
      go_wp2_with (refine wpList_load_row rfl 54 (.tmp 3) rfl gk rfl 54 KK (0, 0) _ hks Try.underlying54 rfl iK ?_)
      with_reducible refine HF.out.mono ?_
      rintro e w6 ⟨rfl, ho6⟩
      have hz6 : w6.heap[W0.heap.size]? = some (.cells z 24 (0, 0)) := by rw [ho6.block _ (Array.getElem?_eq_some_iff.1 HP2.out.z).1 (by have := HNE.out.2; omega)]; exact HP2.out.z
      have HE : Hid (Below W0.heap.size W0 (w6.setRow W0.heap.size S)) := Lib.hid (below_setRow (HP2.out.below.trans (ho6.below HP2.out.below.size (fun k hk e => by have := HNE.out.2; omega))) (Nat.le_refl _))
      clear ho6 HP2 HF hks
      go_wp2_with (refine wpList_store_row rfl 24 (.tmp 2) (.tmp 22) rfl W0.heap.size S rfl rfl 24 z hz6 iS sS oS ?_)
      (try simp only [Exit.inBlock, Exit.then])
      refine bodyPost_ret (results_cell_row rfl _ _ W0.heap.size _ S _ _ rfl (setRow_heap w6 _ _ _ _ _ hz6) Try.underlying24 rfl iS) rfl ?_
      exact ⟨rfl, HE.out⟩
end Go.Proofs.Ytbkcglfdliicpaa

