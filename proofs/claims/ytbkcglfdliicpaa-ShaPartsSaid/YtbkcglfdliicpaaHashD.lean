/- The contract of the developers' finish. -/
import Derived.Test.YtbkcglfdliicpaaHashC
namespace Go.Proofs.Ytbkcglfdliicpaa
open Go.RowKit
set_option linter.unusedVariables false
set_option maxRecDepth 100000

theorem bs_range {W : World} {g o : Nat} {l : List UInt8} (h : Bs W (some ⟨g, o, none⟩) l) : W.rangeAt g o (l.map bval) := fun j v hj => by
  have hl : j < l.length := by
    rcases Nat.lt_or_ge j l.length with h | h
    · exact h
    · rw [List.getElem?_eq_none (by simpa using h)] at hj; cases hj
  obtain ⟨b, o', e, hc⟩ := h (by omega)
  injection e with e
  injection e with e1 e2
  subst e1
  subst e2
  rw [hc j hl]
  rw [List.getElem?_map, List.getElem?_eq_getElem hl] at hj
  simp at hj
  subst hj
  simp [bval, List.getD, List.getElem?_eq_getElem hl]
theorem only_rowAt {F : Nat → Prop} {W W' : World} {g : Nat} {cs : Array Value} (h : Only F W W') (hg : W.heap.size ≤ g) : Only F W (W'.setRow g cs) :=
  ⟨h.os, h.tape, h.output, by simpa using h.size, fun j hj hn => by rw [setRow_other _ _ _ _ (by omega)]; exact h.block j hj hn⟩
theorem array_at (g c : Nat) (u : World) : (Instr.arrayAt 24 (.slice (some ⟨g, 0, none⟩) 64 c)).run Try.prog u = .ok (.pointer (some ⟨g, 0, none⟩)) u := by
  have hu : Try.prog.underlying 24 = some (.array 64 5) := by kernel_rfl
  simp [Instr.arrayAt, run_underlying hu]

/-- what stands where while it is finished -/
structure FinP (W : World) (gk gz : Nat) (KK z : Array Value) : Prop where
  ks : W.heap[gk]? = some (.cells KK 54 (0, 0))
  z : W.heap[gz]? = some (.cells z 24 (0, 0))
theorem FinP.only {W W' : World} {gk gz : Nat} {KK z : Array Value} {F : Nat → Prop} (h : FinP W gk gz KK z) (ho : Only F W W') (h1 : ¬ F gk) (h2 : ¬ F gz) : FinP W' gk gz KK z :=
  ⟨by rw [ho.block _ (Array.getElem?_eq_some_iff.1 h.ks).1 h1]; exact h.ks, by rw [ho.block _ (Array.getElem?_eq_some_iff.1 h.z).1 h2]; exact h.z⟩

set_option maxHeartbeats 3200000 in
theorem hfin_any {g : Nat} {h : Sh} (W : World) (hs : HS W g h) (hn : h.n ≤ 1152921504606866976) :
    Calls Try.prog 26 #[.pointer (some ⟨g, 0, none⟩), .agg (tabW ksL)] W fun e w' => e = .returned (.agg (arrB h.sum)) ∧ Only (fun j => j = g) W w' := by
  have hz := fun u => zero_arr 24 (arrB (List.replicate 64 0)) 64 (by kernel_rfl) u
  obtain ⟨z, hze⟩ : ∃ z, arrB (List.replicate 64 0) = z := ⟨_, rfl⟩
  have nz : z.size = 64 := by rw [← hze, arrB_size]; simp
  rw [hze] at hz
  have HPD : Hid (∀ W : World, Calls Try.prog 44 #[.int .u64 (h.n : Int)] W (RetOb 5 W (padB h.n))) := Lib.hid fun W => hpad_any h.n W hn
  have hpl : (padB h.n).length ≤ 300 := by simp [padB, hiB_len]; omega
  obtain ⟨L, hL⟩ : ∃ L, (padB h.n).length = L := ⟨_, rfl⟩
  have HTK : Hid (∀ (W : World) (A : Option Addr) (c : Nat), HS W g h → Bs W A (padB h.n) → L ≤ c → (∀ j, At A j → j ≠ g) → Calls Try.prog 25 #[.pointer (some ⟨g, 0, none⟩), .agg (tabW ksL), .slice A L c] W fun e w' => e = .returned (.tuple #[]) ∧ HS w' g (h.add (padB h.n)) ∧ Only (fun j => j = g) W w') :=
    Lib.hid fun W A c h1 h2 h3 h4 => by rw [← hL] at h3 ⊢; exact htake_any W A (padB h.n) c h1 h2 h3 (fun _ => h4) (by omega) (by omega)
  have hsum : h.sum = bytesS (h.add (padB h.n)).s := rfl
  obtain ⟨s2, hs2⟩ : ∃ s, (h.add (padB h.n)).s = s := ⟨_, rfl⟩
  rw [hsum, hs2]
  have HS2 : Hid (∀ W : World, HS W g (h.add (padB h.n)) → ∃ n k, HA W g true s2 n k) := Lib.hid fun W hh => by
    obtain ⟨_, k, ha, _⟩ := hh
    rw [hs2] at ha
    exact ⟨_, k, ha⟩
  have HBY := Lib.hid fun W : World => hbytes_any s2 W
  obtain ⟨B, hB⟩ : ∃ B, bytesS s2 = B := ⟨_, rfl⟩
  have hBl : B.length = 64 := by rw [← hB, bytesS_len]
  rw [hB] at HBY
  rw [hB]
  obtain ⟨pd, hpd⟩ : ∃ pd, padB h.n = pd := ⟨_, rfl⟩
  rw [hpd] at HPD HTK HS2 hL
  obtain ⟨n, hnn⟩ : ∃ n, h.n = n := ⟨_, rfl⟩
  rw [hnn] at HPD
  obtain ⟨KK, hKK⟩ : ∃ K, tabW ksL = K := ⟨_, rfl⟩
  have nK : KK.size = 80 := by rw [← hKK, tabW_size]; simp [ksL]
  have iK : (Try.prog.info? 54).map (·.size) = some KK.size := by rw [nK]; kernel_rfl
  rw [hKK] at HTK ⊢
  obtain ⟨W1, hW1⟩ : ∃ W1, (W.alloc (.cells KK 54)).alloc (.cells z 24) = W1 := ⟨_, rfl⟩
  obtain ⟨gk, hgk⟩ : ∃ gk, W.heap.size = gk := ⟨_, rfl⟩
  have hb1 : Below W.heap.size W W1 := by rw [← hW1]; exact below_alloc (below_alloc (Below.refl _ _) _) _
  have hlt : g < gk := by rw [← hgk]; exact hs.lt
  have hf1 : FinP W1 gk (gk + 1) KK z := ⟨by rw [← hW1, ← hgk]; exact heap_alloc2_old _ _ _, by rw [← hW1, ← hgk]; exact heap_alloc2_new _ _ _⟩
  have hs1 : HS W1.drew g h := (hs.next hb1).only (Q := fun _ => False) ((Only.refl _ _).drew) (fun h => h)
  have ho1 : Only (fun j => j = g) W W1.drew := (Only.of_below hb1).drew
  have HW1 := Lib.hid hW1
  have hc : W1.drew.cell? ⟨g, 9, none⟩ = some (.int .u64 (n : Int)) := by obtain ⟨_, k, ha, _⟩ := hs1; rw [← hnn]; exact ha.cn
  have HO1 := Lib.hid ho1
  have HLT := Lib.hid hlt
  have HBL := Lib.hid hBl
  have HNZ := Lib.hid nz
  have HSS := Lib.hid hs1
  have HL := Lib.hid hL
  have HF1 := Lib.hid hf1
  have HGK := Lib.hid hgk
  have HPL : Hid (0 < L) := Lib.hid (by rw [← hL, ← hpd]; simp [padB])
  clear hze hpl hsum hs2 hB hpd hnn hKK hW1 hb1 hs hn hs1 ho1 hBl nz nK hL hlt hf1
  go_enter Try.func26, Try.ntmps26
  go_upto_region 1 with fail
  (try rw [HGK.out])
  (try rw [HGK.out] at HW1)
  rw [HW1.out]
  clear HW1 hgk
  refine wp_region_noPanic ?_
  refine wp_region_held_drew (S := fun W => FinP W gk (gk + 1) KK z) (by kernel_rfl) (by exact HF1.out.only (F := fun _ => False) ((Only.refl _ _).drew) (fun h => h) (fun h => h)) (fun hS => ?_)
  refine' take_at 0 rfl (by kernel_rfl) (by kernel_rfl) (by kernel_rfl) (fun _ _ _ h => h) (by rfl) hS ?_ ?_ ?_
  rotate_left 2
  · intro W hSW; go_simp; try with_reducible rfl
  · simp only [List.set_cons_succ, List.set_cons_zero]; rfl
  refine' take_at 1 rfl (by kernel_rfl) (by kernel_rfl) (by kernel_rfl) (fun _ _ _ h => h) (by rfl) hS ?_ ?_ ?_
  rotate_left 2
  · intro W hSW; exact run_load_row rfl rfl hSW.ks Try.underlying54 rfl iK
  · simp only [List.set_cons_succ, List.set_cons_zero]; rfl
  refine' take_at 2 rfl (by kernel_rfl) (by kernel_rfl) (by kernel_rfl) (fun _ _ _ h => h) (by rfl) hS ?_ ?_ ?_
  rotate_left 2
  · intro W hSW; go_simp; try with_reducible rfl
  · simp only [List.set_cons_succ, List.set_cons_zero]; rfl
  refine' take_at 3 rfl (by kernel_rfl) (by kernel_rfl) (by kernel_rfl) (fun _ _ _ h => h) (by rfl) hS ?_ ?_ ?_
  rotate_left 2
  · intro W hSW; go_simp; try with_reducible rfl
  · simp only [List.set_cons_succ, List.set_cons_zero]; rfl
  refine' take_at 4 rfl (by kernel_rfl) (by kernel_rfl) (by kernel_rfl) (fun _ _ _ h => h) (by rfl) hS ?_ ?_ ?_
  rotate_left 2
  · intro W hSW; go_simp; try with_reducible rfl
  · simp only [List.set_cons_succ, List.set_cons_zero]; rfl
  refine call_at 5 rfl (by kernel_rfl) (by rfl) (fun K hK => ?_)
  go_simp
  refine hK.out _ _ (by exact hS) (fun hS => ?_)
  clear hK K
  refine call_at 6 rfl (by kernel_rfl) (by rfl) (fun K hK => ?_)
  go_simp
  with_reducible refine (HPD.out _).mono ?_
  rintro e v0 ⟨v, rfl, ho0, hb0⟩
  obtain ⟨A0, c0, rfl, hbs0, hc0⟩ := ho0.formL HL.out
  have kb0 := hS.only (F := fun _ => False) (Only.of_below hb0) (fun h => h) (fun h => h)
  have hs0 := HSS.out.next hb0
  have hoff : ∀ j, At A0 j → j ≠ g := fun j hj e => by have := ho0.fresh j hj; have := HSS.out.lt; omega
  have HK := Lib.hid (HTK.out v0 A0 c0 hs0 hbs0 hc0 hoff)
  have HO0 := Lib.hid (HO1.out.trans (Only.of_below hb0))
  clear hS hb0 ho0 hbs0 hs0 hoff HTK
  refine hK.out _ _ (by exact kb0) (fun hS => ?_)
  clear hK K
  refine call_at 7 rfl (by kernel_rfl) (by rfl) (fun K hK => ?_)
  go_simp
  with_reducible refine HK.out.mono ?_
  rintro e v1 ⟨rfl, hs1, ho1⟩
  have kb1 := kb0.only ho1 (by have := HLT.out; omega) (by have := HLT.out; omega)
  have HO2 := Lib.hid (HO0.out.trans ho1)
  have HS3 := Lib.hid (HS2.out _ hs1)
  clear hS hs1 ho1
  refine hK.out _ _ (by exact kb1) (fun hS => ?_)
  clear hK K
  refine wpAnyH_done (by kernel_rfl) ?_ _
  refine NoPanic.normal ?_
  clear hS kb0 HK HO0 HS2 hc
  obtain ⟨n3, k3, ha3⟩ := HS3.out
  have iS : (Try.prog.info? 49).map (·.size) = some (s2.l.map wv).length := by rw [List.length_map, St.len]; kernel_rfl
  have hcs := ha3.cs
  have eS : (s2.l.map wv).toArray = tabW s2.l := rfl
  clear HS3 ha3 HPD HSS
  go_wp2_with (refine wpList_load_mid rfl 49 (.tmp 15) rfl g 1 rfl (s2.l.map wv) _ hcs Try.underlying49 rfl iS ?_)
  (try rw [eS])
  with_reducible refine (HBY.out _).mono ?_
  rintro e v2 ⟨w2, rfl, ho2, hb2⟩
  obtain ⟨g2, c2, rfl, hbs2, -, -⟩ := ho2.formN HBL.out (by omega)
  have hrg := bs_range hbs2
  have hap := fun u => array_at g2 c2 u
  have iB : (Try.prog.info? 24).map (·.size) = some (B.map bval).length := by rw [List.length_map, HBL.out]; kernel_rfl
  have eB : (B.map bval).toArray = arrB B := rfl
  have iB2 : (Try.prog.info? 24).map (·.size) = some (arrB B).size := by rw [arrB_size, HBL.out]; kernel_rfl
  have oB := arrB_one B
  have sB : z.size = (arrB B).size := by rw [arrB_size, HBL.out, HNZ.out]
  have kb2 := kb1.only (F := fun _ => False) (Only.of_below hb2) (fun h => h) (fun h => h)
  have hz2 := kb2.z
  have HO3 := Lib.hid (only_rowAt (cs := arrB B) (HO2.out.trans (Only.of_below hb2)) (show W.heap.size ≤ gk + 1 by have := HGK.out; omega))
  clear kb1 kb2 hb2 ho2 hbs2 HO2 HBY hcs eS iS
  obtain ⟨L2, hL2⟩ : ∃ L2, B.map bval = L2 := ⟨_, rfl⟩
  rw [hL2] at eB hrg iB
  rw [← eB] at iB2 oB sB HO3
  have HE := Lib.hid eB
  clear eB hL2
  go_wp2_with (first
    | (refine wpList_load_mid rfl 24 (.tmp 18) rfl g2 0 rfl L2 _ hrg Try.underlying24 rfl iB ?_)
    | (refine wpList_store_row rfl 24 (.tmp 4) (.tmp 19) rfl (gk + 1) L2.toArray rfl rfl 24 z hz2 iB2 sB oB ?_))
  (try simp only [Exit.inBlock, Exit.then])
  refine bodyPost_ret (results_cell_row rfl _ _ (gk + 1) _ L2.toArray _ _ rfl (setRow_heap v2 _ _ _ _ _ hz2) Try.underlying24 rfl iB2) rfl ?_
  exact ⟨by rw [HE.out], HO3.out⟩
end Go.Proofs.Ytbkcglfdliicpaa

