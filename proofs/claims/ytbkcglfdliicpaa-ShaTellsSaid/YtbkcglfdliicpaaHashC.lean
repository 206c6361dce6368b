/- The contracts of the developers' take and finish. -/
import Derived.Test.YtbkcglfdliicpaaHashB
namespace Go.Proofs.Ytbkcglfdliicpaa
open Go.RowKit
set_option linter.unusedVariables false
set_option maxRecDepth 100000

theorem run_load_range {P : Program} {ρ : Operand → Value} {o : Oper} {w : World} {ty : TypeId} {x : Operand} (ho : o.op = .load ty x) {b i : Nat} (hx : ρ x = .pointer (some ⟨b, i, none⟩)) {cs : List Value} {d : TypeDesc} (hc : w.rangeAt b i cs)
    (hu : P.underlying ty = some d) (hd : d.isRow = true) (hi : (P.info? ty).map (·.size) = some cs.length) :
    (execOp ρ o).run P w = .ok (.value (.agg cs.toArray)) w := by
  unfold execOp
  simp only [ho, hx, Instr.loadAt, Instr.sureAddr, Sem.run_bind, Sem.run_pure, Result.andThen_ok, run_loadVar_mid w b i ty cs d hc hu hd hi]

/-- what stands where while a block is turned -/
structure TakeP (W0 W : World) (g gk gm : Nat) (KK MM : Array Value) (s : St) (n : Nat) (k : List UInt8) : Prop where
  ks : W.heap[gk]? = some (.cells KK 54 (0, 0))
  ms : W.heap[gm]? = some (.cells MM 64 (0, 0))
  ha : HA W g true s n k
  only : Only (fun j => j = g) W0 W
theorem TakeP.call {W0 W W' : World} {g gk gm : Nat} {KK MM : Array Value} {s : St} {n : Nat} {k : List UInt8} (h : TakeP W0 W g gk gm KK MM s n k) (hb : Below W.heap.size W W') : TakeP W0 W' g gk gm KK MM s n k :=
  ⟨by rw [hb.block _ (Array.getElem?_eq_some_iff.1 h.ks).1]; exact h.ks, by rw [hb.block _ (Array.getElem?_eq_some_iff.1 h.ms).1]; exact h.ms, h.ha.next hb, h.only.trans (Only.of_below hb)⟩
theorem TakeP.drew {W0 W : World} {g gk gm : Nat} {KK MM : Array Value} {s : St} {n : Nat} {k : List UInt8} (h : TakeP W0 W g gk gm KK MM s n k) : TakeP W0 W.drew g gk gm KK MM s n k :=
  ⟨h.ks, h.ms, h.ha.drew, h.only.drew⟩

set_option maxHeartbeats 6400000 in
theorem htake_any {g : Nat} {h : Sh} (W : World) (A : Option Addr) (l : List UInt8) (c : Nat) (hs : HS W g h) (hb : Bs W A l) (hc : l.length ≤ c) (hoff : 0 < l.length → ∀ j, At A j → j ≠ g) (hn : h.n + l.length ≤ 2305843009213693952) (hl : l.length ≤ 100000) :
    Calls Try.prog 25 #[.pointer (some ⟨g, 0, none⟩), .agg (tabW ksL), .slice A l.length c] W fun e w' => e = .returned (.tuple #[]) ∧ HS w' g (h.add l) ∧ Only (fun j => j = g) W w' := by
  have hz := fun u => zero_tabW 64 16 (by kernel_rfl) u
  obtain ⟨z16, hz16⟩ : ∃ z, tabW (List.replicate 16 0) = z := ⟨_, rfl⟩
  have n16 : z16.size = 16 := by rw [← hz16, tabW_size]; simp
  rw [hz16] at hz
  have HPW := Lib.hid (fun (s : St) (m : List W64) (hm : m.length = 16) => pwith_any ksL (by simp [ksL]) s m hm)
  obtain ⟨KK, hKK⟩ : ∃ z, tabW ksL = z := ⟨_, rfl⟩
  have nK : KK.size = 80 := by rw [← hKK, tabW_size]; simp [ksL]
  have iK : (Try.prog.info? 54).map (·.size) = some KK.size := by rw [nK]; kernel_rfl
  rw [hKK] at HPW ⊢
  have HWD : Hid (∀ (W : World) (kk : List UInt8), kk.length = 128 → Bs W (some ⟨g, 10, none⟩) kk → Calls Try.prog 36 #[.slice (some ⟨g, 10, none⟩) 128 128] W fun e w' => e = .returned (.tuple #[.agg (tabW (wordsL kk)), .bool true]) ∧ Below W.heap.size W w') := Lib.hid fun W kk hk hb => by
    have := pwords_any (some ⟨g, 10, none⟩) kk 128 W hb
    unfold wordsV at this
    rw [if_pos hk, hk] at this
    exact this
  obtain ⟨W1, hW1⟩ : ∃ W1, W.alloc (.cells KK 54) = W1 := ⟨_, rfl⟩
  obtain ⟨gk, hgk⟩ : ∃ gk, W.heap.size = gk := ⟨_, rfl⟩
  have hgg : g < gk := by rw [← hgk]; exact hs.lt
  have hkr : W1.heap[gk]? = some (.cells KK 54 (0, 0)) := by rw [← hW1, ← hgk]; exact heap_alloc_new _ _
  have ho1 : Only (fun j => j = g) W W1 := by rw [← hW1]; exact (Only.refl _ _).alloc _
  have hs1 : HS W1 g h := hs.next (by rw [← hW1]; exact below_alloc (Below.refl _ _) _)
  have hb1 : Bs W1 A l := by rw [← hW1]; exact hb.below (below_alloc (Below.refl _ _) _)
  have HKR := Lib.hid hkr
  have HO1 := Lib.hid ho1
  have HB1 := Lib.hid hb1
  have HOFF := Lib.hid hoff
  have HNN := Lib.hid hn
  have HLL := Lib.hid hl
  have HCC := Lib.hid hc
  have HGG := Lib.hid hgg
  have HW1 := Lib.hid hW1
  obtain ⟨LL, hLL⟩ : ∃ n, l.length = n := ⟨_, rfl⟩
  have HLN := Lib.hid hLL
  rw [hLL]
  have HS1 : Hid (HS W1 g (h.add (l.take 0))) := Lib.hid (by rw [List.take_zero, Sh.add_nil hs1.1]; exact hs1)
  have HSL : Hid (∀ (A : Option Addr) (W : World) (l : List UInt8) (c L : Nat), Bs W A l → L ≤ c → l.length = L → ∀ (m : Nat), m ≤ L → ∃ A', Bs W A' (l.drop m) ∧ (∀ k, At A' k → At A k) ∧ ∀ (u : World),
    (Instr.slice 22 (.slice A L c) (some (.int .i64 (m : Int))) none none).run Try.prog u = .ok (.slice A' (L - m) (c - m)) u) := Lib.hid (fun A W l c L hb hc hL m hm => by
      subst hL
      obtain ⟨A', h1, h2, h3⟩ := sl_tail A W l hb c hc m hm .i64
      exact ⟨A', h1, h2, fun u => h3 _ rfl u⟩)
  clear hz16 hKK nK hkr ho1 hs1 hb1 hb hoff hn hl hc hgg hW1 hs hLL
  go_enter Try.func25, Try.ntmps25
  go_wp2_with fail
  rw [HW1.out]
  (try rw [hgk])
  clear HW1 hgk
  go_loopw [2] (fun v wr => ∃ j L c' : Nat, j + L = LL ∧ L ≤ c' ∧ ∃ A', v = .slice A' L c' ∧ Hid (Bs wr A' (l.drop j)) ∧ Hid (∀ i, At A' i → At A i) ∧ Hid (HS wr g (h.add (l.take j))) ∧ Hid (Only (fun j => j = g) W1 wr)) (fun v _ => sLen v)
  case atStart => exact ⟨0, LL, c, by omega, by have := HCC.out; have := HLN.out; omega, A, rfl, HB1, Lib.hid (fun i h => h), HS1, Lib.hid (Only.refl _ _)⟩
  case round =>
    clear HS1
    obtain ⟨j, L, c', hj, hLc, A', rfl, HBL, HAT, HSS, HON⟩ := hrel
    by_cases hpos : 0 < L
    · obtain ⟨hok, k, ha, ht⟩ := HSS.out
      obtain ⟨H, hH⟩ : ∃ H, h.add (l.take j) = H := ⟨_, rfl⟩
      have hHn : H.n = h.n + j := by
        rw [← hH]
        show h.n + (l.take j).length = _
        rw [List.length_take]
        have := HLN.out
        omega
      rw [hH] at hok ha ht
      have hLd : (l.drop j).length = L := by rw [List.length_drop]; have := HLN.out; omega
      have hHn2 : H.n + L ≤ 2305843009213693952 := by have := HNN.out; have := HLN.out; omega
      have hL5 : L ≤ 100000 := by have := HLL.out; have := HLN.out; omega
      have hh := hhold_any wr A' (l.drop j) c' ha HBL.out (by omega) (by omega)
      rw [hLd] at hh
      have hadd : ∀ m, h.add (l.take (j + m)) = H.add ((l.drop j).take m) := fun m => by rw [← hH, Sh.add_add, ← List.take_add]
      have hdrop : ∀ m, l.drop (j + m) = (l.drop j).drop m := fun m => by rw [List.drop_drop]
      obtain ⟨R, hR⟩ : ∃ R, l.drop j = R := ⟨_, rfl⟩
      rw [hR] at hh hadd hdrop hLd HBL
      have hlt : ¬ (L : Int) ≤ 0 := by omega
      have hlt' : (0 : Int) < (L : Int) := by omega
      by_cases hfull : H.n % 128 + L < 128
      · obtain ⟨hm, e1, e2, e3⟩ := hold_short R hok ha.len ht (by rw [hLd]; exact hfull)
        rw [hLd] at hm e2 e3
        rw [hm] at hh
        obtain ⟨Ax, hx1, hx2, hx3⟩ := HSL.out A' wr R c' L HBL.out (by omega) hLd L (by omega)
        rw [Nat.sub_self] at hx3
        have hr0 : ¬ ((H.n + L) % 128 = 0) := by omega
        have HH2 := Lib.hid hh
        have HHE : Hid (∀ W : World, HA W g true H.s (H.n + L) (heldK H.n k R) → Calls Try.prog 35 #[.pointer (some ⟨g, 0, none⟩)] W fun e w' => e = .returned (.int .i64 (((H.n + L) % 128 : Nat) : Int)) ∧ w' = W) := Lib.hid (fun W ha => hheld_any W ha (by omega))
        have HEND : Hid (∀ w2, HA w2 g true H.s (H.n + L) (heldK H.n k R) → Only (fun j => j = g) wr w2 → Hid (Bs w2 Ax (l.drop (j + L))) ∧ Hid (HS w2 g (h.add (l.take (j + L)))) ∧ Hid (Only (fun j => j = g) W1 w2)) := Lib.hid (fun w2 h1 h2 => by
          have hz : R.drop L = [] := List.drop_eq_nil_of_le (by omega)
          refine ⟨Lib.hid (by rw [hdrop, hz]; exact Bs.nil_ _ _), Lib.hid ?_, Lib.hid (HON.out.trans h2)⟩
          have e : h.add (l.take (j + L)) = H.add R := by rw [hadd, List.take_of_length_le (by omega)]
          rw [e]
          exact ⟨Sh.add_ok hok R, _, by rw [e1, e2]; exact h1, by rw [e2]; exact e3⟩)
        have HX2 : Hid (∀ i, At Ax i → At A i) := Lib.hid (fun i hi => HAT.out i (hx2 i hi))
        obtain ⟨r, hr⟩ : ∃ r, (H.n + L) % 128 = r := ⟨_, rfl⟩
        rw [hr] at hr0 HHE
        have hri : ¬ (r : Int) = 0 := by omega
        have HJ := Lib.hid hj
        clear hok ha ht hH hHn hLd hHn2 hL5 hh hadd hdrop hR hfull hm e1 e2 e3 hx1 hx2 hr0 hr HBL HAT HSS HON hj
        go_wp2_with fail
        with_reducible refine HH2.out.mono ?_
        rintro e w2 ⟨rfl, ha2, ho2⟩
        have HE2 := Lib.hid (HEND.out w2 ha2 ho2)
        have HHF := Lib.hid (HHE.out w2 ha2)
        clear ha2 ho2 HEND HHE HH2
        go_wp2_with fail
        with_reducible refine HHF.out.mono ?_
        rintro e w3 ⟨rfl, hw3⟩
        subst hw3
        clear HHF
        go_wp2_with fail
        go_roundw
        case rel => exact ⟨j + L, 0, c' - L, by have := HJ.out; omega, by omega, Ax, rfl, HE2.out.1, HX2, HE2.out.2.1, HE2.out.2.2⟩
        case measure => simp [sLen]; omega
      · obtain ⟨hm, e1, e2⟩ := hold_full R hok ha.len ht (by rw [hLd]; omega)
        rw [hm] at hh
        have hkl := heldK_len (n := H.n) (k := k) R ha.len
        rw [← e1] at e2
        obtain ⟨m, hmm⟩ : ∃ m, 128 - H.n % 128 = m := ⟨_, rfl⟩
        rw [hmm] at hh e2
        have hm1 : 0 < m := by omega
        have hmL : m ≤ L := by omega
        obtain ⟨Ax, hx1, hx2, hx3⟩ := HSL.out A' wr R c' L HBL.out (by omega) hLd m hmL
        have hr0 : (H.n + m) % 128 = 0 := by omega
        obtain ⟨kk, hkk⟩ : ∃ kk, heldK H.n k R = kk := ⟨_, rfl⟩
        rw [hkk] at hh e2 hkl
        have HH2 := Lib.hid hh
        have HHE : Hid (∀ W : World, HA W g true H.s (H.n + m) kk → Calls Try.prog 35 #[.pointer (some ⟨g, 0, none⟩)] W fun e w' => e = .returned (.int .i64 0) ∧ w' = W) := Lib.hid (fun W ha => by
          have := hheld_any W ha (by omega)
          rwa [hr0] at this)
        have hSLN : (wordsL kk).length = 16 := wordsTo_len _ _
        obtain ⟨s2, hs2⟩ : ∃ s2, stepW ksL H.s (wordsL kk) = s2 := ⟨_, rfl⟩
        have HSW : Hid (∀ W : World, Calls Try.prog 43 #[.agg KK, .agg (tabW H.s.l), .agg (tabW (wordsL kk))] W fun e w' => e = .returned (.agg (tabW s2.l)) ∧ Below W.heap.size W w') := Lib.hid (by rw [← hs2]; exact fun W => HPW.out H.s (wordsL kk) hSLN W)
        have HEND : Hid (∀ w2, HA w2 g true s2 (H.n + m) kk → Only (fun j => j = g) wr w2 → Hid (Bs w2 Ax (l.drop (j + m))) ∧ Hid (HS w2 g (h.add (l.take (j + m)))) ∧ Hid (Only (fun j => j = g) W1 w2)) := Lib.hid (fun w2 h1 h2 => by
          refine ⟨Lib.hid ?_, Lib.hid ?_, Lib.hid (HON.out.trans h2)⟩
          · rw [hdrop]
            refine hx1.only h2 (fun i hi e => ?_)
            exact HOFF.out (by have := HLN.out; omega) i (HAT.out i (hx2 i hi)) e
          · rw [hadd, e2, hs2]
            exact ⟨by unfold Sh.ok; simp only [List.length_nil]; omega, kk, h1, by simp only; rw [hr0]; rfl⟩)
        have HX2 : Hid (∀ i, At Ax i → At A i) := Lib.hid (fun i hi => HAT.out i (hx2 i hi))
        have HWD2 : Hid (∀ W : World, HA W g true H.s (H.n + m) kk → Calls Try.prog 36 #[.slice (some ⟨g, 10, none⟩) 128 128] W fun e w' => e = .returned (.tuple #[.agg (tabW (wordsL kk)), .bool true]) ∧ Below W.heap.size W w') := Lib.hid (fun W ha => HWD.out W kk hkl ha.bs)
        have HSLS : Hid (H.s.l.length = 8) := Lib.hid (St.len _)
        have HTP : Hid (∀ w2 w3 : World, HA w2 g true H.s (H.n + m) kk → Only (fun j => j = g) wr w2 → Below w2.heap.size w2 w3 → TakeP wr ((w3.alloc (.cells z16 64)).setRow w3.heap.size (tabW (wordsL kk))) g gk w3.heap.size KK (tabW (wordsL kk)) H.s (H.n + m) kk ∧ g < w3.heap.size) := Lib.hid (fun w2 w3 h1 h2 h3 => by
          have hgk : gk < wr.heap.size := Nat.lt_of_lt_of_le (Array.getElem?_eq_some_iff.1 HKR.out).1 HON.out.size
          have hk2 : wr.heap[gk]? = some (.cells KK 54 (0, 0)) := by
            rw [HON.out.block gk (Array.getElem?_eq_some_iff.1 HKR.out).1 (by have := HGG.out; omega)]; exact HKR.out
          have hk3 : w3.heap[gk]? = some (.cells KK 54 (0, 0)) := by
            rw [h3.block gk (Nat.lt_of_lt_of_le hgk h2.size), h2.block gk hgk (by have := HGG.out; omega)]; exact hk2
          have hg3 : g < w3.heap.size := (h1.next h3).lt
          have hk3l : gk < w3.heap.size := (Array.getElem?_eq_some_iff.1 hk3).1
          have hb : Below w3.heap.size w3 ((w3.alloc (.cells z16 64)).setRow w3.heap.size (tabW (wordsL kk))) := below_setRow (below_alloc (Below.refl _ _) _) (Nat.le_refl _)
          exact ⟨⟨by rw [hb.block gk hk3l]; exact hk3, setRow_heap _ _ _ _ _ _ (heap_alloc_new w3 _), (h1.next h3).next hb, (h2.trans (Only.of_below h3)).trans (Only.of_below hb)⟩, hg3⟩)
        have oM := tabW_one (wordsL kk)
        have nM : (tabW (wordsL kk)).size = 16 := by rw [tabW_size, hSLN]
        obtain ⟨MM, hMM⟩ : ∃ M, tabW (wordsL kk) = M := ⟨_, rfl⟩
        rw [hMM] at HSW HWD2 HTP oM nM
        have iM : (Try.prog.info? 64).map (·.size) = some MM.size := by rw [nM]; kernel_rfl
        have sM : z16.size = MM.size := by rw [n16, nM]
        have hsl := fun u => slice_block_all g u
        obtain ⟨N, hN⟩ : ∃ N, H.n + m = N := ⟨_, rfl⟩
        rw [hN] at HH2 HHE HEND HWD2 HTP
        obtain ⟨s1, hs1⟩ : ∃ s1, H.s = s1 := ⟨_, rfl⟩
        rw [hs1] at HH2 HHE HSW HWD2 HTP
        have HJ : Hid (j + m + (L - m) = LL) := Lib.hid (by omega)
        have HM1 := Lib.hid hm1
        have HML := Lib.hid hmL
        have iS : (Try.prog.info? 49).map (·.size) = some (s1.l.map wv).length := by rw [List.length_map, St.len]; kernel_rfl
        have eS : (s1.l.map wv).toArray = tabW s1.l := rfl
        have nS2 : (tabW s2.l).size = 8 := by rw [tabW_size, St.len]
        have iS2 : (Try.prog.info? 49).map (·.size) = some (tabW s2.l).size := by rw [nS2]; kernel_rfl
        have oS2 := tabW_one s2.l
        clear hok ha ht hH hHn hLd hHn2 hL5 hh hadd hdrop hR hfull hm e1 e2 hkl hmm hx1 hx2 hr0 hkk hSLN hs2 HBL HAT HSS HON hj hMM hN hs1 nM HPW HWD HNN HLL HSLS n16
        go_wp2_with fail
        with_reducible refine HH2.out.mono ?_
        rintro e w2 ⟨rfl, ha2, ho2⟩
        have HHF := Lib.hid (HHE.out w2 ha2)
        have HA2 := Lib.hid ha2
        have HO2 := Lib.hid ho2
        have HWD3 := Lib.hid (HWD2.out w2 ha2)
        clear ha2 ho2 HHE HH2 HWD2
        go_wp2_with fail
        with_reducible refine HHF.out.mono ?_
        rintro e w3 ⟨rfl, hw3⟩
        subst hw3
        clear HHF
        go_wp2_with fail
        with_reducible refine HWD3.out.mono ?_
        rintro e w4 ⟨rfl, hb4⟩
        have h0 : (w4.alloc (.cells z16 64)).heap[w4.heap.size]? = some (.cells z16 64 (0, 0)) := heap_alloc_new _ _
        have HT := Lib.hid (HTP.out _ w4 HA2.out HO2.out hb4).1
        have HGM := Lib.hid (HTP.out _ w4 HA2.out HO2.out hb4).2
        clear hb4 HTP HWD3 HA2 HO2
        go_wp2_with (refine wpList_store_row rfl 64 (.tmp 6) (.tmp 25) rfl w4.heap.size MM rfl rfl 64 z16 h0 iM sM oM ?_)
        clear h0
        obtain ⟨W5, hW5⟩ : ∃ W5, (w4.alloc (.cells z16 64)).setRow w4.heap.size MM = W5 := ⟨_, rfl⟩
        obtain ⟨gm, hgm⟩ : ∃ gm, w4.heap.size = gm := ⟨_, rfl⟩
        rw [hW5, hgm] at HT
        rw [hW5, hgm]
        rw [hgm] at HGM
        clear hW5 hgm
        have HT2 := HT.out.drew
        refine wp_region_noPanic ?_
        refine wp_region_held_drew (S := fun W => ∃ s, TakeP wr W g gk gm KK MM s N kk) (by kernel_rfl) (by exact ⟨s1, HT2⟩) (fun hS => ?_)
        refine' take_at 0 rfl (by kernel_rfl) (by kernel_rfl) (by kernel_rfl) (fun _ _ _ h => h) (by rfl) hS ?_ ?_ ?_
        rotate_left 2
        · intro W hSW; go_simp; try with_reducible rfl
        · simp only [List.set_cons_succ, List.set_cons_zero]; rfl
        refine' take_at 1 rfl (by kernel_rfl) (by kernel_rfl) (by kernel_rfl) (fun _ _ _ h => h) (by rfl) hS ?_ ?_ ?_
        rotate_left 2
        · intro W hSW; obtain ⟨s, hSW⟩ := hSW; exact run_load_row rfl rfl hSW.ks Try.underlying54 rfl iK
        · simp only [List.set_cons_succ, List.set_cons_zero]; rfl
        refine' take_at 2 rfl (by kernel_rfl) (by kernel_rfl) (by kernel_rfl) (fun _ _ _ h => h) (by rfl) hS ?_ ?_ ?_
        rotate_left 2
        · intro W hSW; go_simp; try with_reducible rfl
        · simp only [List.set_cons_succ, List.set_cons_zero]; rfl
        refine' take_at 3 rfl (by kernel_rfl) (by kernel_rfl) (by kernel_rfl) (fun _ _ _ h => h) (by rfl) hS ?_ ?_ ?_
        rotate_left 2
        · intro W hSW; go_simp; try with_reducible rfl
        · simp only [List.set_cons_succ, List.set_cons_zero]; rfl
        refine' take_at 4 rfl (by kernel_rfl) (by kernel_rfl) (by kernel_rfl) (fun _ _ _ h => h) (by rfl) hS ?_ ?_ ?_
        rotate_left 2
        · intro W hSW; go_simp; try with_reducible rfl
        · simp only [List.set_cons_succ, List.set_cons_zero]; rfl
        refine' take_at 6 rfl (by kernel_rfl) (by kernel_rfl) (by kernel_rfl) (fun _ _ _ h => h) (by rfl) hS ?_ ?_ ?_
        rotate_left 2
        · intro W hSW; obtain ⟨s, hSW⟩ := hSW; exact run_load_row rfl rfl hSW.ms Try.underlying64 rfl iM
        · simp only [List.set_cons_succ, List.set_cons_zero]; rfl
        refine call_at 5 rfl (by kernel_rfl) (by rfl) (fun K hK => ?_)
        refine wp_load_mid 49 (.tmp 31) rfl g 1 rfl (s1.l.map wv) _ HT2.ha.cs Try.underlying49 rfl iS ?_
        refine hK.out _ _ (by exact ⟨s1, HT2⟩) (fun hS => ?_)
        clear hK K
        refine call_at 7 rfl (by kernel_rfl) (by rfl) (fun K hK => ?_)
        go_simp
        with_reducible refine (HSW.out _).mono ?_
        rintro e v0 ⟨rfl, hb0⟩
        have kb0 := HT2.call hb0
        clear hS hb0
        refine hK.out _ _ (by exact ⟨s1, kb0⟩) (fun hS => ?_)
        clear hK K
        refine' take_at 8 rfl (by kernel_rfl) (by kernel_rfl) (by kernel_rfl) (fun _ _ _ h => h) (by rfl) hS ?_ ?_ ?_
        rotate_left 2
        · intro W hSW; go_simp; try with_reducible rfl
        · simp only [List.set_cons_succ, List.set_cons_zero]; rfl
        refine' take_at 9 rfl (by kernel_rfl) (by kernel_rfl) (by kernel_rfl) (fun _ _ _ h => h) (by rfl) hS ?_ ?_ ?_
        rotate_left 2
        · intro W hSW; go_simp; try with_reducible rfl
        · simp only [List.set_cons_succ, List.set_cons_zero]; rfl
        have kS := kb0.ha.setS s2
        have kO := kb0.only.trans kS.2
        have kE := HEND.out _ kS.1 kO
        have kT : TakeP wr (v0.setCells g 1 (tabW s2.l).toList) g gk gm KK MM s2 N kk := ⟨by rw [kS.2.block _ (Array.getElem?_eq_some_iff.1 kb0.ks).1 (by have := HGG.out; omega)]; exact kb0.ks, by rw [kS.2.block _ (Array.getElem?_eq_some_iff.1 kb0.ms).1 (by have := HGM.out; omega)]; exact kb0.ms, kS.1, kO⟩
        have hthere : v0.there g 1 (tabW s2.l).size := fun j hj => by
          rw [nS2] at hj
          refine ⟨?_, kb0.ha.fz _⟩
          rw [kb0.ha.at_, hcells_s _ _ (St.len s1) _ hj, List.getElem?_map, List.getElem?_eq_getElem (by rw [St.len]; exact hj)]
          rfl
        refine call_at 10 rfl (by kernel_rfl) (by rfl) (fun K hK => ?_)
        refine wp_store_mid 49 (.tmp 36) (.tmp 34) rfl g 1 (tabW s2.l) rfl rfl hthere iS2 oS2 ?_
        refine hK.out _ _ (by exact ⟨s2, kT⟩) (fun hS => ?_)
        clear hK K
        refine wpAnyH_done (by kernel_rfl) ?_ _
        refine NoPanic.normal ?_
        clear hS hthere kT kO kS kb0 HT2
        simp only [Act.put]
        go_wp2_with fail
        go_roundw
        case rel => exact ⟨j + m, L - m, c' - m, HJ.out, by omega, Ax, rfl, kE.1, HX2, kE.2.1, kE.2.2⟩
        case measure => simp [sLen]; have := HM1.out; have := HML.out; omega
    · obtain rfl : L = 0 := by omega
      have HF : Hid (HS wr g (h.add l)) := Lib.hid (by
        have := HSS.out
        rwa [List.take_of_length_le (by have := HLN.out; omega)] at this)
      have HG := Lib.hid (HO1.out.trans HON.out)
      clear HSS HON HBL HAT
      go_wp2_with fail
      (try simp only [Exit.inBlock, Exit.then])
      refine bodyPost_end (results_none rfl _ _ _) rfl ?_
      exact ⟨rfl, HF.out, HG.out⟩
end Go.Proofs.Ytbkcglfdliicpaa

