/- RegionOnly walked. -/
import Derived.Test.YtmhcogpjgllgjaaLaw3Alive
import Derived.Test.YtmhcogpjgllgjaaLaw3Few
import Derived.Test.YtmhcogpjgllgjaaLaw2Refuses
import Derived.Test.YtmhcogpjgllgjaaCalm
import Derived.Deep.RegionHeld3
namespace Go.Proofs.Ytmhcogpjgllgjaa
open Go.RowKit
set_option linter.unusedVariables false

/-- programming within a region with nothing armed -/
theorem dgProg_calm (d : Dl) (ok : DlOk d) (ha : d.armed = false) (a c : Nat) (t : Int) (m : List UInt8) (hst : d.steps + m.length ≤ 4611686018427387904) :
    (dgProg d a c t m).2.armed = false ∧ (dgProg d a c t m).2.off = d.off ∧ ∀ i, i < d.b.length → (i < a * 1024 ∨ (a + c) * 1024 ≤ i) → (dgProg d a c t m).2.b.getD i 0 = d.b.getD i 0 := by
  unfold dgProg
  split
  · exact ⟨ha, rfl, fun _ _ _ => rfl⟩
  · split
    · rename_i hin
      obtain ⟨h1, h2, -⟩ := dprogOf_calm d ok ha ((a : Int) * 1024 + t) m hst
      refine ⟨h1, h2, fun i hi ho => ?_⟩
      unfold dprogOf
      split
      · rfl
      · split
        · rfl
        · split
          · rfl
          · split
            · rfl
            · exact (dprogTo_fact d ok _ m (m.length / 8) (by omega) (by omega) (m.length / 8) (Nat.le_refl _)).rest i hi (by omega)
    · exact ⟨ha, rfl, fun _ _ _ => rfl⟩
theorem dgErase_calm (d : Dl) (ha : d.armed = false) (a c : Nat) (s : Int) : (dgErase d a c s).2.armed = false ∧ (dgErase d a c s).2.off = d.off := by
  unfold dgErase
  split
  · exact ⟨ha, rfl⟩
  · split
    · unfold deraseOf
      split
      · exact ⟨ha, rfl⟩
      · split
        · unfold deraseIn
          rw [dstepOf_calm' (dwithW d (d.worn.set ((a : Int) + s).toNat (d.worn.getD ((a : Int) + s).toNat 0 + 1))) ha]
          exact ⟨ha, rfl⟩
        · exact ⟨ha, rfl⟩
    · exact ⟨ha, rfl⟩

/-- what is known behind k calls on a region -/
structure Kept (d : Dl) (a c k : Nat) : Prop where
  ok : DlOk d
  armed : d.armed = false
  off : d.off = false
  steps : d.steps ≤ 1100 * (k : Int)
  worn : ∀ x ∈ d.worn, x ≤ (k : Int)
  len : d.b.length = 5120
  rest : ∀ i, i < 5120 → (i < a * 1024 ∨ (a + c) * 1024 ≤ i) → d.b.getD i 0 = 0
theorem kept_prog {d : Dl} {a c k : Nat} (h : Kept d a c k) (hk : k ≤ 1000) (t : Int) (m : List UInt8) (hm : m.length ≤ 1100) : Kept (dgProg d a c t m).2 a c (k + 1) := by
  have hst := h.steps
  have hn := dgProg_num d h.ok a c t m (by omega)
  obtain ⟨h1, h2, h3⟩ := dgProg_calm d h.ok h.armed a c t m (by omega)
  have hl : (dgProg d a c t m).2.b.length = 5120 := by rw [hn.ok.len, hn.len, ← h.ok.len]; exact h.len
  have hs := hn.steps
  exact ⟨hn.ok, h1, h2.trans h.off, by omega, fun x hx => by have := hn.worn _ h.worn x hx; omega, hl, fun i hi ho => (h3 i (by rw [h.len]; exact hi) ho).trans (h.rest i hi ho)⟩
theorem kept_erase {d : Dl} {a c k : Nat} (h : Kept d a c k) (hk : k ≤ 1000) (s : Int) : Kept (dgErase d a c s).2 a c (k + 1) := by
  have hst := h.steps
  have hn := dgErase_num d h.ok a c s (by omega) (fun x hx => by have := h.worn x hx; omega)
  obtain ⟨h1, h2⟩ := dgErase_calm d h.armed a c s
  have hl : (dgErase d a c s).2.b.length = 5120 := by rw [hn.ok.len, hn.len, ← h.ok.len]; exact h.len
  have hs := hn.steps
  exact ⟨hn.ok, h1, h2.trans h.off, by omega, fun x hx => by have := hn.worn _ h.worn x hx; omega, hl, fun i hi ho => (dgErase_rest d h.ok h.armed a c s i (by rw [h.len]; exact hi) ho).trans (h.rest i hi ho)⟩
theorem Kept.more {d : Dl} {a c k : Nat} (h : Kept d a c k) : Kept d a c (k + 1) := ⟨h.ok, h.armed, h.off, by have := h.steps; omega, fun x hx => by have := h.worn x hx; omega, h.len, h.rest⟩

/-- .. in memory -/
def KeptIn (wx : World) (g gB gW cB cW a c k : Nat) (wr : World) : Prop := ∃ d, DevFl wr g gB gW cB cW 0 d ∧ Kept d a c k ∧ Only (FlF g gB gW) wx wr

set_option maxRecDepth 100000 in
set_option maxHeartbeats 6400000 in
theorem law3Only_in (a c : Nat) (A0 : Option Addr) (L : List ActD) (c0 : Nat) (w : World) (hL : Acts w A0 L) (hLm : L.length ≤ 9223372036854775807) (hfew : fewB L = true) (ha : a ≤ 4) (hc : 1 ≤ c) (hac : a + c ≤ 5) :
    Calls Try.prog 4 #[.int .i64 (a : Int), .int .i64 (c : Int), .slice A0 L.length c0] w fun e w' => e = .returned (.bool true) ∧ Below w.heap.size w w' := by
  have HFEW : Hid (∀ W, Below w.heap.size w W → Calls Try.prog 8 #[.slice A0 L.length c0] W fun e w' => e = .returned (.bool true) ∧ W = w') := Lib.hid (fun W hW => by rw [← hfew]; exact few3_any W A0 L c0 (hL.below hW) hLm)
  have Hfew : Hid (fewB L = true) := hfew
  have HN : Hid (∀ W, Calls Try.prog 9 #[.int .i64 5] W (DNewPost W 5)) := Lib.hid (fun W => dnew_any 5 5 W (by show (if (5 : Int) < 1 then 1 else if 256 < (5 : Int) then 256 else 5) = ((5 : Nat) : Int); decide) (by omega) (by omega))
  have mk : ∀ u : World, (Instr.makeSlice 41 (.int .i64 5120) (.int .i64 5120)).run Try.prog u = _ := fun u => make_bytes 5120 (by omega) u
  have HL := Lib.hid hL
  have g1 : decide ((a : Int) < 0) = false := decide_eq_false (by omega)
  have g2 : decide (4 < (a : Int)) = false := decide_eq_false (by omega)
  have g3 : decide ((c : Int) < 1) = false := decide_eq_false (by omega)
  have g4 : decide (5 - (a : Int) < (c : Int)) = false := decide_eq_false (by omega)
  clear hfew hL
  go_enter Try.func4, Try.ntmps4
  go_wp2_with fail
  refine (alive3_any _).mono ?_
  rintro e w1 ⟨rfl, hb1⟩
  have B1 := Lib.hid hb1
  clear hb1
  go_wp2_with fail
  refine (HFEW.out _ B1.out).mono ?_
  rintro e w' ⟨rfl, rfl⟩
  go_wp2_with fail
  refine (HN.out _).mono ?_
  rintro e w2 ⟨g, gB, gW, cB, cW, rfl, hf, hb2, hg, hgB, hgW⟩
  have HF := Lib.hid (hf 0)
  have B2 := Lib.hid (below_on B1.out hb2)
  have G1 : Hid (w.heap.size ≤ g ∧ w.heap.size ≤ gB ∧ w.heap.size ≤ gW) := Lib.hid (by have := B1.out.size; omega)
  clear hf hb2 hg hgB hgW
  obtain ⟨bb, Hbb⟩ : ∃ bb, Hid (blanks 5 = bb) := ⟨_, rfl⟩
  obtain ⟨wn, Hwn⟩ : ∃ wn, Hid (List.replicate 5 (0 : Int) = wn) := ⟨_, rfl⟩
  have HF2 : Hid (DevFl w2 g gB gW cB cW 0 (freshD bb wn)) := by rw [← Hbb.out, ← Hwn.out]; exact HF
  have hbl : bb.length = 5120 := by rw [← Hbb.out]; exact blanks_len 5
  have hwl : wn.length = 5 := by rw [← Hwn.out]; simp
  have hw0 : ∀ x ∈ wn, x = 0 := by rw [← Hwn.out]; intro x hx; simpa using hx
  -- every byte 0
  obtain ⟨z, Hz⟩ : ∃ z, Hid (List.replicate 5120 (0 : UInt8) = z) := ⟨_, rfl⟩
  have hzl : z.length = 5120 := by rw [← Hz.out, List.length_replicate]
  have HBz : Hid (Bs (w2.alloc (.cells (madeCells #[.int .u8 0] 5120) 5)) (some ⟨w2.heap.size, 0, none⟩) z) := Lib.hid (by rw [← Hz.out]; exact (own_made w2 5120 5 (by omega)).bs)
  have B2a : Hid (Below w2.heap.size w2 (w2.alloc (.cells (madeCells #[.int .u8 0] 5120) 5))) := Lib.hid ((Below.refl _ _).alloc (Nat.le_refl _) _)
  have hsp := dspoil_any (HF2.out.below B2a.out) 0 (some ⟨w2.heap.size, 0, none⟩) z 5120 HBz.out (by omega) (by omega) (by show bb.length ≤ _; omega) (by omega)
  have hfit : (0 : Int) ≤ 0 ∧ (0 : Int) + z.length ≤ (freshD bb wn).b.length := ⟨by omega, by show _ ≤ ((bb.length : Nat) : Int); omega⟩
  have hd0 : dwithB (freshD bb wn) (laid (freshD bb wn).b (Int.toNat 0) z) = freshD z wn := by
    show dwithB (freshD bb wn) (laid bb 0 z) = _
    have e : laid bb 0 z = z := by
      refine list_ext_getD (by rw [laid_len]; omega) fun i hi => ?_
      rw [laid_len] at hi
      rw [laid_get hi, if_pos (by omega), Nat.sub_zero]
    rw [e]
    rfl
  rw [if_pos hfit, if_pos hfit, hd0, hzl] at hsp
  have HSP := Lib.hid hsp
  have OK0 : Hid (DlOk (freshD z wn)) := Lib.hid (fresh_ok z wn (by omega) (by omega) hw0)
  have HKEPT : Hid (Kept (freshD z wn) a c 0) := Lib.hid ⟨OK0.out, rfl, rfl, by show (0 : Int) ≤ _; omega, fun x hx => by have := hw0 x hx; omega, hzl, fun i hi _ => by show z.getD i 0 = 0; rw [← Hz.out]; exact getD_rep _ _ _ hi⟩
  have Hwl := Lib.hid hwl
  clear HF hsp hfit hd0 hbl hwl hw0
  go_wp2_with fail
  refine HSP.out.mono ?_
  rintro e w3 ⟨rfl, hf, ho⟩
  have HF3 := Lib.hid hf
  have B3 := Lib.hid (below_fl (below_on B2.out B2a.out) (ho.toF (g := g) (gB := gB) (gW := gW) (fun k hk => .inr (.inl hk))) G1.out.1 G1.out.2.1 G1.out.2.2)
  have HOF := dof_any HF3.out OK0.out 5 Hwl.out (a : Int) (c : Int) (by omega) (by omega) (by omega) (by omega)
  rw [show ofB 5 (a : Int) (c : Int) = true from ofB_iff.2 ⟨by omega, by omega, by omega⟩] at HOF
  have HOF2 := Lib.hid HOF
  clear hf ho HSP HF2 HOF
  go_wp2_with fail
  refine HOF2.out.mono ?_
  rintro e w4 ⟨rfl, hb4⟩
  -- r's cell
  have hbx : Below w4.heap.size w4 (w4.alloc (.cells #[.pointer (some ⟨g, 0, none⟩), .int .i64 (a : Int), .int .i64 (c : Int)] 30)) := (Below.refl _ _).alloc (Nat.le_refl _) _
  have HF4 := Lib.hid (HF3.out.below hb4)
  have hcell := box_only w4 (.pointer (some ⟨g, 0, none⟩)) (.int .i64 (a : Int)) (.int .i64 (c : Int)) 30 (FlF g gB gW) (flF_old HF4.out (Nat.le_refl _))
  obtain ⟨wx, Hwx⟩ : ∃ wx, Hid (w4.alloc (.cells #[.pointer (some ⟨g, 0, none⟩), .int .i64 (a : Int), .int .i64 (c : Int)] 30) = wx) := ⟨_, rfl⟩
  rw [Hwx.out] at hbx hcell
  have BX := Lib.hid (below_on (below_on B3.out hb4) hbx)
  have HKX : Hid (KeptIn wx g gB gW cB cW a c 0 wx) := Lib.hid ⟨_, HF4.out.below hbx, HKEPT.out, Only.refl _ _⟩
  have HCELL := Lib.hid hcell
  clear hb4 hbx hcell HF4 HF3
  go_wp2_with (go_at_call 13; refine (num3_any _ _).mono ?_; rintro e w4 ⟨rfl, rfl⟩)
  rw [Hwx.out]
  go_loopw [11] (fun i wr => ∃ k : Nat, k ≤ L.length ∧ i = .int .i64 k ∧ Hid (KeptIn wx g gB gW cB cW a c k wr)) (fun i _ => L.length - (intOf i).toNat)
  case atStart => exact ⟨0, Nat.zero_le _, rfl, HKX⟩
  case round =>
    obtain ⟨k, hk, rfl, HK⟩ := hrel
    have hl30 : L.length ≤ 30 := by have := Hfew.out; unfold fewB at this; rw [Bool.and_eq_true] at this; exact of_decide_eq_true this.1
    by_cases hlt : k < L.length
    · obtain ⟨ga, oa, rfl, hat⟩ := HL.out (by omega)
      have ha0 := hat k hlt
      obtain ⟨x, Ha⟩ : ∃ x, Hid (L[k] = x) := ⟨L[k], Lib.hid rfl⟩
      rw [Ha.out] at ha0
      have hal : x.b.length ≤ 1100 := by have := Hfew.out; unfold fewB at this; rw [Bool.and_eq_true, List.all_eq_true] at this; have := this.2 L[k] (List.getElem_mem hlt); rw [Ha.out] at this; exact of_decide_eq_true this
      obtain ⟨d, hd, hkd, hod⟩ := HK.out
      have hF0 : ∀ j, FlF g gB gW j → w.heap.size ≤ j := by
        have := G1.out
        rintro j (rfl | rfl | rfl) <;> omega
      have hbw : Below w.heap.size w wr := BX.out.trans (hod.below BX.out.size (fun j hj hf => by have := hF0 j hf; omega))
      have hax := ha0.below hbw
      have hga : ¬ FlF g gB gW ga := fun hf => by
        have := hF0 _ hf
        have := World.block_lt_of_cell? w _ ha0.k
        simp at this
        omega
      have HKD := Lib.hid hkd
      have Hbs := Lib.hid hax.b
      have HT : Hid (-9223372036854775808 ≤ x.t ∧ x.t ≤ 9223372036854775807) := Lib.hid ⟨hax.t1, hax.t2⟩
      have hs4 := hax.s
      have HAX := Lib.hid hax
      have HDR := Lib.hid hd
      have HOD := Lib.hid hod
      have HBW := Lib.hid hbw
      clear hat ha0 hkd hax hod hd hF0 hbw
      go_wp2_with (with_reducible refine wpList_append_bs rfl (.const (.slice none 0 0)) (.tmp 68) 41 rfl wr.heap.size 5 Try.underlying41 info5 (.slice none 0 0) [] rfl (Ob.nil_ _ _ _) x.A x.b _ x.c rfl rfl Hbs.out (by simp; omega) (Nat.le_refl _) ?_)
      intro v5 w5 ho5 hgr5
      have hb5 := below_of_grown hgr5
      obtain ⟨A5, c5, rfl, hbs5, -⟩ := ho5.form
      have HC5 : Hid (x.b.length ≤ c5) := Lib.hid (by
        rcases ho5.2 with ⟨h0, h1⟩ | ⟨g', cap, cur, e, _, _, hnc, _⟩
        · simp at h0; rw [h1]; omega
        · injection e with e1 e2 e3; rw [e3]; simpa using hnc)
      have HOFF : Hid (Off (FlF g gB gW) A5 x.b) := Lib.hid (off_new HDR.out ho5.fresh)
      have HL5 := Lib.hid hbs5
      have HD5 := Lib.hid (HDR.out.below hb5)
      have HO5 : Hid (Only (FlF g gB gW) wx w5) := Lib.hid (HOD.out.trans (Only.of_below hb5))
      have hax5 := HAX.out.below hb5
      have L0 : ∀ W, Only (FlF g gB gW) w5 W → W.cell? ⟨w4.heap.size, 0, none⟩ = some (.pointer (some ⟨g, 0, none⟩)) := fun W hW => (HCELL.out W (HO5.out.trans hW)).1
      have L1 : ∀ W, Only (FlF g gB gW) w5 W → W.cell? ⟨w4.heap.size, 1, none⟩ = some (.int .i64 (a : Int)) := fun W hW => (HCELL.out W (HO5.out.trans hW)).2.1
      have L2 : ∀ W, Only (FlF g gB gW) w5 W → W.cell? ⟨w4.heap.size, 2, none⟩ = some (.int .i64 (c : Int)) := fun W hW => (HCELL.out W (HO5.out.trans hW)).2.2
      have LT : ∀ W, Only (FlF g gB gW) w5 W → W.cell? ⟨ga, oa + k * 4 + 1, none⟩ = some (.int .i64 x.t) := fun W hW => by
        rw [World.cell?_of_block (hW.block _ (World.block_lt_of_cell? w5 _ hax5.t) hga)]; exact hax5.t
      have hk5 := hax5.k
      have hnil : ([] : List UInt8) ++ x.b = x.b := List.nil_append _
      clear ho5 hgr5 hb5 hbs5 hga hax5 hs4 hnil
      by_cases h2 : x.k = 2
      · rw [h2] at hk5
        clear h2
        have hkn := kept_prog HKD.out (by omega) x.t x.b hal
        obtain ⟨kc, d', Hd⟩ : ∃ kc d', Hid (dgProg d a c x.t x.b = (kc, d')) := ⟨_, _, rfl⟩
        rw [Hd.out] at hkn
        have HKN := Lib.hid hkn
        have HCL : Hid (∀ W, Only (FlF g gB gW) w5 W → DevFl W g gB gW cB cW 0 d → Calls Try.prog 21 #[.agg #[.pointer (some ⟨g, 0, none⟩), .int .i64 (a : Int), .int .i64 (c : Int)], .int .i64 x.t, .slice A5 x.b.length c5] W (DErasePost W g gB gW cB cW 0 (kc, d'))) := Lib.hid fun W hW hD => by
          rw [← Hd.out]
          exact dgprog_any hD HKD.out.ok a c (by omega) (by omega) x.t HT.out.1 HT.out.2 A5 x.b c5 (HL5.out.offs HOFF.out hW) HOFF.out HC5.out (by omega) (by have := HKD.out.steps; omega)
        clear hkn
        have HDx : Hid (DevFl w5.drew g gB gW cB cW 0 d) := Lib.hid (HD5.out.below (Below.refl _ _).drew)
        go_wp2_with fail
        go_region_held3 (fun W => Only (FlF g gB gW) w5 W) (first | assumption | exact Only.drew (Only.refl _ _)) (first
          | (go_at_call 21; (with_reducible refine (HCL.out _ (by assumption) HDx.out).mono ?_); rintro e w6 ⟨rfl, hd6, ho6⟩; have HDx := Lib.hid hd6; have kS := Only.trans (by assumption) ho6; clear hd6 ho6))
        go_wp2_with fail
        go_round
        case rel => exact ⟨k + 1, by omega, by go_num, Lib.hid ⟨d', HDx.out, HKN.out, HO5.out.trans (by assumption)⟩⟩
        case measure => simp [intOf]; omega
      · by_cases h3 : x.k = 3
        · rw [h3] at hk5
          clear h3 h2
          have hkn := kept_erase HKD.out (by omega) x.t
          obtain ⟨kc, d', Hd⟩ : ∃ kc d', Hid (dgErase d a c x.t = (kc, d')) := ⟨_, _, rfl⟩
          rw [Hd.out] at hkn
          have HKN := Lib.hid hkn
          have HCL : Hid (∀ W, Only (FlF g gB gW) w5 W → DevFl W g gB gW cB cW 0 d → Calls Try.prog 22 #[.agg #[.pointer (some ⟨g, 0, none⟩), .int .i64 (a : Int), .int .i64 (c : Int)], .int .i64 x.t] W (DErasePost W g gB gW cB cW 0 (kc, d'))) := Lib.hid fun W hW hD => by
            rw [← Hd.out]
            exact dgerase_any hD HKD.out.ok a c (by omega) (by omega) x.t HT.out.1 HT.out.2
          clear hkn
          have HDx : Hid (DevFl w5.drew g gB gW cB cW 0 d) := Lib.hid (HD5.out.below (Below.refl _ _).drew)
          go_wp2_with fail
          go_region_held3 (fun W => Only (FlF g gB gW) w5 W) (first | assumption | exact Only.drew (Only.refl _ _)) (first
            | (go_at_call 22; (with_reducible refine (HCL.out _ (by assumption) HDx.out).mono ?_); rintro e w6 ⟨rfl, hd6, ho6⟩; have HDx := Lib.hid hd6; have kS := Only.trans (by assumption) ho6; clear hd6 ho6))
          go_wp2_with fail
          go_round
          case rel => exact ⟨k + 1, by omega, by go_num, Lib.hid ⟨d', HDx.out, HKN.out, HO5.out.trans (by assumption)⟩⟩
          case measure => simp [intOf]; omega
        · have n2 : (x.k == 2) = false := by simpa using h2
          have n3 : (x.k == 3) = false := by simpa using h3
          go_wp2_with fail
          go_round
          case rel => exact ⟨k + 1, by omega, by go_num, Lib.hid ⟨d, HD5.out, HKD.out.more, HO5.out⟩⟩
          case measure => simp [intOf]; omega
    · obtain ⟨d, hd, hkd, hod⟩ := HK.out
      have hF0 : ∀ j, FlF g gB gW j → w.heap.size ≤ j := by
        have := G1.out
        rintro j (rfl | rfl | rfl) <;> omega
      have hbw : Below w.heap.size w wr := BX.out.trans (hod.below BX.out.size (fun j hj hf => by have := hF0 j hf; omega))
      have HPK := dpeek_any hd 0 5120 (by omega) (by omega) (by omega) (by omega) (by rw [hkd.len]; omega)
      have hpe : peekOf d 0 5120 = d.b := by
        unfold peekOf
        rw [if_pos (by rw [hkd.len]; omega)]
        show cut d.b 0 5120 = d.b
        rw [← hkd.len]
        exact cut_self d.b
      rw [hpe] at HPK
      have HPK2 := Lib.hid HPK
      have HB := Lib.hid hbw
      obtain ⟨pb, Hpb⟩ : ∃ pb, Hid (d.b = pb) := ⟨_, rfl⟩
      rw [Hpb.out] at HPK2
      have HPL : Hid (pb.length = 5120) := Lib.hid (by rw [← Hpb.out]; exact hkd.len)
      have HREST : Hid (∀ i, i < 5120 → (i < a * 1024 ∨ (a + c) * 1024 ≤ i) → pb.getD i 0 = 0) := Lib.hid (by rw [← Hpb.out]; exact hkd.rest)
      clear hd hkd hod hF0 hbw HPK hpe hzl
      go_wp2_with fail
      refine HPK2.out.mono ?_
      rintro e w6 ⟨v6, rfl, ho6, hb6⟩
      obtain ⟨gx, cx, rfl, hbs6, -, -⟩ := ho6.formN HPL.out (by omega)
      have HB6 := Lib.hid (below_on HB.out hb6)
      have HBS := Lib.hid hbs6
      clear ho6 hb6 hbs6
      go_wp2_with fail
      go_loop [14] (fun v => ∃ k : Nat, k ≤ 5120 ∧ v = .int .i64 k) (fun v => 5120 - (intOf v).toNat)
      case atStart => exact ⟨0, Nat.zero_le _, rfl⟩
      case round =>
        obtain ⟨k, hk, rfl⟩ := hrel
        by_cases hlt : k < 5120
        · obtain ⟨b0, o0, e0, hc0⟩ := HBS.out.at_ (k := k) (by rw [HPL.out]; exact hlt)
          injection e0 with e0
          injection e0 with e1 e2
          subst e1
          subst e2
          have hz1 : 0 + k = k := Nat.zero_add k
          rw [hz1] at hc0
          clear hz1
          by_cases h1 : k < a * 1024
          · have hv := HREST.out k hlt (.inl h1)
            rw [hv] at hc0
            have hc1 : w6.cell? ⟨gx, k, none⟩ = some (.int .u8 0) := hc0
            have q1 : decide ((k : Int) < (a : Int) * 1024) = true := decide_eq_true (by omega)
            clear hc0 hv h1
            go_wp2
            go_round
            case rel => exact ⟨k + 1, by omega, by go_num⟩
            case measure => simp [intOf]; omega
          · by_cases h2 : (a + c) * 1024 ≤ k
            · have hv := HREST.out k hlt (.inr h2)
              rw [hv] at hc0
              have hc1 : w6.cell? ⟨gx, k, none⟩ = some (.int .u8 0) := hc0
              have q1 : decide ((k : Int) < (a : Int) * 1024) = false := decide_eq_false (by omega)
              have q2 : decide (((a : Int) + (c : Int)) * 1024 ≤ (k : Int)) = true := decide_eq_true (by omega)
              clear hc0 hv h1 h2
              go_wp2
              go_round
              case rel => exact ⟨k + 1, by omega, by go_num⟩
              case measure => simp [intOf]; omega
            · have q1 : decide ((k : Int) < (a : Int) * 1024) = false := decide_eq_false (by omega)
              have q2 : decide (((a : Int) + (c : Int)) * 1024 ≤ (k : Int)) = false := decide_eq_false (by omega)
              clear hc0 h1 h2
              go_wp2
              go_round
              case rel => exact ⟨k + 1, by omega, by go_num⟩
              case measure => simp [intOf]; omega
        · obtain rfl : k = 5120 := by omega
          go_wp2
          go_ret
          exact ⟨rfl, HB6.out⟩

set_option maxRecDepth 100000 in
set_option maxHeartbeats 3200000 in
theorem law3Only (a c : Int) (A0 : Option Addr) (L : List ActD) (c0 : Nat) (w : World) (hL : Acts w A0 L) (hLm : L.length ≤ 9223372036854775807) (a1 : -9223372036854775808 ≤ a) (a2 : a ≤ 9223372036854775807) (c1 : -9223372036854775808 ≤ c) (c2 : c ≤ 9223372036854775807) :
    Calls Try.prog 4 #[.int .i64 a, .int .i64 c, .slice A0 L.length c0] w fun e w' => e = .returned (.bool true) ∧ Below w.heap.size w w' := by
  have HFEW : Hid (∀ W, Below w.heap.size w W → Calls Try.prog 8 #[.slice A0 L.length c0] W fun e w' => e = .returned (.bool (fewB L)) ∧ W = w') := Lib.hid (fun W hW => few3_any W A0 L c0 (hL.below hW) hLm)
  by_cases hin : fewB L = true ∧ 0 ≤ a ∧ a ≤ 4 ∧ 1 ≤ c ∧ c ≤ 5 - a
  · obtain ⟨h0, h1, h2, h3, h4⟩ := hin
    obtain ⟨x, rfl⟩ := Int.eq_ofNat_of_zero_le h1
    obtain ⟨y, rfl⟩ := Int.eq_ofNat_of_zero_le (show 0 ≤ c by omega)
    exact law3Only_in x y A0 L c0 w hL hLm h0 (by omega) (by omega) (by omega)
  · clear hL
    obtain ⟨fb, hfb⟩ : ∃ fb, fewB L = fb := ⟨_, rfl⟩
    rw [hfb] at hin HFEW
    obtain ⟨z, hz⟩ : ∃ z, L.length = z := ⟨_, rfl⟩
    rw [hz] at HFEW ⊢
    have hq : (fb = false) ∨ (fb = true ∧ decide (a < 0) = true) ∨ (fb = true ∧ decide (a < 0) = false ∧ decide (4 < a) = true) ∨ (fb = true ∧ decide (a < 0) = false ∧ decide (4 < a) = false ∧ decide (c < 1) = true) ∨ (fb = true ∧ decide (a < 0) = false ∧ decide (4 < a) = false ∧ decide (c < 1) = false ∧ decide (5 - a < c) = true ∧ -9223372036854775808 ≤ 5 - a ∧ 5 - a ≤ 9223372036854775807) := by
      cases fb with
      | false => exact .inl rfl
      | true =>
        have hin2 : ¬ (0 ≤ a ∧ a ≤ 4 ∧ 1 ≤ c ∧ c ≤ 5 - a) := fun h => hin ⟨rfl, h⟩
        clear hin
        simp only [decide_eq_true_eq, decide_eq_false_iff_not, true_and]
        omega
    clear hin hz hfb
    rcases hq with rfl | ⟨rfl, q1⟩ | ⟨rfl, q1, q2⟩ | ⟨rfl, q1, q2, q3⟩ | ⟨rfl, q1, q2, q3, q4, q5, q6⟩
    all_goals
      go_enter Try.func4, Try.ntmps4
      go_wp2_with fail
      refine (alive3_any _).mono ?_
      rintro e w1 ⟨rfl, hb1⟩
      have B1 := Lib.hid hb1
      clear hb1
      go_wp2_with fail
      refine (HFEW.out _ B1.out).mono ?_
      rintro e w' ⟨rfl, rfl⟩
      go_wp2_with fail
      go_ret
      exact ⟨rfl, B1.out⟩
end Go.Proofs.Ytmhcogpjgllgjaa

