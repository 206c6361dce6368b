/- CursorPlays walked. Written by wip/tools/mk_plays4.py. -/
import Derived.Test.YtcpkmhhlcmnfdaaCuPair
import Derived.Test.YtcpkmhhlcmnfdaaLaw4Few
import Derived.Test.YtcpkmhhlcmnfdaaLaw4Filled
import Derived.Test.YtcpkmhhlcmnfdaaRegion3
namespace Go.Proofs.Ytcpkmhhlcmnfdaa
open Go.RowKit
set_option linter.unusedVariables false
set_option maxRecDepth 100000

theorem fewE_iff {L : List ActE} (h : fewE L = true) : L.length ≤ 30 ∧ ∀ a ∈ L, a.b.length ≤ 1100 := by
  unfold fewE at h
  rw [Bool.and_eq_true, List.all_eq_true] at h
  exact ⟨of_decide_eq_true h.1, fun a ha => of_decide_eq_true (h.2 a ha)⟩

/-- the bytes of the reference's flash are another row now -/
theorem ref_setB {w : World} {h hB hW kB kW : Nat} {B0 b : List UInt8} {wn : List Int} (hf : ∀ N, RefFl w h hB hW kB kW N ⟨B0, wn, 0, -1, [], false⟩) {gP cP n : Nat} (hn : b.length = n) (ho : Ob 5 w 0 (.slice (some ⟨gP, 0, none⟩) n cP) b) (hne : gP ≠ h ∧ gP ≠ hW) (hlt : gP < w.heap.size) :
    (∃ v, w.cell? ⟨h, 0, none⟩ = some v) ∧ w.frozen? ⟨h, 0, none⟩ = false ∧ ∀ N, RefFl (w.setCell ⟨h, 0, none⟩ (.slice (some ⟨gP, 0, none⟩) n cP)) h gP hW cP kW N ⟨b, wn, 0, -1, [], false⟩ := by
  subst hn
  obtain ⟨AP, cc, hg, -, -⟩ := (hf 0).cells
  refine ⟨⟨_, by rw [cell_of_row _ _ _ _ _ _ hg]; rfl⟩, frozen_of_row w h 0 _ _ hg, fun N => ?_⟩
  have h2 := hf (N + w.heap.size)
  obtain ⟨AP, cc, hg, hbp, hap⟩ := h2.cells
  have o1 : Only (fun j => j = h) w (w.setCell ⟨h, 0, none⟩ (.slice (some ⟨gP, 0, none⟩) b.length cP)) := (Only.refl (fun j => j = h) w).own 0 _
  exact ⟨⟨AP, cc, heap_setCell_same _ _ _ _ _ _ hg, Bs.nil_ _ _, fun k hk => by
      obtain ⟨q1, q2, q3, q4⟩ := hap k hk
      exact ⟨q1, by omega, q3, by omega⟩⟩,
    ho.only o1 (by rintro k ⟨a, e, rfl⟩; injection e with e; subst e; exact hne.1), h2.counts.only o1 (fun e => h2.ne.2.1 e.symm)⟩

/-- at the end both hold the same -/
theorem plays_end {w wz : World} {g gB gW cB cW N h hB hW kB kW N2 : Nat} {d : Dl} {f : Fl} (hd : DevFl wz g gB gW cB cW N d) (hf : RefFl wz h hB hW kB kW N2 f) (hb : d.b = f.b) (hl : d.b.length = 4096) : ∃ b sb, Hid ((∀ W, Below wz.heap.size wz W → Calls Try.prog 13 #[.pointer (some ⟨g, 0, none⟩), .int .i64 0, .int .i64 4096] W (RetOb 5 W b)) ∧ b.length = 4096 ∧ strB b = sb ∧
    (∀ W, Below wz.heap.size wz W → W.cell? ⟨h, 0, none⟩ = some (.slice (some ⟨hB, 0, none⟩) 4096 kB)) ∧ ∀ W, Below wz.heap.size wz W → Bs W (some ⟨hB, 0, none⟩) b) := by
  have hbs := hf.bytes.bs
  obtain ⟨AP, cP, hg, -, -⟩ := hf.cells
  refine ⟨d.b, strB d.b, Lib.hid ⟨fun W hW => ?_, hl, rfl, fun W hW => ?_, fun W hW => ?_⟩⟩
  · have h1 := dpeek_any (hd.below hW) 0 4096 (by omega) (by omega) (by omega) (by omega) (by omega)
    have e : peekOf d 0 4096 = d.b := by
      unfold peekOf
      rw [if_pos (by omega)]
      have := cut_self d.b
      rw [hl] at this
      exact this
    rw [e] at h1
    exact h1
  · rw [hW.cell (p := ⟨h, 0, none⟩) (Array.getElem?_eq_some_iff.1 hg).1, cell_of_row _ _ _ _ _ _ hg, ← hb, hl]; rfl
  · rw [hb]; exact hbs.below hW

set_option maxRecDepth 100000 in
set_option maxHeartbeats 25600000 in
theorem law4Plays_in (from_ : Int) (AFL : Option Addr) (fl : List UInt8) (cfl : Nat) (A0 : Option Addr) (L : List ActE) (c0 : Nat) (w : World) (h1 : Bs w AFL fl) (hL : Acts4 w A0 L) (hLm : L.length ≤ 9223372036854775807) (hfew : fewE L = true) (l1 : fl.length ≤ 300) (f1 : -9223372036854775808 ≤ from_) (f2 : from_ ≤ 9223372036854775807) :
    Calls Try.prog 3 #[.int .i64 from_, .slice AFL fl.length cfl, .slice A0 L.length c0] w fun e w' => e = .returned (.bool true) ∧ Below w.heap.size w w' := by
  have HFI := Lib.hid h1
  have HL := Lib.hid hL
  have HFEW : Hid (∀ W, Below w.heap.size w W → Calls Try.prog 10 #[.slice A0 L.length c0] W fun e w' => e = .returned (.bool true) ∧ W = w') := Lib.hid (fun W hW => by rw [← hfew]; exact few4_any W A0 L c0 (hL.below hW) hLm)
  obtain ⟨hl30, hlb⟩ := fewE_iff hfew
  have HLB := Lib.hid hlb
  obtain ⟨zf, Hfl⟩ : ∃ zf : Nat, Hid (fl.length = zf) := ⟨_, rfl⟩
  rw [Hfl.out] at l1 ⊢
  have HNR : Hid (∀ W, Calls Try.prog 12 #[.int .i64 4] W (NewPost W 4)) := Lib.hid (fun W => rnew_any 4 4 W (Lib.hid (by show (if (4 : Int) < 1 then 1 else if 256 < (4 : Int) then 256 else 4) = ((4 : Nat) : Int); decide)) (by omega) (by omega))
  have g1 : decide (300 < (zf : Int)) = false := decide_eq_false (by omega)
  clear h1 hL hfew hlb
  go_enter Try.func3, Try.ntmps3
  go_wp2_with fail
  refine (alive4_any newOk _).mono ?_
  rintro e w1 ⟨rfl, hb1⟩
  have B1 := Lib.hid hb1
  clear hb1
  go_wp2_with fail
  refine (HFEW.out _ B1.out).mono ?_
  rintro e w' ⟨rfl, rfl⟩
  have hfi := filled_any AFL fl cfl w1 (HFI.out.below B1.out) (by have := Hfl.out; omega)
  rw [Hfl.out] at hfi
  have HFIL := Lib.hid hfi
  clear hfi
  go_wp2_with fail
  refine HFIL.out.mono ?_
  rintro e w2 ⟨g, gB, gW, cB, cW, rfl, ⟨bx, hd0, hbx, hb2⟩, hg1, hg2, hg3⟩
  have HD := Lib.hid hd0
  have B2 := Lib.hid (below_on B1.out hb2)
  have HG : Hid ((w.heap.size ≤ g ∧ w.heap.size ≤ gB ∧ w.heap.size ≤ gW) ∧ g < w2.heap.size ∧ gB < w2.heap.size ∧ gW < w2.heap.size) := Lib.hid (by have := B1.out.size; exact ⟨by omega, (hd0 0).blk⟩)
  have Hbx := Lib.hid hbx
  have OK0 : Hid (DlOk (freshD bx wn4)) := Lib.hid (fresh_ok bx wn4 (by rw [hbx]; rfl) (by show 4 ≤ _; omega) (by intro x hx; exact (List.mem_replicate.1 hx).2))
  have HCALM : Hid (CalmD (freshD bx wn4) 4) := Lib.hid ⟨rfl, rfl, hbx, rfl, rfl⟩
  have HROOM : Hid (Room (freshD bx wn4) 100000000) := Lib.hid (room_fresh bx wn4 (by rw [hbx]; rfl) (by show 4 ≤ _; omega) (by intro x hx; exact (List.mem_replicate.1 hx).2) _ (by omega) (by omega))
  clear hd0 hbx hb2 hg1 hg2 hg3
  go_wp2_with fail
  refine (HNR.out _).mono ?_
  rintro e w3 ⟨h, hB, hW, kB, kW, rfl, hr, hb3, q1, q2, q3⟩
  have HR3 := Lib.hid hr
  have B3 := Lib.hid hb3
  have HH : Hid ((w2.heap.size ≤ h ∧ w2.heap.size ≤ hB ∧ w2.heap.size ≤ hW) ∧ h < w3.heap.size ∧ hB < w3.heap.size ∧ hW < w3.heap.size) := Lib.hid ⟨⟨q1, q2, q3⟩, (hr 0).blk⟩
  have hpk := dpeek_any ((HD.out 0).below hb3) 0 4096 (by omega) (by omega) (by omega) (by omega) (by have := Hbx.out; show bx.length ≤ _; omega)
  have hpe : peekOf (freshD bx wn4) 0 4096 = bx := by
    have hl : bx.length = 4096 := Hbx.out
    unfold peekOf
    rw [if_pos (by show (0 : Int) ≤ 0 ∧ (0 : Int) ≤ 4096 ∧ (0 : Int) + 4096 ≤ (bx.length : Int); omega)]
    have := cut_self bx
    rw [hl] at this
    exact this
  rw [hpe] at hpk
  have HPK := Lib.hid hpk
  clear hr hb3 q1 q2 q3 hpk hpe
  go_wp2_with fail
  refine HPK.out.mono ?_
  rintro e w4 ⟨v4, rfl, ho4, hb4⟩
  obtain ⟨gP, cP, rfl, -, -, hge⟩ := ho4.formN Hbx.out (by omega)
  have hlt4 : gP < w4.heap.size := ho4.lt gP ⟨_, rfl, rfl⟩
  obtain ⟨⟨v0, k0⟩, f0, HR5'⟩ := ref_setB (fun N => (HR3.out N).below hb4) Hbx.out (ho4.low (Nat.zero_le _)) (by have := HH.out; omega) hlt4
  obtain ⟨w5, Hw5⟩ : ∃ w5, Hid (w4.setCell ⟨h, 0, none⟩ (.slice (some ⟨gP, 0, none⟩) 4096 cP) = w5) := ⟨_, rfl⟩
  have HR5 : Hid (∀ N, RefFl w5 h gP hW cP kW N ⟨bx, List.replicate 4 0, 0, -1, [], false⟩) := Lib.hid (by rw [← Hw5.out]; exact HR5')
  have hb25 : Below w2.heap.size w2 w5 := by rw [← Hw5.out]; exact (below_on B3.out hb4).setCell (p := ⟨h, 0, none⟩) HH.out.1.1 _
  have HZ5 : Hid (w4.heap.size = w5.heap.size ∧ w3.heap.size ≤ gP ∧ gP < w5.heap.size ∧ w3.heap.size ≤ w5.heap.size) := Lib.hid (by
    have : w5.heap.size = w4.heap.size := by rw [← Hw5.out]; simp [World.setCell]
    have := hb4.size
    omega)
  have HD5 : Hid (∀ N, DevFl w5 g gB gW cB cW N (freshD bx wn4)) := Lib.hid fun N => (HD.out N).below hb25
  have B5 := Lib.hid (below_on B2.out hb25)
  clear ho4 hb4 hge hlt4 HR5' hb25
  have hof := dof_any (HD5.out 0) OK0.out 4 rfl 1 3 (by omega) (by omega) (by omega) (by omega)
  rw [show ofB 4 1 3 = true from by decide] at hof
  have HOF := Lib.hid hof
  clear hof
  go_wp2_with fail
  rw [Hw5.out]
  go_wp2_with fail
  refine HOF.out.mono ?_
  rintro e w6 ⟨rfl, hb6⟩
  obtain ⟨w7, Hw7⟩ : ∃ w7, Hid (w6.alloc (.cells #[.pointer (some ⟨g, 0, none⟩), .int .i64 1, .int .i64 3] 35) = w7) := ⟨_, rfl⟩
  have hb67 : Below w6.heap.size w6 w7 := by rw [← Hw7.out]; exact (Below.refl _ _).alloc (Nat.le_refl _) _
  have hrc := box_cells w6 (.pointer (some ⟨g, 0, none⟩)) (.int .i64 1) (.int .i64 3) 35
  rw [Hw7.out] at hrc
  have HRC7 := Lib.hid hrc
  have B57 := Lib.hid (below_on hb6 hb67)
  have hrof := rof_any ((HR5.out 0).below B57.out) (by show 4 ≤ _; omega) 1 3 (by omega) (by omega) (by omega) (by omega)
  rw [show ofB (List.replicate 4 (0 : Int)).length 1 3 = true from by decide] at hrof
  have HROF := Lib.hid hrof
  clear hb6 hb67 hrc hrof
  go_wp2_with fail
  rw [Hw7.out]
  go_wp2_with fail
  refine HROF.out.mono ?_
  rintro e w8 ⟨rfl, hb8⟩
  obtain ⟨w9, Hw9⟩ : ∃ w9, Hid (w8.alloc (.cells #[.pointer (some ⟨h, 0, none⟩), .int .i64 1, .int .i64 3] 40) = w9) := ⟨_, rfl⟩
  have hb89 : Below w8.heap.size w8 w9 := by rw [← Hw9.out]; exact (Below.refl _ _).alloc (Nat.le_refl _) _
  have hrc := box_cells w8 (.pointer (some ⟨h, 0, none⟩)) (.int .i64 1) (.int .i64 3) 40
  rw [Hw9.out] at hrc
  have HRC9 := Lib.hid hrc
  have hb79 := below_on hb8 hb89
  have B59 := Lib.hid (below_on B57.out hb79)
  obtain ⟨a0, a1, a2⟩ := HRC7.out w9 hb79
  have hnw := cnew_any 1 3 w9 ⟨g, gB, gW, cB, cW⟩ (freshD bx wn4) from_ (by omega) (by omega) ((HD5.out 0).below B59.out) OK0.out rfl (by have := Hbx.out; show _ ≤ bx.length; omega) f1 f2
  have HNW := Lib.hid hnw
  rw [← Hw9.out] at a0 a1 a2
  clear hb8 hb89 hrc hb79 hnw
  go_wp2_with fail
  rw [Hw9.out]
  refine HNW.out.mono ?_
  intro e w10 hp
  have hb10 := hp.1
  obtain ⟨c0', c1', c2'⟩ := HRC9.out w10 hb10
  have B510 := Lib.hid (below_on B59.out hb10)
  have hrn := rnewc_any 1 3 w10 h gP hW cP kW ⟨bx, List.replicate 4 0, 0, -1, [], false⟩ from_ (by omega) (by omega) (fun N => (HR5.out N).below B510.out) (by have := Hbx.out; show bx.length ≤ _; omega) f1 f2
  have HRN := Lib.hid hrn
  clear hrn
  by_cases hin : 0 ≤ from_ ∧ from_ ≤ 3072
  · obtain ⟨i1, i2⟩ := hin
    obtain ⟨n, rfl⟩ := Int.eq_ofNat_of_zero_le i1
    obtain ⟨-, hp2⟩ := hp
    have hsim : Sim (freshD bx wn4) ⟨bx, List.replicate 4 0, 0, -1, [], false⟩ := ⟨rfl, rfl, rfl, rfl, .inl ⟨rfl, by show (-1 : Int) < 0; omega⟩⟩
    obtain ⟨hd, Hhd⟩ : ∃ hd, Hid (dgRead (freshD bx wn4) 1 3 ((n : Int) / 8 * 8) ((n : Int) % 8) = (hd, 0)) := by
      have hl : bx.length = 4096 := Hbx.out
      refine ⟨(dgRead (freshD bx wn4) 1 3 ((n : Int) / 8 * 8) ((n : Int) % 8)).1, Lib.hid ?_⟩
      unfold dgRead dreadOf
      rw [if_neg (by simp [freshD]), if_pos ⟨by omega, by omega, by omega⟩, if_neg (by simp [freshD]), if_pos ⟨by omega, by omega, by show (((1 : Nat) : Int) * 1024 + (n : Int) / 8 * 8 + (n : Int) % 8) ≤ (bx.length : Int); omega⟩]
    have hrd2 : rgRead ⟨bx, List.replicate 4 0, 0, -1, [], false⟩ 1 3 ((n : Int) / 8 * 8) ((n : Int) % 8) = (hd, 0) := by rw [← sim3_read hsim]; exact Hhd.out
    have Hrd2 := Lib.hid hrd2
    have hdl : hd.length = n % 8 := by have := dgRead_len Hhd.out; omega
    rw [if_neg (by omega), Hhd.out, if_neg (by simp), Int.toNat_natCast] at hp2
    obtain ⟨gc, hgc, rfl, hcu⟩ := hp2
    have HCU := Lib.hid hcu
    have HGC : Hid (w9.heap.size ≤ gc ∧ gc < w10.heap.size) := Lib.hid (by
      obtain ⟨wd, hm, -⟩ := (hcu gc (Nat.le_refl _)).mem
      exact ⟨hgc, hm.blk⟩)
    have HB10 := Lib.hid hb10
    have Hdl := Lib.hid hdl
    have HSIM := Lib.hid hsim
    clear hb10 hsim hrd2 hcu hgc hdl
    go_wp2_with fail
    refine HRN.out.mono ?_
    intro e w11 hp
    obtain ⟨hb11, hp2⟩ := hp
    rw [if_neg (by omega), Hrd2.out, if_neg (by simp), Int.toNat_natCast] at hp2
    obtain ⟨q, hq1, hq2, hq3, hcr, rfl, href⟩ := hp2
    have hz9 := B59.out.size
    have hz10 := HB10.out.size
    have hz11 := hb11.size
    have HFX : Hid (∀ k, FlF h gP hW k ∨ OwnF ⟨g, gB, gW, cB, cW⟩ gc k → k < w10.heap.size) := Lib.hid fun k hk => by
      have h1 := HG.out
      have h2 := HH.out
      have h3 := HZ5.out
      have h4 := HGC.out
      have h5 := B3.out.size
      rcases hk with (e | e | e) | (e | e | e) | e <;> (try dsimp only at e) <;> omega
    have hrefp := href w11.heap.size _ HFX.out (Nat.le_refl _)
    have hqb : q.g < w11.heap.size ∧ q.r < w11.heap.size ∧ q.e < w11.heap.size := by
      obtain ⟨rd, en, hu, -, -⟩ := hrefp.cu
      exact hu.blk
    have HST0 : Hid (CSt ⟨⟨g, gB, gW, cB, cW⟩, gc, q, h, gP, hW, cP, kW, w11.heap.size, n / 1024⟩ 1 3 w 600000 w11 (cfirst (freshD bx wn4) n hd) (cfirst ⟨bx, List.replicate 4 0, 0, -1, [], false⟩ n hd)) := Lib.hid (by
      have h1 := HG.out
      have h2 := HH.out
      have h3 := HZ5.out
      have h4 := HGC.out
      have h5 := B3.out.size
      have h6 := B5.out.size
      have h7 := B2.out.size
      refine ⟨⟨(HCU.out (w11.heap.size - 1) (by omega)).below hb11, hrefp, fun j hj hx => ?_, fun j hj => ?_, fun j hj => ?_, Nat.le_refl _, hcr⟩, ⟨⟨HSIM.out, ⟨Hbx.out, by show 4 ≤ _; omega, fun x hx => by rw [(List.mem_replicate.1 hx).2]; omega, Int.le_refl _, by show (0 : Int) ≤ _; omega, Int.le_refl _, by show (-1 : Int) ≤ _; omega, by show 0 ≤ _; omega⟩, rfl, rfl⟩, rfl, rfl, rfl⟩, fun _ => ?_, HROOM.out.less (by omega), below_on B5.out (below_on B510.out hb11), fun j hj => ?_, Hbx.out⟩
      · rcases hj with (e | e | e) | e <;> rcases hx with (e' | e' | e') | e' | e' | e' <;> (try dsimp only at e e') <;> omega
      · have := HFX.out j (.inr hj)
        show j < w11.heap.size
        omega
      · rcases hj with (e | e | e) | e | e | e <;> (try dsimp only at e) <;> show j < w11.heap.size <;> omega
      · show n / 1024 ≤ (n - hd.length) / 1024
        rw [Hdl.out]
        omega
      · rcases hj with ((e | e | e) | e) | ((e | e | e) | e | e | e) <;> (try dsimp only at e) <;> omega)
    have kB0' : w11.cell? ⟨h, 0, none⟩ = some (.slice (some ⟨gP, 0, none⟩) 4096 cP) := by
      obtain ⟨AP, cc, hg', -, -⟩ := hrefp.fl.cells
      rw [cell_of_row _ _ _ _ _ _ hg']
      show some (Value.slice (some ⟨gP, 0, none⟩) bx.length cP) = _
      rw [Hbx.out]
    obtain ⟨p, Hp⟩ : ∃ p : CuA, Hid ((⟨⟨g, gB, gW, cB, cW⟩, gc, q, h, gP, hW, cP, kW, w11.heap.size, n / 1024⟩ : CuA) = p) := ⟨_, rfl⟩
    have HN1 : 1 ≤ p.N := by rw [← Hp.out]; show 1 ≤ w11.heap.size; have := HGC.out; omega
    rw [Hp.out] at HST0
    obtain rfl : p.fa.g = g := by rw [← Hp.out]
    obtain rfl : p.g = gc := by rw [← Hp.out]
    obtain rfl : p.q = q := by rw [← Hp.out]
    obtain rfl : p.h = h := by rw [← Hp.out]
    obtain rfl : p.hB = gP := by rw [← Hp.out]
    obtain rfl : p.kB = cP := by rw [← Hp.out]
    clear hb11 href hrefp hqb hq1 hq2 hq3 hcr
    go_wp2_with fail
    refine (num4_any _ _).mono ?_
    rintro e w' ⟨rfl, rfl⟩
    go_wp2_with fail
    go_loopw [18] (fun iv wr => ∃ (i : Nat) (u : Cu Dl) (v : Cu Fl), i ≤ L.length ∧ iv = .int .i64 (i : Int) ∧ Hid (CSt p 1 3 w (20000 * (30 - (i : Int))) wr u v)) (fun iv _ => L.length - (intOf iv).toNat)
    case atStart => exact ⟨0, _, _, Nat.zero_le _, rfl, Lib.hid (HST0.out.less (by omega))⟩
    case round =>
      obtain ⟨i, u, v, hi, rfl, HSt⟩ := hrel
      by_cases hlt : i < L.length
      · obtain ⟨ga, oa, rfl, hat⟩ := HL.out (by omega)
        have ha0 := hat i hlt
        obtain ⟨a, Ha⟩ : ∃ a, Hid (L[i] = a) := ⟨L[i], Lib.hid rfl⟩
        rw [Ha.out] at ha0
        have hal : a.b.length ≤ 1100 := by have := HLB.out L[i] (List.getElem_mem hlt); rw [Ha.out] at this; exact this
        obtain ⟨z, Hz⟩ : ∃ z, Hid (a.b.length = z) := ⟨_, rfl⟩
        have hzc : z ≤ a.c := by rw [← Hz.out]; exact ha0.c
        have hz1 : z ≤ 1100 := by rw [← Hz.out]; exact hal
        have hbz := HSt.out.bel.size
        have hga : ga < w.heap.size := World.block_lt_of_cell? w _ ha0.k
        have ha1 := ha0.below HSt.out.bel
        have hns : p.N ≤ wr.heap.size := HSt.out.cp.size
        have HHI := Lib.hid HSt.out.hi
        have LK : ∀ j x, wr.cell? ⟨ga, j, none⟩ = some x → ∀ W, Only (fun j => p.D j ∨ p.R j) wr W → W.cell? ⟨ga, j, none⟩ = some x := fun j x hv W hW => by
          rw [World.cell?_of_block (hW.block ga (by omega) (fun hx => by have : w.heap.size ≤ ga := HHI.out _ hx; omega))]; exact hv
        obtain ⟨kk, Hkk⟩ : ∃ kk, Hid (a.k = kk) := ⟨_, rfl⟩
        have l1' := LK _ _ ha1.k
        have l2' := LK _ _ ha1.n
        have l3' := LK _ _ ha1.s
        rw [Hkk.out] at l1'
        rw [Hz.out] at l3'
        have y1 := l1' wr (Only.refl _ _)
        have y3 := l3' wr (Only.refl _ _)
        have LL1 := Lib.hid l1'
        have LL2 := Lib.hid l2'
        have LL3 := Lib.hid l3'
        have HBA := Lib.hid ha1.b
        have HAO : Hid (0 < a.b.length → ∀ j, At a.A j → ¬ (p.D j ∨ p.R j)) := Lib.hid fun hl j hj hx => by
          obtain ⟨bb, oo, e, hc⟩ := ha0.b hl
          obtain ⟨aa, e', rfl⟩ := hj
          rw [e] at e'
          injection e' with e'
          subst e'
          have h1 : bb < w.heap.size := by simpa using World.block_lt_of_cell? w _ (hc 0 hl)
          have h2 : w.heap.size ≤ bb := HHI.out _ hx
          omega
        have dL : decide ((i : Int) < (L.length : Int)) = true := decide_eq_true (by omega)
        clear hat l1' l2' l3' ha1 LK
        go_wp2_with (at_builtin; refine wpList_append_bs rfl (.const (.slice none 0 0)) (.tmp 100) 22 rfl wr.heap.size 5 Try.underlying22 info5 (.slice none 0 0) [] rfl (Ob.nil_ _ _ _) a.A a.b z a.c rfl Hz.out.symm HBA.out (by rw [Hz.out]; simp; omega) (Nat.le_refl _) ?_)
        intro vb wb hob hgr
        have kbb : Below wr.heap.size wr wb := below_of_grown hgr
        try rw [List.nil_append] at hob
        obtain ⟨Ab, cbb, rfl, hbb, -⟩ := hob.form
        rw [Hz.out]
        have hbc : z ≤ cbb := by rw [← Hz.out]; exact ob_capN hob
        have hbo : 0 < a.b.length → ∀ j, At Ab j → ¬ p.D j := fun _ j hj hx => by
          have h1 := hob.fresh j hj
          have h2 := HSt.out.cp.d2 j hx
          omega
        have OWB : ∀ W, Only (fun j => p.D j ∨ p.R j) wb W → Only (fun j => p.D j ∨ p.R j) wr W := fun W hW => (Only.of_below kbb).trans hW
        have e1 : ∀ W, Only (fun j => p.D j ∨ p.R j) wb W → W.cell? ⟨ga, oa + i * 3, none⟩ = some (.int .i64 kk) := fun W hW => LL1.out W (OWB W hW)
        have e2 : ∀ W, Only (fun j => p.D j ∨ p.R j) wb W → W.cell? ⟨ga, oa + i * 3 + 1, none⟩ = some (.int .i64 a.n) := fun W hW => LL2.out W (OWB W hW)
        have e3 : ∀ W, Only (fun j => p.D j ∨ p.R j) wb W → W.cell? ⟨ga, oa + i * 3 + 2, none⟩ = some (.slice a.A z a.c) := fun W hW => LL3.out W (OWB W hW)
        have y1b := e1 wb (Only.refl _ _)
        have y2b := e2 wb (Only.refl _ _)
        have HAB : Hid (∀ W, Only (fun j => p.D j ∨ p.R j) wb W → Bs W a.A a.b) := Lib.hid fun W hW => HBA.out.offs HAO.out (OWB W hW)
        have HSB : Hid (CSt p 1 3 w ((20000 * (30 - (i : Int)) - 20000) + 20000) wb u v) := Lib.hid ((HSt.out.below kbb).less (by omega))
        clear hob hgr y1 y3 OWB
        by_cases hk1 : kk = 1
        · subst hk1
          obtain ⟨rc, HRC⟩ : ∃ rc, Hid (rc = (cwrite (refOps 1 3) v a.b).1) := ⟨_, rfl⟩
          have hwsu := (write_su (a := 1) (c := 3) HSB.out.su a.b (HSB.out.rm.less (by rw [Hz.out]; omega))).1
          have HST := HSB
          have hdw := cp_dwrite (HST.out.cp.below (Below.refl _ _).drew) Ab a.b cbb (hbb.below (Below.refl _ _).drew) (fun hl j hj hx => hbo hl j hj hx) (by rw [Hz.out]; exact hbc) (by rw [Hz.out]; omega) (HST.out.rm.less (by rw [Hz.out]; omega))
          rw [Hz.out, hwsu, ← HRC.out] at hdw
          have HDW := Lib.hid hdw
          clear hwsu hdw
          go_wp2_with fail
          refine wp_region_noPanic ?_
          refine wp_region_held_drew (S := fun W => Only (fun j => p.D j ∨ p.R j) wb W) (by kernel_rfl) (by exact (Only.refl _ _).drew) (fun hS => ?_)
          refine' take_at 0 rfl (by kernel_rfl) (by kernel_rfl) (by kernel_rfl) (fun _ _ _ h => h) (by rfl) hS ?_ ?_ ?_
          rotate_left 2
          · intro W hSW; go_simp; try with_reducible rfl
          · simp only [List.set_cons_succ, List.set_cons_zero]; rfl
          refine' take_at 1 rfl (by kernel_rfl) (by kernel_rfl) (by kernel_rfl) (fun _ _ _ h => h) (by rfl) hS ?_ ?_ ?_
          rotate_left 2
          · intro W hSW; go_simp; try with_reducible rfl
          · simp only [List.set_cons_succ, List.set_cons_zero]; rfl
          refine' take_at 4 rfl (by kernel_rfl) (by kernel_rfl) (by kernel_rfl) (fun _ _ _ h => h) (by rfl) hS ?_ ?_ ?_
          rotate_left 2
          · intro W hSW; go_simp; try with_reducible rfl
          · simp only [List.set_cons_succ, List.set_cons_zero]; rfl
          refine' take_at 5 rfl (by kernel_rfl) (by kernel_rfl) (by kernel_rfl) (fun _ _ _ h => h) (by rfl) hS ?_ ?_ ?_
          rotate_left 2
          · intro W hSW; go_simp; try with_reducible rfl
          · simp only [List.set_cons_succ, List.set_cons_zero]; rfl
          refine' take_at 6 rfl (by kernel_rfl) (by kernel_rfl) (by kernel_rfl) (fun _ _ _ h => h) (by rfl) hS ?_ ?_ ?_
          rotate_left 2
          · intro W hSW; go_simp; try with_reducible rfl
          · simp only [List.set_cons_succ, List.set_cons_zero]; rfl
          refine' take_at 7 rfl (by kernel_rfl) (by kernel_rfl) (by kernel_rfl) (fun _ _ _ h => h) (by rfl) hS ?_ ?_ ?_
          rotate_left 2
          · intro W hSW; go_simp; try with_reducible rfl
          · simp only [List.set_cons_succ, List.set_cons_zero]; rfl
          refine' take_at 8 rfl (by kernel_rfl) (by kernel_rfl) (by kernel_rfl) (fun _ _ _ h => h) (by rfl) hS ?_ ?_ ?_
          rotate_left 2
          · intro W hSW; go_simp; try with_reducible rfl
          · simp only [List.set_cons_succ, List.set_cons_zero]; rfl
          refine' take_at 9 rfl (by kernel_rfl) (by kernel_rfl) (by kernel_rfl) (fun _ _ _ h => h) (by rfl) hS ?_ ?_ ?_
          rotate_left 2
          · intro W hSW; go_simp; try with_reducible rfl
          · simp only [List.set_cons_succ, List.set_cons_zero]; rfl
          refine call_at 2 rfl (by kernel_rfl) (by rfl) (fun K hK => ?_)
          go_simp
          (with_reducible refine HDW.out.mono ?_)
          rintro e w5 ⟨rfl, hc5, ho5⟩
          have hrw := cp_rwrite hc5 HST.out.su HST.out.cp.dev.num HST.out.lo (by omega) (by omega) a.A a.b a.c (HAB.out _ ((Only.refl _ _).drew.trans (ho5.mono fun _ _ h => .inl h))) (fun hl j hj hx => HAO.out hl j hj (.inr hx)) (by rw [Hz.out]; exact hzc) (by rw [Hz.out]; omega) (HST.out.rm.less (by rw [Hz.out]; omega))
          rw [Hz.out, ← HRC.out] at hrw
          have HRW := Lib.hid hrw
          have kS5 : Only (fun j => p.D j ∨ p.R j) wb w5 := (Only.refl _ _).drew.trans (ho5.mono fun _ _ h => .inl h)
          have HC5 := Lib.hid hc5
          clear hS hc5 ho5 hrw
          refine hK.out _ _ (by exact kS5) (fun hS => ?_)
          clear hK K
          refine call_at 3 rfl (by kernel_rfl) (by rfl) (fun K hK => ?_)
          go_simp
          refine (num4_any _ _).mono ?_
          rintro e w' ⟨rfl, rfl⟩
          refine hK.out _ _ (by exact hS) (fun hS => ?_)
          clear hK K
          refine call_at 10 rfl (by kernel_rfl) (by rfl) (fun K hK => ?_)
          go_simp
          (with_reducible refine HRW.out.mono ?_)
          rintro e w6 ⟨rfl, hc6, ho6⟩
          have kS6 : Only (fun j => p.D j ∨ p.R j) wb w6 := kS5.trans (ho6.mono fun _ _ h => .inr h)
          have HC6 := Lib.hid hc6
          clear hS hc6 ho6
          refine hK.out _ _ (by exact kS6) (fun hS => ?_)
          clear hK K
          refine' take_at 11 rfl (by kernel_rfl) (by kernel_rfl) (by kernel_rfl) (fun _ _ _ h => h) (by rfl) hS ?_ ?_ ?_
          rotate_left 2
          · intro W hSW; go_simp; try with_reducible rfl
          · simp only [List.set_cons_succ, List.set_cons_zero]; rfl
          refine' take_at 12 rfl (by kernel_rfl) (by kernel_rfl) (by kernel_rfl) (fun _ _ _ h => h) (by rfl) hS ?_ ?_ ?_
          rotate_left 2
          · intro W hSW; go_simp; try with_reducible rfl
          · simp only [List.set_cons_succ, List.set_cons_zero]; rfl
          refine wpAnyH_done (by kernel_rfl) ?_ _
          refine NoPanic.normal ?_
          have HSC0 := cst_write (by omega) HSB.out (by rw [Hz.out]; omega) HC6.out kS6
          obtain ⟨wc, Hwc⟩ : ∃ wc, Hid (w6 = wc) := ⟨_, rfl⟩
          rw [Hwc.out] at HSC0 ⊢
          have HSC := Lib.hid HSC0
          clear HSC0
          go_wp2_with fail
          obtain ⟨sn, zz, sst, sh, AH, cH, HASK⟩ := cst_ask HSC.out
          have n3 : ∀ W, Below wc.heap.size wc W → W.cell? ⟨p.q.g, 3, none⟩ = some (.int .i64 sn) := HASK.out.2.1
          have n4 : ∀ W, Below wc.heap.size wc W → W.cell? ⟨p.q.g, 4, none⟩ = some (.slice AH zz cH) := HASK.out.2.2.2.2.2.1
          have n2 : ∀ W, Below wc.heap.size wc W → W.cell? ⟨p.h, 2, none⟩ = some (.int .i64 sst) := HASK.out.2.2.2.2.2.2.2.2
          have n5 : ∀ W, Below wc.heap.size wc W → (convert 22 9 (.slice AH zz cH)).run Try.prog W = .ok (.string sh) W := fun W hW => conv_now (HASK.out.2.2.2.2.2.2.1 W hW) HASK.out.2.2.2.1.symm HASK.out.2.2.2.2.1
          refine wp_region_noPanic ?_
          refine wp_region_held_drew (S := fun W => Below wc.heap.size wc W) (by kernel_rfl) (by exact (Below.refl _ _).drew) (fun hS => ?_)
          refine' take_at 0 rfl (by kernel_rfl) (by kernel_rfl) (by kernel_rfl) (fun _ _ _ h => h) (by rfl) hS ?_ ?_ ?_
          rotate_left 2
          · intro W hSW; go_simp; try with_reducible rfl
          · simp only [List.set_cons_succ, List.set_cons_zero]; rfl
          refine' take_at 1 rfl (by kernel_rfl) (by kernel_rfl) (by kernel_rfl) (fun _ _ _ h => h) (by rfl) hS ?_ ?_ ?_
          rotate_left 2
          · intro W hSW; go_simp; try with_reducible rfl
          · simp only [List.set_cons_succ, List.set_cons_zero]; rfl
          refine' take_at 2 rfl (by kernel_rfl) (by kernel_rfl) (by kernel_rfl) (fun _ _ _ h => h) (by rfl) hS ?_ ?_ ?_
          rotate_left 2
          · intro W hSW; go_simp; try with_reducible rfl
          · simp only [List.set_cons_succ, List.set_cons_zero]; rfl
          refine' take_at 3 rfl (by kernel_rfl) (by kernel_rfl) (by kernel_rfl) (fun _ _ _ h => h) (by rfl) hS ?_ ?_ ?_
          rotate_left 2
          · intro W hSW; go_simp; try with_reducible rfl
          · simp only [List.set_cons_succ, List.set_cons_zero]; rfl
          refine' take_at 5 rfl (by kernel_rfl) (by kernel_rfl) (by kernel_rfl) (fun _ _ _ h => h) (by rfl) hS ?_ ?_ ?_
          rotate_left 2
          · intro W hSW; go_simp; try with_reducible rfl
          · simp only [List.set_cons_succ, List.set_cons_zero]; rfl
          refine' take_at 6 rfl (by kernel_rfl) (by kernel_rfl) (by kernel_rfl) (fun _ _ _ h => h) (by rfl) hS ?_ ?_ ?_
          rotate_left 2
          · intro W hSW; go_simp; try with_reducible rfl
          · simp only [List.set_cons_succ, List.set_cons_zero]; rfl
          refine' take_at 7 rfl (by kernel_rfl) (by kernel_rfl) (by kernel_rfl) (fun _ _ _ h => h) (by rfl) hS ?_ ?_ ?_
          rotate_left 2
          · intro W hSW; go_simp; try with_reducible rfl
          · simp only [List.set_cons_succ, List.set_cons_zero]; rfl
          refine' take_at 8 rfl (by kernel_rfl) (by kernel_rfl) (by kernel_rfl) (fun _ _ _ h => h) (by rfl) hS ?_ ?_ ?_
          rotate_left 2
          · intro W hSW; go_simp; try with_reducible rfl
          · simp only [List.set_cons_succ, List.set_cons_zero]; rfl
          refine call_at 4 rfl (by kernel_rfl) (by rfl) (fun K hK => ?_)
          go_simp
          refine (HASK.out.1 _ hS).mono ?_
          rintro e w' ⟨rfl, rfl⟩
          refine hK.out _ _ (by exact hS) (fun hS => ?_)
          clear hK K
          refine' take_at 9 rfl (by kernel_rfl) (by kernel_rfl) (by kernel_rfl) (fun _ _ _ h => h) (by rfl) hS ?_ ?_ ?_
          rotate_left 2
          · intro W hSW; go_simp; try with_reducible rfl
          · simp only [List.set_cons_succ, List.set_cons_zero]; rfl
          refine' take_at 10 rfl (by kernel_rfl) (by kernel_rfl) (by kernel_rfl) (fun _ _ _ h => h) (by rfl) hS ?_ ?_ ?_
          rotate_left 2
          · intro W hSW; go_simp; try with_reducible rfl
          · simp only [List.set_cons_succ, List.set_cons_zero]; rfl
          refine' take_at 11 rfl (by kernel_rfl) (by kernel_rfl) (by kernel_rfl) (fun _ _ _ h => h) (by rfl) hS ?_ ?_ ?_
          rotate_left 2
          · intro W hSW; go_simp; try with_reducible rfl
          · simp only [List.set_cons_succ, List.set_cons_zero]; rfl
          refine' take_at 12 rfl (by kernel_rfl) (by kernel_rfl) (by kernel_rfl) (fun _ _ _ h => h) (by rfl) hS ?_ ?_ ?_
          rotate_left 2
          · intro W hSW; go_simp; try with_reducible rfl
          · simp only [List.set_cons_succ, List.set_cons_zero]; rfl
          refine' take_at 15 rfl (by kernel_rfl) (by kernel_rfl) (by kernel_rfl) (fun _ _ _ h => h) (by rfl) hS ?_ ?_ ?_
          rotate_left 2
          · intro W hSW; go_simp; try with_reducible rfl
          · simp only [List.set_cons_succ, List.set_cons_zero]; rfl
          refine' take_at 16 rfl (by kernel_rfl) (by kernel_rfl) (by kernel_rfl) (fun _ _ _ h => h) (by rfl) hS ?_ ?_ ?_
          rotate_left 2
          · intro W hSW; go_simp; try with_reducible rfl
          · simp only [List.set_cons_succ, List.set_cons_zero]; rfl
          refine' take_at 17 rfl (by kernel_rfl) (by kernel_rfl) (by kernel_rfl) (fun _ _ _ h => h) (by rfl) hS ?_ ?_ ?_
          rotate_left 2
          · intro W hSW; go_simp; try with_reducible rfl
          · simp only [List.set_cons_succ, List.set_cons_zero]; rfl
          refine' take_at 18 rfl (by kernel_rfl) (by kernel_rfl) (by kernel_rfl) (fun _ _ _ h => h) (by rfl) hS ?_ ?_ ?_
          rotate_left 2
          · intro W hSW; go_simp; try with_reducible rfl
          · simp only [List.set_cons_succ, List.set_cons_zero]; rfl
          refine' take_at 19 rfl (by kernel_rfl) (by kernel_rfl) (by kernel_rfl) (fun _ _ _ h => h) (by rfl) hS ?_ ?_ ?_
          rotate_left 2
          · intro W hSW; go_simp; try with_reducible rfl
          · simp only [List.set_cons_succ, List.set_cons_zero]; rfl
          refine call_at 13 rfl (by kernel_rfl) (by rfl) (fun K hK => ?_)
          go_simp
          refine (HASK.out.2.2.1 _ hS).mono ?_
          rintro e w7 ⟨v7, rfl, ho7, hb7⟩
          obtain ⟨A7, c7, rfl, hbs7, -⟩ := ho7.form
          rw [HASK.out.2.2.2.1]
          have kS7 := below_on hS hb7
          have m7 : ∀ W, Below w7.heap.size w7 W → (convert 22 9 (.slice A7 zz c7)).run Try.prog W = .ok (.string sh) W := fun W hW => conv_now (hbs7.below hW) HASK.out.2.2.2.1.symm HASK.out.2.2.2.2.1
          have m8 : ∀ W, Below w7.heap.size w7 W → (convert 22 9 (.slice AH zz cH)).run Try.prog W = .ok (.string sh) W := fun W hW => conv_now (HASK.out.2.2.2.2.2.2.1 W (below_on kS7 hW)) HASK.out.2.2.2.1.symm HASK.out.2.2.2.2.1
          have m9 : ∀ W, Below w7.heap.size w7 W → W.cell? ⟨p.q.g, 4, none⟩ = some (.slice AH zz cH) := fun W hW => HASK.out.2.2.2.2.2.1 W (below_on kS7 hW)
          have m10 : ∀ W, Below w7.heap.size w7 W → W.cell? ⟨p.h, 2, none⟩ = some (.int .i64 sst) := fun W hW => HASK.out.2.2.2.2.2.2.2.2 W (below_on kS7 hW)
          have HX7 := Lib.hid hbs7
          clear hS ho7 hb7 hbs7
          refine hK.out _ _ (by exact kS7) (fun hS => ?_)
          clear hK K
          refine held_mono (S2 := fun W => Below w7.heap.size w7 W) (fun W hW => below_on kS7 hW) _ _ _ _ ?_
          replace hS : Below w7.heap.size w7 w7 := Below.refl _ _
          refine' take_at 14 rfl (by kernel_rfl) (by kernel_rfl) (by kernel_rfl) (fun _ _ _ h => h) (by rfl) hS ?_ ?_ ?_
          rotate_left 2
          · intro W hSW; go_simp; try with_reducible rfl
          · simp only [List.set_cons_succ, List.set_cons_zero]; rfl
          refine' take_at 20 rfl (by kernel_rfl) (by kernel_rfl) (by kernel_rfl) (fun _ _ _ h => h) (by rfl) hS ?_ ?_ ?_
          rotate_left 2
          · intro W hSW; go_simp; try with_reducible rfl
          · simp only [List.set_cons_succ, List.set_cons_zero]; rfl
          refine' take_at 21 rfl (by kernel_rfl) (by kernel_rfl) (by kernel_rfl) (fun _ _ _ h => h) (by rfl) hS ?_ ?_ ?_
          rotate_left 2
          · intro W hSW; go_simp; try with_reducible rfl
          · simp only [List.set_cons_succ, List.set_cons_zero]; rfl
          refine' take_at 22 rfl (by kernel_rfl) (by kernel_rfl) (by kernel_rfl) (fun _ _ _ h => h) (by rfl) hS ?_ ?_ ?_
          rotate_left 2
          · intro W hSW; go_simp; try with_reducible rfl
          · simp only [List.set_cons_succ, List.set_cons_zero]; rfl
          refine' take_at 23 rfl (by kernel_rfl) (by kernel_rfl) (by kernel_rfl) (fun _ _ _ h => h) (by rfl) hS ?_ ?_ ?_
          rotate_left 2
          · intro W hSW; go_simp; try with_reducible rfl
          · simp only [List.set_cons_succ, List.set_cons_zero]; rfl
          refine' take_at 25 rfl (by kernel_rfl) (by kernel_rfl) (by kernel_rfl) (fun _ _ _ h => h) (by rfl) hS ?_ ?_ ?_
          rotate_left 2
          · intro W hSW; go_simp; try with_reducible rfl
          · simp only [List.set_cons_succ, List.set_cons_zero]; rfl
          refine' take_at 26 rfl (by kernel_rfl) (by kernel_rfl) (by kernel_rfl) (fun _ _ _ h => h) (by rfl) hS ?_ ?_ ?_
          rotate_left 2
          · intro W hSW; go_simp; try with_reducible rfl
          · simp only [List.set_cons_succ, List.set_cons_zero]; rfl
          refine' take_at 27 rfl (by kernel_rfl) (by kernel_rfl) (by kernel_rfl) (fun _ _ _ h => h) (by rfl) hS ?_ ?_ ?_
          rotate_left 2
          · intro W hSW; go_simp; try with_reducible rfl
          · simp only [List.set_cons_succ, List.set_cons_zero]; rfl
          refine' take_at 28 rfl (by kernel_rfl) (by kernel_rfl) (by kernel_rfl) (fun _ _ _ h => h) (by rfl) hS ?_ ?_ ?_
          rotate_left 2
          · intro W hSW; go_simp; try with_reducible rfl
          · simp only [List.set_cons_succ, List.set_cons_zero]; rfl
          refine call_at 24 rfl (by kernel_rfl) (by rfl) (fun K hK => ?_)
          go_simp
          refine (HASK.out.2.2.2.2.2.2.2.1 _ (below_on kS7 hS)).mono ?_
          rintro e w' ⟨rfl, rfl⟩
          refine hK.out _ _ (by exact hS) (fun hS => ?_)
          clear hK K
          refine' take_at 29 rfl (by kernel_rfl) (by kernel_rfl) (by kernel_rfl) (fun _ _ _ h => h) (by rfl) hS ?_ ?_ ?_
          rotate_left 2
          · intro W hSW; go_simp; try with_reducible rfl
          · simp only [List.set_cons_succ, List.set_cons_zero]; rfl
          refine' take_at 30 rfl (by kernel_rfl) (by kernel_rfl) (by kernel_rfl) (fun _ _ _ h => h) (by rfl) hS ?_ ?_ ?_
          rotate_left 2
          · intro W hSW; go_simp; try with_reducible rfl
          · simp only [List.set_cons_succ, List.set_cons_zero]; rfl
          refine wpAnyH_done (by kernel_rfl) ?_ _
          refine NoPanic.normal ?_
          go_wp2_with fail
          go_roundw
          case rel => exact ⟨i + 1, _, _, by omega, by go_num, Lib.hid ((HSC.out.below (below_on kS7 hS)).less (by omega))⟩
          case measure => simp [intOf]; omega
        · have k1f : (kk == 1) = false := by simpa using hk1
          by_cases hk2 : kk = 2
          · subst hk2
            obtain ⟨rc, HRC⟩ : ∃ rc, Hid (rc = (cflush (refOps 1 3) v).1) := ⟨_, rfl⟩
            have hwsu := (flush_su (a := 1) (c := 3) HSB.out.su (HSB.out.rm.less (by omega)) HSB.out.cp.dev.num.hl).1
            have hdw := cp_dflush HSB.out.cp (HSB.out.rm.less (by omega))
            rw [hwsu, ← HRC.out] at hdw
            have HDW := Lib.hid hdw
            clear hwsu hdw
            go_wp2_with fail
            (with_reducible refine HDW.out.mono ?_)
            rintro e w5 ⟨rfl, hc5, ho5⟩
            have hrw := cp_rflush hc5 HSB.out.su HSB.out.cp.dev.num HSB.out.lo (by omega) (by omega) (HSB.out.rm.less (by omega))
            rw [← HRC.out] at hrw
            have HRW := Lib.hid hrw
            have HO5 := Lib.hid ho5
            clear hc5 ho5 hrw
            go_wp2_with fail
            refine (num4_any _ _).mono ?_
            rintro e w' ⟨rfl, rfl⟩
            go_wp2_with fail
            (with_reducible refine HRW.out.mono ?_)
            rintro e w6 ⟨rfl, hc6, ho6⟩
            have HSC0 := cst_flush (by omega) HSB.out hc6 ((HO5.out.mono fun _ _ h => .inl h).trans (ho6.mono fun _ _ h => .inr h))
            obtain ⟨wc, Hwc⟩ : ∃ wc, Hid (w6 = wc) := ⟨_, rfl⟩
            rw [Hwc.out] at HSC0 ⊢
            have HSC := Lib.hid HSC0
            clear HSC0 hc6 ho6
            go_wp2_with fail
            obtain ⟨sn, zz, sst, sh, AH, cH, HASK⟩ := cst_ask HSC.out
            have n3 : ∀ W, Below wc.heap.size wc W → W.cell? ⟨p.q.g, 3, none⟩ = some (.int .i64 sn) := HASK.out.2.1
            have n4 : ∀ W, Below wc.heap.size wc W → W.cell? ⟨p.q.g, 4, none⟩ = some (.slice AH zz cH) := HASK.out.2.2.2.2.2.1
            have n2 : ∀ W, Below wc.heap.size wc W → W.cell? ⟨p.h, 2, none⟩ = some (.int .i64 sst) := HASK.out.2.2.2.2.2.2.2.2
            have n5 : ∀ W, Below wc.heap.size wc W → (convert 22 9 (.slice AH zz cH)).run Try.prog W = .ok (.string sh) W := fun W hW => conv_now (HASK.out.2.2.2.2.2.2.1 W hW) HASK.out.2.2.2.1.symm HASK.out.2.2.2.2.1
            refine wp_region_noPanic ?_
            refine wp_region_held_drew (S := fun W => Below wc.heap.size wc W) (by kernel_rfl) (by exact (Below.refl _ _).drew) (fun hS => ?_)
            refine' take_at 0 rfl (by kernel_rfl) (by kernel_rfl) (by kernel_rfl) (fun _ _ _ h => h) (by rfl) hS ?_ ?_ ?_
            rotate_left 2
            · intro W hSW; go_simp; try with_reducible rfl
            · simp only [List.set_cons_succ, List.set_cons_zero]; rfl
            refine' take_at 1 rfl (by kernel_rfl) (by kernel_rfl) (by kernel_rfl) (fun _ _ _ h => h) (by rfl) hS ?_ ?_ ?_
            rotate_left 2
            · intro W hSW; go_simp; try with_reducible rfl
            · simp only [List.set_cons_succ, List.set_cons_zero]; rfl
            refine' take_at 2 rfl (by kernel_rfl) (by kernel_rfl) (by kernel_rfl) (fun _ _ _ h => h) (by rfl) hS ?_ ?_ ?_
            rotate_left 2
            · intro W hSW; go_simp; try with_reducible rfl
            · simp only [List.set_cons_succ, List.set_cons_zero]; rfl
            refine' take_at 3 rfl (by kernel_rfl) (by kernel_rfl) (by kernel_rfl) (fun _ _ _ h => h) (by rfl) hS ?_ ?_ ?_
            rotate_left 2
            · intro W hSW; go_simp; try with_reducible rfl
            · simp only [List.set_cons_succ, List.set_cons_zero]; rfl
            refine' take_at 5 rfl (by kernel_rfl) (by kernel_rfl) (by kernel_rfl) (fun _ _ _ h => h) (by rfl) hS ?_ ?_ ?_
            rotate_left 2
            · intro W hSW; go_simp; try with_reducible rfl
            · simp only [List.set_cons_succ, List.set_cons_zero]; rfl
            refine' take_at 6 rfl (by kernel_rfl) (by kernel_rfl) (by kernel_rfl) (fun _ _ _ h => h) (by rfl) hS ?_ ?_ ?_
            rotate_left 2
            · intro W hSW; go_simp; try with_reducible rfl
            · simp only [List.set_cons_succ, List.set_cons_zero]; rfl
            refine' take_at 7 rfl (by kernel_rfl) (by kernel_rfl) (by kernel_rfl) (fun _ _ _ h => h) (by rfl) hS ?_ ?_ ?_
            rotate_left 2
            · intro W hSW; go_simp; try with_reducible rfl
            · simp only [List.set_cons_succ, List.set_cons_zero]; rfl
            refine' take_at 8 rfl (by kernel_rfl) (by kernel_rfl) (by kernel_rfl) (fun _ _ _ h => h) (by rfl) hS ?_ ?_ ?_
            rotate_left 2
            · intro W hSW; go_simp; try with_reducible rfl
            · simp only [List.set_cons_succ, List.set_cons_zero]; rfl
            refine call_at 4 rfl (by kernel_rfl) (by rfl) (fun K hK => ?_)
            go_simp
            refine (HASK.out.1 _ hS).mono ?_
            rintro e w' ⟨rfl, rfl⟩
            refine hK.out _ _ (by exact hS) (fun hS => ?_)
            clear hK K
            refine' take_at 9 rfl (by kernel_rfl) (by kernel_rfl) (by kernel_rfl) (fun _ _ _ h => h) (by rfl) hS ?_ ?_ ?_
            rotate_left 2
            · intro W hSW; go_simp; try with_reducible rfl
            · simp only [List.set_cons_succ, List.set_cons_zero]; rfl
            refine' take_at 10 rfl (by kernel_rfl) (by kernel_rfl) (by kernel_rfl) (fun _ _ _ h => h) (by rfl) hS ?_ ?_ ?_
            rotate_left 2
            · intro W hSW; go_simp; try with_reducible rfl
            · simp only [List.set_cons_succ, List.set_cons_zero]; rfl
            refine' take_at 11 rfl (by kernel_rfl) (by kernel_rfl) (by kernel_rfl) (fun _ _ _ h => h) (by rfl) hS ?_ ?_ ?_
            rotate_left 2
            · intro W hSW; go_simp; try with_reducible rfl
            · simp only [List.set_cons_succ, List.set_cons_zero]; rfl
            refine' take_at 12 rfl (by kernel_rfl) (by kernel_rfl) (by kernel_rfl) (fun _ _ _ h => h) (by rfl) hS ?_ ?_ ?_
            rotate_left 2
            · intro W hSW; go_simp; try with_reducible rfl
            · simp only [List.set_cons_succ, List.set_cons_zero]; rfl
            refine' take_at 15 rfl (by kernel_rfl) (by kernel_rfl) (by kernel_rfl) (fun _ _ _ h => h) (by rfl) hS ?_ ?_ ?_
            rotate_left 2
            · intro W hSW; go_simp; try with_reducible rfl
            · simp only [List.set_cons_succ, List.set_cons_zero]; rfl
            refine' take_at 16 rfl (by kernel_rfl) (by kernel_rfl) (by kernel_rfl) (fun _ _ _ h => h) (by rfl) hS ?_ ?_ ?_
            rotate_left 2
            · intro W hSW; go_simp; try with_reducible rfl
            · simp only [List.set_cons_succ, List.set_cons_zero]; rfl
            refine' take_at 17 rfl (by kernel_rfl) (by kernel_rfl) (by kernel_rfl) (fun _ _ _ h => h) (by rfl) hS ?_ ?_ ?_
            rotate_left 2
            · intro W hSW; go_simp; try with_reducible rfl
            · simp only [List.set_cons_succ, List.set_cons_zero]; rfl
            refine' take_at 18 rfl (by kernel_rfl) (by kernel_rfl) (by kernel_rfl) (fun _ _ _ h => h) (by rfl) hS ?_ ?_ ?_
            rotate_left 2
            · intro W hSW; go_simp; try with_reducible rfl
            · simp only [List.set_cons_succ, List.set_cons_zero]; rfl
            refine' take_at 19 rfl (by kernel_rfl) (by kernel_rfl) (by kernel_rfl) (fun _ _ _ h => h) (by rfl) hS ?_ ?_ ?_
            rotate_left 2
            · intro W hSW; go_simp; try with_reducible rfl
            · simp only [List.set_cons_succ, List.set_cons_zero]; rfl
            refine call_at 13 rfl (by kernel_rfl) (by rfl) (fun K hK => ?_)
            go_simp
            refine (HASK.out.2.2.1 _ hS).mono ?_
            rintro e w7 ⟨v7, rfl, ho7, hb7⟩
            obtain ⟨A7, c7, rfl, hbs7, -⟩ := ho7.form
            rw [HASK.out.2.2.2.1]
            have kS7 := below_on hS hb7
            have m7 : ∀ W, Below w7.heap.size w7 W → (convert 22 9 (.slice A7 zz c7)).run Try.prog W = .ok (.string sh) W := fun W hW => conv_now (hbs7.below hW) HASK.out.2.2.2.1.symm HASK.out.2.2.2.2.1
            have m8 : ∀ W, Below w7.heap.size w7 W → (convert 22 9 (.slice AH zz cH)).run Try.prog W = .ok (.string sh) W := fun W hW => conv_now (HASK.out.2.2.2.2.2.2.1 W (below_on kS7 hW)) HASK.out.2.2.2.1.symm HASK.out.2.2.2.2.1
            have m9 : ∀ W, Below w7.heap.size w7 W → W.cell? ⟨p.q.g, 4, none⟩ = some (.slice AH zz cH) := fun W hW => HASK.out.2.2.2.2.2.1 W (below_on kS7 hW)
            have m10 : ∀ W, Below w7.heap.size w7 W → W.cell? ⟨p.h, 2, none⟩ = some (.int .i64 sst) := fun W hW => HASK.out.2.2.2.2.2.2.2.2 W (below_on kS7 hW)
            have HX7 := Lib.hid hbs7
            clear hS ho7 hb7 hbs7
            refine hK.out _ _ (by exact kS7) (fun hS => ?_)
            clear hK K
            refine held_mono (S2 := fun W => Below w7.heap.size w7 W) (fun W hW => below_on kS7 hW) _ _ _ _ ?_
            replace hS : Below w7.heap.size w7 w7 := Below.refl _ _
            refine' take_at 14 rfl (by kernel_rfl) (by kernel_rfl) (by kernel_rfl) (fun _ _ _ h => h) (by rfl) hS ?_ ?_ ?_
            rotate_left 2
            · intro W hSW; go_simp; try with_reducible rfl
            · simp only [List.set_cons_succ, List.set_cons_zero]; rfl
            refine' take_at 20 rfl (by kernel_rfl) (by kernel_rfl) (by kernel_rfl) (fun _ _ _ h => h) (by rfl) hS ?_ ?_ ?_
            rotate_left 2
            · intro W hSW; go_simp; try with_reducible rfl
            · simp only [List.set_cons_succ, List.set_cons_zero]; rfl
            refine' take_at 21 rfl (by kernel_rfl) (by kernel_rfl) (by kernel_rfl) (fun _ _ _ h => h) (by rfl) hS ?_ ?_ ?_
            rotate_left 2
            · intro W hSW; go_simp; try with_reducible rfl
            · simp only [List.set_cons_succ, List.set_cons_zero]; rfl
            refine' take_at 22 rfl (by kernel_rfl) (by kernel_rfl) (by kernel_rfl) (fun _ _ _ h => h) (by rfl) hS ?_ ?_ ?_
            rotate_left 2
            · intro W hSW; go_simp; try with_reducible rfl
            · simp only [List.set_cons_succ, List.set_cons_zero]; rfl
            refine' take_at 23 rfl (by kernel_rfl) (by kernel_rfl) (by kernel_rfl) (fun _ _ _ h => h) (by rfl) hS ?_ ?_ ?_
            rotate_left 2
            · intro W hSW; go_simp; try with_reducible rfl
            · simp only [List.set_cons_succ, List.set_cons_zero]; rfl
            refine' take_at 25 rfl (by kernel_rfl) (by kernel_rfl) (by kernel_rfl) (fun _ _ _ h => h) (by rfl) hS ?_ ?_ ?_
            rotate_left 2
            · intro W hSW; go_simp; try with_reducible rfl
            · simp only [List.set_cons_succ, List.set_cons_zero]; rfl
            refine' take_at 26 rfl (by kernel_rfl) (by kernel_rfl) (by kernel_rfl) (fun _ _ _ h => h) (by rfl) hS ?_ ?_ ?_
            rotate_left 2
            · intro W hSW; go_simp; try with_reducible rfl
            · simp only [List.set_cons_succ, List.set_cons_zero]; rfl
            refine' take_at 27 rfl (by kernel_rfl) (by kernel_rfl) (by kernel_rfl) (fun _ _ _ h => h) (by rfl) hS ?_ ?_ ?_
            rotate_left 2
            · intro W hSW; go_simp; try with_reducible rfl
            · simp only [List.set_cons_succ, List.set_cons_zero]; rfl
            refine' take_at 28 rfl (by kernel_rfl) (by kernel_rfl) (by kernel_rfl) (fun _ _ _ h => h) (by rfl) hS ?_ ?_ ?_
            rotate_left 2
            · intro W hSW; go_simp; try with_reducible rfl
            · simp only [List.set_cons_succ, List.set_cons_zero]; rfl
            refine call_at 24 rfl (by kernel_rfl) (by rfl) (fun K hK => ?_)
            go_simp
            refine (HASK.out.2.2.2.2.2.2.2.1 _ (below_on kS7 hS)).mono ?_
            rintro e w' ⟨rfl, rfl⟩
            refine hK.out _ _ (by exact hS) (fun hS => ?_)
            clear hK K
            refine' take_at 29 rfl (by kernel_rfl) (by kernel_rfl) (by kernel_rfl) (fun _ _ _ h => h) (by rfl) hS ?_ ?_ ?_
            rotate_left 2
            · intro W hSW; go_simp; try with_reducible rfl
            · simp only [List.set_cons_succ, List.set_cons_zero]; rfl
            refine' take_at 30 rfl (by kernel_rfl) (by kernel_rfl) (by kernel_rfl) (fun _ _ _ h => h) (by rfl) hS ?_ ?_ ?_
            rotate_left 2
            · intro W hSW; go_simp; try with_reducible rfl
            · simp only [List.set_cons_succ, List.set_cons_zero]; rfl
            refine wpAnyH_done (by kernel_rfl) ?_ _
            refine NoPanic.normal ?_
            go_wp2_with fail
            go_roundw
            case rel => exact ⟨i + 1, _, _, by omega, by go_num, Lib.hid ((HSC.out.below (below_on kS7 hS)).less (by omega))⟩
            case measure => simp [intOf]; omega
          · have k2f : (kk == 2) = false := by simpa using hk2
            by_cases hk3 : kk = 3
            · subst hk3
              have hdw := cp_darm HSB.out.cp HN1 a.n Ab a.b cbb hbb (by rw [Hz.out]; exact hbc) (by rw [Hz.out]; omega)
              rw [Hz.out] at hdw
              have HDW := Lib.hid hdw
              clear hdw
              go_wp2_with fail
              (with_reducible refine HDW.out.mono ?_)
              rintro e w5 ⟨rfl, hc5, ho5⟩
              have hrw := cp_rarm (hc5.below (Below.refl _ _).drew) a.n a.A a.b a.c (HAB.out _ ((ho5.mono fun _ _ h => .inl h).trans (Only.of_below (Below.refl _ _).drew))) (by rw [Hz.out]; omega)
              rw [Hz.out] at hrw
              have HRW := Lib.hid hrw
              have kS5 : Only (fun j => p.D j ∨ p.R j) wb w5 := ho5.mono fun _ _ h => .inl h
              clear hc5 ho5 hrw
              go_wp2_with fail
              refine wp_region_noPanic ?_
              refine wp_region_held_drew (S := fun W => Only (fun j => p.D j ∨ p.R j) wb W) (by kernel_rfl) (by exact kS5.drew) (fun hS => ?_)
              refine' take_at 0 rfl (by kernel_rfl) (by kernel_rfl) (by kernel_rfl) (fun _ _ _ h => h) (by rfl) hS ?_ ?_ ?_
              rotate_left 2
              · intro W hSW; go_simp; try with_reducible rfl
              · simp only [List.set_cons_succ, List.set_cons_zero]; rfl
              refine' take_at 1 rfl (by kernel_rfl) (by kernel_rfl) (by kernel_rfl) (fun _ _ _ h => h) (by rfl) hS ?_ ?_ ?_
              rotate_left 2
              · intro W hSW; go_simp; try with_reducible rfl
              · simp only [List.set_cons_succ, List.set_cons_zero]; rfl
              refine' take_at 2 rfl (by kernel_rfl) (by kernel_rfl) (by kernel_rfl) (fun _ _ _ h => h) (by rfl) hS ?_ ?_ ?_
              rotate_left 2
              · intro W hSW; go_simp; try with_reducible rfl
              · simp only [List.set_cons_succ, List.set_cons_zero]; rfl
              refine' take_at 3 rfl (by kernel_rfl) (by kernel_rfl) (by kernel_rfl) (fun _ _ _ h => h) (by rfl) hS ?_ ?_ ?_
              rotate_left 2
              · intro W hSW; go_simp; try with_reducible rfl
              · simp only [List.set_cons_succ, List.set_cons_zero]; rfl
              refine' take_at 4 rfl (by kernel_rfl) (by kernel_rfl) (by kernel_rfl) (fun _ _ _ h => h) (by rfl) hS ?_ ?_ ?_
              rotate_left 2
              · intro W hSW; go_simp; try with_reducible rfl
              · simp only [List.set_cons_succ, List.set_cons_zero]; rfl
              refine' take_at 5 rfl (by kernel_rfl) (by kernel_rfl) (by kernel_rfl) (fun _ _ _ h => h) (by rfl) hS ?_ ?_ ?_
              rotate_left 2
              · intro W hSW; go_simp; try with_reducible rfl
              · simp only [List.set_cons_succ, List.set_cons_zero]; rfl
              refine' take_at 6 rfl (by kernel_rfl) (by kernel_rfl) (by kernel_rfl) (fun _ _ _ h => h) (by rfl) hS ?_ ?_ ?_
              rotate_left 2
              · intro W hSW; go_simp; try with_reducible rfl
              · simp only [List.set_cons_succ, List.set_cons_zero]; rfl
              refine' take_at 7 rfl (by kernel_rfl) (by kernel_rfl) (by kernel_rfl) (fun _ _ _ h => h) (by rfl) hS ?_ ?_ ?_
              rotate_left 2
              · intro W hSW; go_simp; try with_reducible rfl
              · simp only [List.set_cons_succ, List.set_cons_zero]; rfl
              refine' take_at 8 rfl (by kernel_rfl) (by kernel_rfl) (by kernel_rfl) (fun _ _ _ h => h) (by rfl) hS ?_ ?_ ?_
              rotate_left 2
              · intro W hSW; go_simp; try with_reducible rfl
              · simp only [List.set_cons_succ, List.set_cons_zero]; rfl
              refine' take_at 9 rfl (by kernel_rfl) (by kernel_rfl) (by kernel_rfl) (fun _ _ _ h => h) (by rfl) hS ?_ ?_ ?_
              rotate_left 2
              · intro W hSW; go_simp; try with_reducible rfl
              · simp only [List.set_cons_succ, List.set_cons_zero]; rfl
              refine' take_at 10 rfl (by kernel_rfl) (by kernel_rfl) (by kernel_rfl) (fun _ _ _ h => h) (by rfl) hS ?_ ?_ ?_
              rotate_left 2
              · intro W hSW; go_simp; try with_reducible rfl
              · simp only [List.set_cons_succ, List.set_cons_zero]; rfl
              refine call_at 11 rfl (by kernel_rfl) (by rfl) (fun K hK => ?_)
              go_simp
              (with_reducible refine HRW.out.mono ?_)
              rintro e w6 ⟨rfl, hc6, ho6⟩
              have kS6 : Only (fun j => p.D j ∨ p.R j) wb w6 := kS5.trans ((Only.refl _ _).drew.trans (ho6.mono fun _ _ h => .inr h))
              have HC6 := Lib.hid hc6
              clear hS hc6 ho6
              refine hK.out _ _ (by exact kS6) (fun hS => ?_)
              clear hK K
              refine wpAnyH_done (by kernel_rfl) ?_ _
              refine NoPanic.normal ?_
              have HSC0 := cst_arm HSB.out ha0.n2 (by rw [Hz.out]; omega) HC6.out kS6
              obtain ⟨wc, Hwc⟩ : ∃ wc, Hid (w6 = wc) := ⟨_, rfl⟩
              rw [Hwc.out] at HSC0 ⊢
              have HSC := Lib.hid HSC0
              clear HSC0
              go_wp2_with fail
              obtain ⟨sn, zz, sst, sh, AH, cH, HASK⟩ := cst_ask HSC.out
              have n3 : ∀ W, Below wc.heap.size wc W → W.cell? ⟨p.q.g, 3, none⟩ = some (.int .i64 sn) := HASK.out.2.1
              have n4 : ∀ W, Below wc.heap.size wc W → W.cell? ⟨p.q.g, 4, none⟩ = some (.slice AH zz cH) := HASK.out.2.2.2.2.2.1
              have n2 : ∀ W, Below wc.heap.size wc W → W.cell? ⟨p.h, 2, none⟩ = some (.int .i64 sst) := HASK.out.2.2.2.2.2.2.2.2
              have n5 : ∀ W, Below wc.heap.size wc W → (convert 22 9 (.slice AH zz cH)).run Try.prog W = .ok (.string sh) W := fun W hW => conv_now (HASK.out.2.2.2.2.2.2.1 W hW) HASK.out.2.2.2.1.symm HASK.out.2.2.2.2.1
              refine wp_region_noPanic ?_
              refine wp_region_held_drew (S := fun W => Below wc.heap.size wc W) (by kernel_rfl) (by exact (Below.refl _ _).drew) (fun hS => ?_)
              refine' take_at 0 rfl (by kernel_rfl) (by kernel_rfl) (by kernel_rfl) (fun _ _ _ h => h) (by rfl) hS ?_ ?_ ?_
              rotate_left 2
              · intro W hSW; go_simp; try with_reducible rfl
              · simp only [List.set_cons_succ, List.set_cons_zero]; rfl
              refine' take_at 1 rfl (by kernel_rfl) (by kernel_rfl) (by kernel_rfl) (fun _ _ _ h => h) (by rfl) hS ?_ ?_ ?_
              rotate_left 2
              · intro W hSW; go_simp; try with_reducible rfl
              · simp only [List.set_cons_succ, List.set_cons_zero]; rfl
              refine' take_at 2 rfl (by kernel_rfl) (by kernel_rfl) (by kernel_rfl) (fun _ _ _ h => h) (by rfl) hS ?_ ?_ ?_
              rotate_left 2
              · intro W hSW; go_simp; try with_reducible rfl
              · simp only [List.set_cons_succ, List.set_cons_zero]; rfl
              refine' take_at 3 rfl (by kernel_rfl) (by kernel_rfl) (by kernel_rfl) (fun _ _ _ h => h) (by rfl) hS ?_ ?_ ?_
              rotate_left 2
              · intro W hSW; go_simp; try with_reducible rfl
              · simp only [List.set_cons_succ, List.set_cons_zero]; rfl
              refine' take_at 5 rfl (by kernel_rfl) (by kernel_rfl) (by kernel_rfl) (fun _ _ _ h => h) (by rfl) hS ?_ ?_ ?_
              rotate_left 2
              · intro W hSW; go_simp; try with_reducible rfl
              · simp only [List.set_cons_succ, List.set_cons_zero]; rfl
              refine' take_at 6 rfl (by kernel_rfl) (by kernel_rfl) (by kernel_rfl) (fun _ _ _ h => h) (by rfl) hS ?_ ?_ ?_
              rotate_left 2
              · intro W hSW; go_simp; try with_reducible rfl
              · simp only [List.set_cons_succ, List.set_cons_zero]; rfl
              refine' take_at 7 rfl (by kernel_rfl) (by kernel_rfl) (by kernel_rfl) (fun _ _ _ h => h) (by rfl) hS ?_ ?_ ?_
              rotate_left 2
              · intro W hSW; go_simp; try with_reducible rfl
              · simp only [List.set_cons_succ, List.set_cons_zero]; rfl
              refine' take_at 8 rfl (by kernel_rfl) (by kernel_rfl) (by kernel_rfl) (fun _ _ _ h => h) (by rfl) hS ?_ ?_ ?_
              rotate_left 2
              · intro W hSW; go_simp; try with_reducible rfl
              · simp only [List.set_cons_succ, List.set_cons_zero]; rfl
              refine call_at 4 rfl (by kernel_rfl) (by rfl) (fun K hK => ?_)
              go_simp
              refine (HASK.out.1 _ hS).mono ?_
              rintro e w' ⟨rfl, rfl⟩
              refine hK.out _ _ (by exact hS) (fun hS => ?_)
              clear hK K
              refine' take_at 9 rfl (by kernel_rfl) (by kernel_rfl) (by kernel_rfl) (fun _ _ _ h => h) (by rfl) hS ?_ ?_ ?_
              rotate_left 2
              · intro W hSW; go_simp; try with_reducible rfl
              · simp only [List.set_cons_succ, List.set_cons_zero]; rfl
              refine' take_at 10 rfl (by kernel_rfl) (by kernel_rfl) (by kernel_rfl) (fun _ _ _ h => h) (by rfl) hS ?_ ?_ ?_
              rotate_left 2
              · intro W hSW; go_simp; try with_reducible rfl
              · simp only [List.set_cons_succ, List.set_cons_zero]; rfl
              refine' take_at 11 rfl (by kernel_rfl) (by kernel_rfl) (by kernel_rfl) (fun _ _ _ h => h) (by rfl) hS ?_ ?_ ?_
              rotate_left 2
              · intro W hSW; go_simp; try with_reducible rfl
              · simp only [List.set_cons_succ, List.set_cons_zero]; rfl
              refine' take_at 12 rfl (by kernel_rfl) (by kernel_rfl) (by kernel_rfl) (fun _ _ _ h => h) (by rfl) hS ?_ ?_ ?_
              rotate_left 2
              · intro W hSW; go_simp; try with_reducible rfl
              · simp only [List.set_cons_succ, List.set_cons_zero]; rfl
              refine' take_at 15 rfl (by kernel_rfl) (by kernel_rfl) (by kernel_rfl) (fun _ _ _ h => h) (by rfl) hS ?_ ?_ ?_
              rotate_left 2
              · intro W hSW; go_simp; try with_reducible rfl
              · simp only [List.set_cons_succ, List.set_cons_zero]; rfl
              refine' take_at 16 rfl (by kernel_rfl) (by kernel_rfl) (by kernel_rfl) (fun _ _ _ h => h) (by rfl) hS ?_ ?_ ?_
              rotate_left 2
              · intro W hSW; go_simp; try with_reducible rfl
              · simp only [List.set_cons_succ, List.set_cons_zero]; rfl
              refine' take_at 17 rfl (by kernel_rfl) (by kernel_rfl) (by kernel_rfl) (fun _ _ _ h => h) (by rfl) hS ?_ ?_ ?_
              rotate_left 2
              · intro W hSW; go_simp; try with_reducible rfl
              · simp only [List.set_cons_succ, List.set_cons_zero]; rfl
              refine' take_at 18 rfl (by kernel_rfl) (by kernel_rfl) (by kernel_rfl) (fun _ _ _ h => h) (by rfl) hS ?_ ?_ ?_
              rotate_left 2
              · intro W hSW; go_simp; try with_reducible rfl
              · simp only [List.set_cons_succ, List.set_cons_zero]; rfl
              refine' take_at 19 rfl (by kernel_rfl) (by kernel_rfl) (by kernel_rfl) (fun _ _ _ h => h) (by rfl) hS ?_ ?_ ?_
              rotate_left 2
              · intro W hSW; go_simp; try with_reducible rfl
              · simp only [List.set_cons_succ, List.set_cons_zero]; rfl
              refine call_at 13 rfl (by kernel_rfl) (by rfl) (fun K hK => ?_)
              go_simp
              refine (HASK.out.2.2.1 _ hS).mono ?_
              rintro e w7 ⟨v7, rfl, ho7, hb7⟩
              obtain ⟨A7, c7, rfl, hbs7, -⟩ := ho7.form
              rw [HASK.out.2.2.2.1]
              have kS7 := below_on hS hb7
              have m7 : ∀ W, Below w7.heap.size w7 W → (convert 22 9 (.slice A7 zz c7)).run Try.prog W = .ok (.string sh) W := fun W hW => conv_now (hbs7.below hW) HASK.out.2.2.2.1.symm HASK.out.2.2.2.2.1
              have m8 : ∀ W, Below w7.heap.size w7 W → (convert 22 9 (.slice AH zz cH)).run Try.prog W = .ok (.string sh) W := fun W hW => conv_now (HASK.out.2.2.2.2.2.2.1 W (below_on kS7 hW)) HASK.out.2.2.2.1.symm HASK.out.2.2.2.2.1
              have m9 : ∀ W, Below w7.heap.size w7 W → W.cell? ⟨p.q.g, 4, none⟩ = some (.slice AH zz cH) := fun W hW => HASK.out.2.2.2.2.2.1 W (below_on kS7 hW)
              have m10 : ∀ W, Below w7.heap.size w7 W → W.cell? ⟨p.h, 2, none⟩ = some (.int .i64 sst) := fun W hW => HASK.out.2.2.2.2.2.2.2.2 W (below_on kS7 hW)
              have HX7 := Lib.hid hbs7
              clear hS ho7 hb7 hbs7
              refine hK.out _ _ (by exact kS7) (fun hS => ?_)
              clear hK K
              refine held_mono (S2 := fun W => Below w7.heap.size w7 W) (fun W hW => below_on kS7 hW) _ _ _ _ ?_
              replace hS : Below w7.heap.size w7 w7 := Below.refl _ _
              refine' take_at 14 rfl (by kernel_rfl) (by kernel_rfl) (by kernel_rfl) (fun _ _ _ h => h) (by rfl) hS ?_ ?_ ?_
              rotate_left 2
              · intro W hSW; go_simp; try with_reducible rfl
              · simp only [List.set_cons_succ, List.set_cons_zero]; rfl
              refine' take_at 20 rfl (by kernel_rfl) (by kernel_rfl) (by kernel_rfl) (fun _ _ _ h => h) (by rfl) hS ?_ ?_ ?_
              rotate_left 2
              · intro W hSW; go_simp; try with_reducible rfl
              · simp only [List.set_cons_succ, List.set_cons_zero]; rfl
              refine' take_at 21 rfl (by kernel_rfl) (by kernel_rfl) (by kernel_rfl) (fun _ _ _ h => h) (by rfl) hS ?_ ?_ ?_
              rotate_left 2
              · intro W hSW; go_simp; try with_reducible rfl
              · simp only [List.set_cons_succ, List.set_cons_zero]; rfl
              refine' take_at 22 rfl (by kernel_rfl) (by kernel_rfl) (by kernel_rfl) (fun _ _ _ h => h) (by rfl) hS ?_ ?_ ?_
              rotate_left 2
              · intro W hSW; go_simp; try with_reducible rfl
              · simp only [List.set_cons_succ, List.set_cons_zero]; rfl
              refine' take_at 23 rfl (by kernel_rfl) (by kernel_rfl) (by kernel_rfl) (fun _ _ _ h => h) (by rfl) hS ?_ ?_ ?_
              rotate_left 2
              · intro W hSW; go_simp; try with_reducible rfl
              · simp only [List.set_cons_succ, List.set_cons_zero]; rfl
              refine' take_at 25 rfl (by kernel_rfl) (by kernel_rfl) (by kernel_rfl) (fun _ _ _ h => h) (by rfl) hS ?_ ?_ ?_
              rotate_left 2
              · intro W hSW; go_simp; try with_reducible rfl
              · simp only [List.set_cons_succ, List.set_cons_zero]; rfl
              refine' take_at 26 rfl (by kernel_rfl) (by kernel_rfl) (by kernel_rfl) (fun _ _ _ h => h) (by rfl) hS ?_ ?_ ?_
              rotate_left 2
              · intro W hSW; go_simp; try with_reducible rfl
              · simp only [List.set_cons_succ, List.set_cons_zero]; rfl
              refine' take_at 27 rfl (by kernel_rfl) (by kernel_rfl) (by kernel_rfl) (fun _ _ _ h => h) (by rfl) hS ?_ ?_ ?_
              rotate_left 2
              · intro W hSW; go_simp; try with_reducible rfl
              · simp only [List.set_cons_succ, List.set_cons_zero]; rfl
              refine' take_at 28 rfl (by kernel_rfl) (by kernel_rfl) (by kernel_rfl) (fun _ _ _ h => h) (by rfl) hS ?_ ?_ ?_
              rotate_left 2
              · intro W hSW; go_simp; try with_reducible rfl
              · simp only [List.set_cons_succ, List.set_cons_zero]; rfl
              refine call_at 24 rfl (by kernel_rfl) (by rfl) (fun K hK => ?_)
              go_simp
              refine (HASK.out.2.2.2.2.2.2.2.1 _ (below_on kS7 hS)).mono ?_
              rintro e w' ⟨rfl, rfl⟩
              refine hK.out _ _ (by exact hS) (fun hS => ?_)
              clear hK K
              refine' take_at 29 rfl (by kernel_rfl) (by kernel_rfl) (by kernel_rfl) (fun _ _ _ h => h) (by rfl) hS ?_ ?_ ?_
              rotate_left 2
              · intro W hSW; go_simp; try with_reducible rfl
              · simp only [List.set_cons_succ, List.set_cons_zero]; rfl
              refine' take_at 30 rfl (by kernel_rfl) (by kernel_rfl) (by kernel_rfl) (fun _ _ _ h => h) (by rfl) hS ?_ ?_ ?_
              rotate_left 2
              · intro W hSW; go_simp; try with_reducible rfl
              · simp only [List.set_cons_succ, List.set_cons_zero]; rfl
              refine wpAnyH_done (by kernel_rfl) ?_ _
              refine NoPanic.normal ?_
              go_wp2_with fail
              go_roundw
              case rel => exact ⟨i + 1, _, _, by omega, by go_num, Lib.hid ((HSC.out.below (below_on kS7 hS)).less (by omega))⟩
              case measure => simp [intOf]; omega
            · have k3f : (kk == 3) = false := by simpa using hk3
              by_cases hk4 : kk = 4
              · subst hk4
                have HDW := Lib.hid (cp_dboot HSB.out.cp HN1)
                go_wp2_with fail
                (with_reducible refine HDW.out.mono ?_)
                rintro e w5 ⟨rfl, hc5, ho5⟩
                have HRW := Lib.hid (cp_rboot hc5)
                have HO5 := Lib.hid ho5
                clear hc5 ho5
                go_wp2_with fail
                (with_reducible refine HRW.out.mono ?_)
                rintro e w6 ⟨rfl, hc6, ho6⟩
                have HSC0 := cst_boot HSB.out hc6 ((HO5.out.mono fun _ _ h => .inl h).trans (ho6.mono fun _ _ h => .inr h))
                obtain ⟨wc, Hwc⟩ : ∃ wc, Hid (w6 = wc) := ⟨_, rfl⟩
                rw [Hwc.out] at HSC0 ⊢
                have HSC := Lib.hid HSC0
                clear HSC0 hc6 ho6
                go_wp2_with fail
                obtain ⟨sn, zz, sst, sh, AH, cH, HASK⟩ := cst_ask HSC.out
                have n3 : ∀ W, Below wc.heap.size wc W → W.cell? ⟨p.q.g, 3, none⟩ = some (.int .i64 sn) := HASK.out.2.1
                have n4 : ∀ W, Below wc.heap.size wc W → W.cell? ⟨p.q.g, 4, none⟩ = some (.slice AH zz cH) := HASK.out.2.2.2.2.2.1
                have n2 : ∀ W, Below wc.heap.size wc W → W.cell? ⟨p.h, 2, none⟩ = some (.int .i64 sst) := HASK.out.2.2.2.2.2.2.2.2
                have n5 : ∀ W, Below wc.heap.size wc W → (convert 22 9 (.slice AH zz cH)).run Try.prog W = .ok (.string sh) W := fun W hW => conv_now (HASK.out.2.2.2.2.2.2.1 W hW) HASK.out.2.2.2.1.symm HASK.out.2.2.2.2.1
                refine wp_region_noPanic ?_
                refine wp_region_held_drew (S := fun W => Below wc.heap.size wc W) (by kernel_rfl) (by exact (Below.refl _ _).drew) (fun hS => ?_)
                refine' take_at 0 rfl (by kernel_rfl) (by kernel_rfl) (by kernel_rfl) (fun _ _ _ h => h) (by rfl) hS ?_ ?_ ?_
                rotate_left 2
                · intro W hSW; go_simp; try with_reducible rfl
                · simp only [List.set_cons_succ, List.set_cons_zero]; rfl
                refine' take_at 1 rfl (by kernel_rfl) (by kernel_rfl) (by kernel_rfl) (fun _ _ _ h => h) (by rfl) hS ?_ ?_ ?_
                rotate_left 2
                · intro W hSW; go_simp; try with_reducible rfl
                · simp only [List.set_cons_succ, List.set_cons_zero]; rfl
                refine' take_at 2 rfl (by kernel_rfl) (by kernel_rfl) (by kernel_rfl) (fun _ _ _ h => h) (by rfl) hS ?_ ?_ ?_
                rotate_left 2
                · intro W hSW; go_simp; try with_reducible rfl
                · simp only [List.set_cons_succ, List.set_cons_zero]; rfl
                refine' take_at 3 rfl (by kernel_rfl) (by kernel_rfl) (by kernel_rfl) (fun _ _ _ h => h) (by rfl) hS ?_ ?_ ?_
                rotate_left 2
                · intro W hSW; go_simp; try with_reducible rfl
                · simp only [List.set_cons_succ, List.set_cons_zero]; rfl
                refine' take_at 5 rfl (by kernel_rfl) (by kernel_rfl) (by kernel_rfl) (fun _ _ _ h => h) (by rfl) hS ?_ ?_ ?_
                rotate_left 2
                · intro W hSW; go_simp; try with_reducible rfl
                · simp only [List.set_cons_succ, List.set_cons_zero]; rfl
                refine' take_at 6 rfl (by kernel_rfl) (by kernel_rfl) (by kernel_rfl) (fun _ _ _ h => h) (by rfl) hS ?_ ?_ ?_
                rotate_left 2
                · intro W hSW; go_simp; try with_reducible rfl
                · simp only [List.set_cons_succ, List.set_cons_zero]; rfl
                refine' take_at 7 rfl (by kernel_rfl) (by kernel_rfl) (by kernel_rfl) (fun _ _ _ h => h) (by rfl) hS ?_ ?_ ?_
                rotate_left 2
                · intro W hSW; go_simp; try with_reducible rfl
                · simp only [List.set_cons_succ, List.set_cons_zero]; rfl
                refine' take_at 8 rfl (by kernel_rfl) (by kernel_rfl) (by kernel_rfl) (fun _ _ _ h => h) (by rfl) hS ?_ ?_ ?_
                rotate_left 2
                · intro W hSW; go_simp; try with_reducible rfl
                · simp only [List.set_cons_succ, List.set_cons_zero]; rfl
                refine call_at 4 rfl (by kernel_rfl) (by rfl) (fun K hK => ?_)
                go_simp
                refine (HASK.out.1 _ hS).mono ?_
                rintro e w' ⟨rfl, rfl⟩
                refine hK.out _ _ (by exact hS) (fun hS => ?_)
                clear hK K
                refine' take_at 9 rfl (by kernel_rfl) (by kernel_rfl) (by kernel_rfl) (fun _ _ _ h => h) (by rfl) hS ?_ ?_ ?_
                rotate_left 2
                · intro W hSW; go_simp; try with_reducible rfl
                · simp only [List.set_cons_succ, List.set_cons_zero]; rfl
                refine' take_at 10 rfl (by kernel_rfl) (by kernel_rfl) (by kernel_rfl) (fun _ _ _ h => h) (by rfl) hS ?_ ?_ ?_
                rotate_left 2
                · intro W hSW; go_simp; try with_reducible rfl
                · simp only [List.set_cons_succ, List.set_cons_zero]; rfl
                refine' take_at 11 rfl (by kernel_rfl) (by kernel_rfl) (by kernel_rfl) (fun _ _ _ h => h) (by rfl) hS ?_ ?_ ?_
                rotate_left 2
                · intro W hSW; go_simp; try with_reducible rfl
                · simp only [List.set_cons_succ, List.set_cons_zero]; rfl
                refine' take_at 12 rfl (by kernel_rfl) (by kernel_rfl) (by kernel_rfl) (fun _ _ _ h => h) (by rfl) hS ?_ ?_ ?_
                rotate_left 2
                · intro W hSW; go_simp; try with_reducible rfl
                · simp only [List.set_cons_succ, List.set_cons_zero]; rfl
                refine' take_at 15 rfl (by kernel_rfl) (by kernel_rfl) (by kernel_rfl) (fun _ _ _ h => h) (by rfl) hS ?_ ?_ ?_
                rotate_left 2
                · intro W hSW; go_simp; try with_reducible rfl
                · simp only [List.set_cons_succ, List.set_cons_zero]; rfl
                refine' take_at 16 rfl (by kernel_rfl) (by kernel_rfl) (by kernel_rfl) (fun _ _ _ h => h) (by rfl) hS ?_ ?_ ?_
                rotate_left 2
                · intro W hSW; go_simp; try with_reducible rfl
                · simp only [List.set_cons_succ, List.set_cons_zero]; rfl
                refine' take_at 17 rfl (by kernel_rfl) (by kernel_rfl) (by kernel_rfl) (fun _ _ _ h => h) (by rfl) hS ?_ ?_ ?_
                rotate_left 2
                · intro W hSW; go_simp; try with_reducible rfl
                · simp only [List.set_cons_succ, List.set_cons_zero]; rfl
                refine' take_at 18 rfl (by kernel_rfl) (by kernel_rfl) (by kernel_rfl) (fun _ _ _ h => h) (by rfl) hS ?_ ?_ ?_
                rotate_left 2
                · intro W hSW; go_simp; try with_reducible rfl
                · simp only [List.set_cons_succ, List.set_cons_zero]; rfl
                refine' take_at 19 rfl (by kernel_rfl) (by kernel_rfl) (by kernel_rfl) (fun _ _ _ h => h) (by rfl) hS ?_ ?_ ?_
                rotate_left 2
                · intro W hSW; go_simp; try with_reducible rfl
                · simp only [List.set_cons_succ, List.set_cons_zero]; rfl
                refine call_at 13 rfl (by kernel_rfl) (by rfl) (fun K hK => ?_)
                go_simp
                refine (HASK.out.2.2.1 _ hS).mono ?_
                rintro e w7 ⟨v7, rfl, ho7, hb7⟩
                obtain ⟨A7, c7, rfl, hbs7, -⟩ := ho7.form
                rw [HASK.out.2.2.2.1]
                have kS7 := below_on hS hb7
                have m7 : ∀ W, Below w7.heap.size w7 W → (convert 22 9 (.slice A7 zz c7)).run Try.prog W = .ok (.string sh) W := fun W hW => conv_now (hbs7.below hW) HASK.out.2.2.2.1.symm HASK.out.2.2.2.2.1
                have m8 : ∀ W, Below w7.heap.size w7 W → (convert 22 9 (.slice AH zz cH)).run Try.prog W = .ok (.string sh) W := fun W hW => conv_now (HASK.out.2.2.2.2.2.2.1 W (below_on kS7 hW)) HASK.out.2.2.2.1.symm HASK.out.2.2.2.2.1
                have m9 : ∀ W, Below w7.heap.size w7 W → W.cell? ⟨p.q.g, 4, none⟩ = some (.slice AH zz cH) := fun W hW => HASK.out.2.2.2.2.2.1 W (below_on kS7 hW)
                have m10 : ∀ W, Below w7.heap.size w7 W → W.cell? ⟨p.h, 2, none⟩ = some (.int .i64 sst) := fun W hW => HASK.out.2.2.2.2.2.2.2.2 W (below_on kS7 hW)
                have HX7 := Lib.hid hbs7
                clear hS ho7 hb7 hbs7
                refine hK.out _ _ (by exact kS7) (fun hS => ?_)
                clear hK K
                refine held_mono (S2 := fun W => Below w7.heap.size w7 W) (fun W hW => below_on kS7 hW) _ _ _ _ ?_
                replace hS : Below w7.heap.size w7 w7 := Below.refl _ _
                refine' take_at 14 rfl (by kernel_rfl) (by kernel_rfl) (by kernel_rfl) (fun _ _ _ h => h) (by rfl) hS ?_ ?_ ?_
                rotate_left 2
                · intro W hSW; go_simp; try with_reducible rfl
                · simp only [List.set_cons_succ, List.set_cons_zero]; rfl
                refine' take_at 20 rfl (by kernel_rfl) (by kernel_rfl) (by kernel_rfl) (fun _ _ _ h => h) (by rfl) hS ?_ ?_ ?_
                rotate_left 2
                · intro W hSW; go_simp; try with_reducible rfl
                · simp only [List.set_cons_succ, List.set_cons_zero]; rfl
                refine' take_at 21 rfl (by kernel_rfl) (by kernel_rfl) (by kernel_rfl) (fun _ _ _ h => h) (by rfl) hS ?_ ?_ ?_
                rotate_left 2
                · intro W hSW; go_simp; try with_reducible rfl
                · simp only [List.set_cons_succ, List.set_cons_zero]; rfl
                refine' take_at 22 rfl (by kernel_rfl) (by kernel_rfl) (by kernel_rfl) (fun _ _ _ h => h) (by rfl) hS ?_ ?_ ?_
                rotate_left 2
                · intro W hSW; go_simp; try with_reducible rfl
                · simp only [List.set_cons_succ, List.set_cons_zero]; rfl
                refine' take_at 23 rfl (by kernel_rfl) (by kernel_rfl) (by kernel_rfl) (fun _ _ _ h => h) (by rfl) hS ?_ ?_ ?_
                rotate_left 2
                · intro W hSW; go_simp; try with_reducible rfl
                · simp only [List.set_cons_succ, List.set_cons_zero]; rfl
                refine' take_at 25 rfl (by kernel_rfl) (by kernel_rfl) (by kernel_rfl) (fun _ _ _ h => h) (by rfl) hS ?_ ?_ ?_
                rotate_left 2
                · intro W hSW; go_simp; try with_reducible rfl
                · simp only [List.set_cons_succ, List.set_cons_zero]; rfl
                refine' take_at 26 rfl (by kernel_rfl) (by kernel_rfl) (by kernel_rfl) (fun _ _ _ h => h) (by rfl) hS ?_ ?_ ?_
                rotate_left 2
                · intro W hSW; go_simp; try with_reducible rfl
                · simp only [List.set_cons_succ, List.set_cons_zero]; rfl
                refine' take_at 27 rfl (by kernel_rfl) (by kernel_rfl) (by kernel_rfl) (fun _ _ _ h => h) (by rfl) hS ?_ ?_ ?_
                rotate_left 2
                · intro W hSW; go_simp; try with_reducible rfl
                · simp only [List.set_cons_succ, List.set_cons_zero]; rfl
                refine' take_at 28 rfl (by kernel_rfl) (by kernel_rfl) (by kernel_rfl) (fun _ _ _ h => h) (by rfl) hS ?_ ?_ ?_
                rotate_left 2
                · intro W hSW; go_simp; try with_reducible rfl
                · simp only [List.set_cons_succ, List.set_cons_zero]; rfl
                refine call_at 24 rfl (by kernel_rfl) (by rfl) (fun K hK => ?_)
                go_simp
                refine (HASK.out.2.2.2.2.2.2.2.1 _ (below_on kS7 hS)).mono ?_
                rintro e w' ⟨rfl, rfl⟩
                refine hK.out _ _ (by exact hS) (fun hS => ?_)
                clear hK K
                refine' take_at 29 rfl (by kernel_rfl) (by kernel_rfl) (by kernel_rfl) (fun _ _ _ h => h) (by rfl) hS ?_ ?_ ?_
                rotate_left 2
                · intro W hSW; go_simp; try with_reducible rfl
                · simp only [List.set_cons_succ, List.set_cons_zero]; rfl
                refine' take_at 30 rfl (by kernel_rfl) (by kernel_rfl) (by kernel_rfl) (fun _ _ _ h => h) (by rfl) hS ?_ ?_ ?_
                rotate_left 2
                · intro W hSW; go_simp; try with_reducible rfl
                · simp only [List.set_cons_succ, List.set_cons_zero]; rfl
                refine wpAnyH_done (by kernel_rfl) ?_ _
                refine NoPanic.normal ?_
                go_wp2_with fail
                go_roundw
                case rel => exact ⟨i + 1, _, _, by omega, by go_num, Lib.hid ((HSC.out.below (below_on kS7 hS)).less (by omega))⟩
                case measure => simp [intOf]; omega
              · have k4f : (kk == 4) = false := by simpa using hk4
                go_wp2_with fail
                obtain ⟨wc, Hwc⟩ : ∃ wc, Hid (wb = wc) := ⟨_, rfl⟩
                rw [Hwc.out] at HSB ⊢
                have HSC := HSB
                obtain ⟨sn, zz, sst, sh, AH, cH, HASK⟩ := cst_ask HSC.out
                have n3 : ∀ W, Below wc.heap.size wc W → W.cell? ⟨p.q.g, 3, none⟩ = some (.int .i64 sn) := HASK.out.2.1
                have n4 : ∀ W, Below wc.heap.size wc W → W.cell? ⟨p.q.g, 4, none⟩ = some (.slice AH zz cH) := HASK.out.2.2.2.2.2.1
                have n2 : ∀ W, Below wc.heap.size wc W → W.cell? ⟨p.h, 2, none⟩ = some (.int .i64 sst) := HASK.out.2.2.2.2.2.2.2.2
                have n5 : ∀ W, Below wc.heap.size wc W → (convert 22 9 (.slice AH zz cH)).run Try.prog W = .ok (.string sh) W := fun W hW => conv_now (HASK.out.2.2.2.2.2.2.1 W hW) HASK.out.2.2.2.1.symm HASK.out.2.2.2.2.1
                refine wp_region_noPanic ?_
                refine wp_region_held_drew (S := fun W => Below wc.heap.size wc W) (by kernel_rfl) (by exact (Below.refl _ _).drew) (fun hS => ?_)
                refine' take_at 0 rfl (by kernel_rfl) (by kernel_rfl) (by kernel_rfl) (fun _ _ _ h => h) (by rfl) hS ?_ ?_ ?_
                rotate_left 2
                · intro W hSW; go_simp; try with_reducible rfl
                · simp only [List.set_cons_succ, List.set_cons_zero]; rfl
                refine' take_at 1 rfl (by kernel_rfl) (by kernel_rfl) (by kernel_rfl) (fun _ _ _ h => h) (by rfl) hS ?_ ?_ ?_
                rotate_left 2
                · intro W hSW; go_simp; try with_reducible rfl
                · simp only [List.set_cons_succ, List.set_cons_zero]; rfl
                refine' take_at 2 rfl (by kernel_rfl) (by kernel_rfl) (by kernel_rfl) (fun _ _ _ h => h) (by rfl) hS ?_ ?_ ?_
                rotate_left 2
                · intro W hSW; go_simp; try with_reducible rfl
                · simp only [List.set_cons_succ, List.set_cons_zero]; rfl
                refine' take_at 3 rfl (by kernel_rfl) (by kernel_rfl) (by kernel_rfl) (fun _ _ _ h => h) (by rfl) hS ?_ ?_ ?_
                rotate_left 2
                · intro W hSW; go_simp; try with_reducible rfl
                · simp only [List.set_cons_succ, List.set_cons_zero]; rfl
                refine' take_at 5 rfl (by kernel_rfl) (by kernel_rfl) (by kernel_rfl) (fun _ _ _ h => h) (by rfl) hS ?_ ?_ ?_
                rotate_left 2
                · intro W hSW; go_simp; try with_reducible rfl
                · simp only [List.set_cons_succ, List.set_cons_zero]; rfl
                refine' take_at 6 rfl (by kernel_rfl) (by kernel_rfl) (by kernel_rfl) (fun _ _ _ h => h) (by rfl) hS ?_ ?_ ?_
                rotate_left 2
                · intro W hSW; go_simp; try with_reducible rfl
                · simp only [List.set_cons_succ, List.set_cons_zero]; rfl
                refine' take_at 7 rfl (by kernel_rfl) (by kernel_rfl) (by kernel_rfl) (fun _ _ _ h => h) (by rfl) hS ?_ ?_ ?_
                rotate_left 2
                · intro W hSW; go_simp; try with_reducible rfl
                · simp only [List.set_cons_succ, List.set_cons_zero]; rfl
                refine' take_at 8 rfl (by kernel_rfl) (by kernel_rfl) (by kernel_rfl) (fun _ _ _ h => h) (by rfl) hS ?_ ?_ ?_
                rotate_left 2
                · intro W hSW; go_simp; try with_reducible rfl
                · simp only [List.set_cons_succ, List.set_cons_zero]; rfl
                refine call_at 4 rfl (by kernel_rfl) (by rfl) (fun K hK => ?_)
                go_simp
                refine (HASK.out.1 _ hS).mono ?_
                rintro e w' ⟨rfl, rfl⟩
                refine hK.out _ _ (by exact hS) (fun hS => ?_)
                clear hK K
                refine' take_at 9 rfl (by kernel_rfl) (by kernel_rfl) (by kernel_rfl) (fun _ _ _ h => h) (by rfl) hS ?_ ?_ ?_
                rotate_left 2
                · intro W hSW; go_simp; try with_reducible rfl
                · simp only [List.set_cons_succ, List.set_cons_zero]; rfl
                refine' take_at 10 rfl (by kernel_rfl) (by kernel_rfl) (by kernel_rfl) (fun _ _ _ h => h) (by rfl) hS ?_ ?_ ?_
                rotate_left 2
                · intro W hSW; go_simp; try with_reducible rfl
                · simp only [List.set_cons_succ, List.set_cons_zero]; rfl
                refine' take_at 11 rfl (by kernel_rfl) (by kernel_rfl) (by kernel_rfl) (fun _ _ _ h => h) (by rfl) hS ?_ ?_ ?_
                rotate_left 2
                · intro W hSW; go_simp; try with_reducible rfl
                · simp only [List.set_cons_succ, List.set_cons_zero]; rfl
                refine' take_at 12 rfl (by kernel_rfl) (by kernel_rfl) (by kernel_rfl) (fun _ _ _ h => h) (by rfl) hS ?_ ?_ ?_
                rotate_left 2
                · intro W hSW; go_simp; try with_reducible rfl
                · simp only [List.set_cons_succ, List.set_cons_zero]; rfl
                refine' take_at 15 rfl (by kernel_rfl) (by kernel_rfl) (by kernel_rfl) (fun _ _ _ h => h) (by rfl) hS ?_ ?_ ?_
                rotate_left 2
                · intro W hSW; go_simp; try with_reducible rfl
                · simp only [List.set_cons_succ, List.set_cons_zero]; rfl
                refine' take_at 16 rfl (by kernel_rfl) (by kernel_rfl) (by kernel_rfl) (fun _ _ _ h => h) (by rfl) hS ?_ ?_ ?_
                rotate_left 2
                · intro W hSW; go_simp; try with_reducible rfl
                · simp only [List.set_cons_succ, List.set_cons_zero]; rfl
                refine' take_at 17 rfl (by kernel_rfl) (by kernel_rfl) (by kernel_rfl) (fun _ _ _ h => h) (by rfl) hS ?_ ?_ ?_
                rotate_left 2
                · intro W hSW; go_simp; try with_reducible rfl
                · simp only [List.set_cons_succ, List.set_cons_zero]; rfl
                refine' take_at 18 rfl (by kernel_rfl) (by kernel_rfl) (by kernel_rfl) (fun _ _ _ h => h) (by rfl) hS ?_ ?_ ?_
                rotate_left 2
                · intro W hSW; go_simp; try with_reducible rfl
                · simp only [List.set_cons_succ, List.set_cons_zero]; rfl
                refine' take_at 19 rfl (by kernel_rfl) (by kernel_rfl) (by kernel_rfl) (fun _ _ _ h => h) (by rfl) hS ?_ ?_ ?_
                rotate_left 2
                · intro W hSW; go_simp; try with_reducible rfl
                · simp only [List.set_cons_succ, List.set_cons_zero]; rfl
                refine call_at 13 rfl (by kernel_rfl) (by rfl) (fun K hK => ?_)
                go_simp
                refine (HASK.out.2.2.1 _ hS).mono ?_
                rintro e w7 ⟨v7, rfl, ho7, hb7⟩
                obtain ⟨A7, c7, rfl, hbs7, -⟩ := ho7.form
                rw [HASK.out.2.2.2.1]
                have kS7 := below_on hS hb7
                have m7 : ∀ W, Below w7.heap.size w7 W → (convert 22 9 (.slice A7 zz c7)).run Try.prog W = .ok (.string sh) W := fun W hW => conv_now (hbs7.below hW) HASK.out.2.2.2.1.symm HASK.out.2.2.2.2.1
                have m8 : ∀ W, Below w7.heap.size w7 W → (convert 22 9 (.slice AH zz cH)).run Try.prog W = .ok (.string sh) W := fun W hW => conv_now (HASK.out.2.2.2.2.2.2.1 W (below_on kS7 hW)) HASK.out.2.2.2.1.symm HASK.out.2.2.2.2.1
                have m9 : ∀ W, Below w7.heap.size w7 W → W.cell? ⟨p.q.g, 4, none⟩ = some (.slice AH zz cH) := fun W hW => HASK.out.2.2.2.2.2.1 W (below_on kS7 hW)
                have m10 : ∀ W, Below w7.heap.size w7 W → W.cell? ⟨p.h, 2, none⟩ = some (.int .i64 sst) := fun W hW => HASK.out.2.2.2.2.2.2.2.2 W (below_on kS7 hW)
                have HX7 := Lib.hid hbs7
                clear hS ho7 hb7 hbs7
                refine hK.out _ _ (by exact kS7) (fun hS => ?_)
                clear hK K
                refine held_mono (S2 := fun W => Below w7.heap.size w7 W) (fun W hW => below_on kS7 hW) _ _ _ _ ?_
                replace hS : Below w7.heap.size w7 w7 := Below.refl _ _
                refine' take_at 14 rfl (by kernel_rfl) (by kernel_rfl) (by kernel_rfl) (fun _ _ _ h => h) (by rfl) hS ?_ ?_ ?_
                rotate_left 2
                · intro W hSW; go_simp; try with_reducible rfl
                · simp only [List.set_cons_succ, List.set_cons_zero]; rfl
                refine' take_at 20 rfl (by kernel_rfl) (by kernel_rfl) (by kernel_rfl) (fun _ _ _ h => h) (by rfl) hS ?_ ?_ ?_
                rotate_left 2
                · intro W hSW; go_simp; try with_reducible rfl
                · simp only [List.set_cons_succ, List.set_cons_zero]; rfl
                refine' take_at 21 rfl (by kernel_rfl) (by kernel_rfl) (by kernel_rfl) (fun _ _ _ h => h) (by rfl) hS ?_ ?_ ?_
                rotate_left 2
                · intro W hSW; go_simp; try with_reducible rfl
                · simp only [List.set_cons_succ, List.set_cons_zero]; rfl
                refine' take_at 22 rfl (by kernel_rfl) (by kernel_rfl) (by kernel_rfl) (fun _ _ _ h => h) (by rfl) hS ?_ ?_ ?_
                rotate_left 2
                · intro W hSW; go_simp; try with_reducible rfl
                · simp only [List.set_cons_succ, List.set_cons_zero]; rfl
                refine' take_at 23 rfl (by kernel_rfl) (by kernel_rfl) (by kernel_rfl) (fun _ _ _ h => h) (by rfl) hS ?_ ?_ ?_
                rotate_left 2
                · intro W hSW; go_simp; try with_reducible rfl
                · simp only [List.set_cons_succ, List.set_cons_zero]; rfl
                refine' take_at 25 rfl (by kernel_rfl) (by kernel_rfl) (by kernel_rfl) (fun _ _ _ h => h) (by rfl) hS ?_ ?_ ?_
                rotate_left 2
                · intro W hSW; go_simp; try with_reducible rfl
                · simp only [List.set_cons_succ, List.set_cons_zero]; rfl
                refine' take_at 26 rfl (by kernel_rfl) (by kernel_rfl) (by kernel_rfl) (fun _ _ _ h => h) (by rfl) hS ?_ ?_ ?_
                rotate_left 2
                · intro W hSW; go_simp; try with_reducible rfl
                · simp only [List.set_cons_succ, List.set_cons_zero]; rfl
                refine' take_at 27 rfl (by kernel_rfl) (by kernel_rfl) (by kernel_rfl) (fun _ _ _ h => h) (by rfl) hS ?_ ?_ ?_
                rotate_left 2
                · intro W hSW; go_simp; try with_reducible rfl
                · simp only [List.set_cons_succ, List.set_cons_zero]; rfl
                refine' take_at 28 rfl (by kernel_rfl) (by kernel_rfl) (by kernel_rfl) (fun _ _ _ h => h) (by rfl) hS ?_ ?_ ?_
                rotate_left 2
                · intro W hSW; go_simp; try with_reducible rfl
                · simp only [List.set_cons_succ, List.set_cons_zero]; rfl
                refine call_at 24 rfl (by kernel_rfl) (by rfl) (fun K hK => ?_)
                go_simp
                refine (HASK.out.2.2.2.2.2.2.2.1 _ (below_on kS7 hS)).mono ?_
                rintro e w' ⟨rfl, rfl⟩
                refine hK.out _ _ (by exact hS) (fun hS => ?_)
                clear hK K
                refine' take_at 29 rfl (by kernel_rfl) (by kernel_rfl) (by kernel_rfl) (fun _ _ _ h => h) (by rfl) hS ?_ ?_ ?_
                rotate_left 2
                · intro W hSW; go_simp; try with_reducible rfl
                · simp only [List.set_cons_succ, List.set_cons_zero]; rfl
                refine' take_at 30 rfl (by kernel_rfl) (by kernel_rfl) (by kernel_rfl) (fun _ _ _ h => h) (by rfl) hS ?_ ?_ ?_
                rotate_left 2
                · intro W hSW; go_simp; try with_reducible rfl
                · simp only [List.set_cons_succ, List.set_cons_zero]; rfl
                refine wpAnyH_done (by kernel_rfl) ?_ _
                refine NoPanic.normal ?_
                go_wp2_with fail
                go_roundw
                case rel => exact ⟨i + 1, _, _, by omega, by go_num, Lib.hid ((HSC.out.below (below_on kS7 hS)).less (by omega))⟩
                case measure => simp [intOf]; omega
      · have dL : decide ((i : Int) < (L.length : Int)) = false := decide_eq_false (by omega)
        obtain ⟨N', hdv, -⟩ := HSt.out.cp.dev.fl
        obtain ⟨be, sb, HEND⟩ := plays_end (w := w) hdv HSt.out.cp.ref.fl HSt.out.su.sc.sim.b HSt.out.bl
        have z0 : ∀ W, Below wr.heap.size wr W → W.cell? ⟨p.h, 0, none⟩ = some (.slice (some ⟨p.hB, 0, none⟩) 4096 p.kB) := HEND.out.2.2.2.1
        have zb : ∀ W, Below wr.heap.size wr W → (convert 22 9 (.slice (some ⟨p.hB, 0, none⟩) 4096 p.kB)).run Try.prog W = .ok (.string sb) W := fun W hW => conv_now (HEND.out.2.2.2.2 W hW) HEND.out.2.1.symm HEND.out.2.2.1
        go_wp2_with fail
        refine wp_region_noPanic ?_
        refine wp_region_held_drew (S := fun W => Below wr.heap.size wr W) (by kernel_rfl) (by exact (Below.refl _ _).drew) (fun hS => ?_)
        refine' take_at 0 rfl (by kernel_rfl) (by kernel_rfl) (by kernel_rfl) (fun _ _ _ h => h) (by rfl) hS ?_ ?_ ?_
        rotate_left 2
        · intro W hSW; go_simp; try with_reducible rfl
        · simp only [List.set_cons_succ, List.set_cons_zero]; rfl
        refine' take_at 3 rfl (by kernel_rfl) (by kernel_rfl) (by kernel_rfl) (fun _ _ _ h => h) (by rfl) hS ?_ ?_ ?_
        rotate_left 2
        · intro W hSW; go_simp; try with_reducible rfl
        · simp only [List.set_cons_succ, List.set_cons_zero]; rfl
        refine' take_at 4 rfl (by kernel_rfl) (by kernel_rfl) (by kernel_rfl) (fun _ _ _ h => h) (by rfl) hS ?_ ?_ ?_
        rotate_left 2
        · intro W hSW; go_simp; try with_reducible rfl
        · simp only [List.set_cons_succ, List.set_cons_zero]; rfl
        refine' take_at 5 rfl (by kernel_rfl) (by kernel_rfl) (by kernel_rfl) (fun _ _ _ h => h) (by rfl) hS ?_ ?_ ?_
        rotate_left 2
        · intro W hSW; go_simp; try with_reducible rfl
        · simp only [List.set_cons_succ, List.set_cons_zero]; rfl
        refine' take_at 6 rfl (by kernel_rfl) (by kernel_rfl) (by kernel_rfl) (fun _ _ _ h => h) (by rfl) hS ?_ ?_ ?_
        rotate_left 2
        · intro W hSW; go_simp; try with_reducible rfl
        · simp only [List.set_cons_succ, List.set_cons_zero]; rfl
        refine' take_at 7 rfl (by kernel_rfl) (by kernel_rfl) (by kernel_rfl) (fun _ _ _ h => h) (by rfl) hS ?_ ?_ ?_
        rotate_left 2
        · intro W hSW; go_simp; try with_reducible rfl
        · simp only [List.set_cons_succ, List.set_cons_zero]; rfl
        refine call_at 1 rfl (by kernel_rfl) (by rfl) (fun K hK => ?_)
        go_simp
        refine (HEND.out.1 _ hS).mono ?_
        rintro e w20 ⟨v20, rfl, ho20, hb20⟩
        obtain ⟨A20, c20, rfl, hbs20, -⟩ := ho20.form
        rw [HEND.out.2.1]
        have kS20 := below_on hS hb20
        have m20 : ∀ W, Below w20.heap.size w20 W → (convert 22 9 (.slice A20 4096 c20)).run Try.prog W = .ok (.string sb) W := fun W hW => conv_now (hbs20.below hW) HEND.out.2.1.symm HEND.out.2.2.1
        have m21 : ∀ W, Below w20.heap.size w20 W → (convert 22 9 (.slice (some ⟨p.hB, 0, none⟩) 4096 p.kB)).run Try.prog W = .ok (.string sb) W := fun W hW => conv_now (HEND.out.2.2.2.2 W (below_on kS20 hW)) HEND.out.2.1.symm HEND.out.2.2.1
        have m22 : ∀ W, Below w20.heap.size w20 W → W.cell? ⟨p.h, 0, none⟩ = some (.slice (some ⟨p.hB, 0, none⟩) 4096 p.kB) := fun W hW => HEND.out.2.2.2.1 W (below_on kS20 hW)
        have HX20 := Lib.hid hbs20
        clear hS ho20 hb20 hbs20
        refine hK.out _ _ (by exact kS20) (fun hS => ?_)
        clear hK K
        refine held_mono (S2 := fun W => Below w20.heap.size w20 W) (fun W hW => below_on kS20 hW) _ _ _ _ ?_
        replace hS : Below w20.heap.size w20 w20 := Below.refl _ _
        refine' take_at 2 rfl (by kernel_rfl) (by kernel_rfl) (by kernel_rfl) (fun _ _ _ h => h) (by rfl) hS ?_ ?_ ?_
        rotate_left 2
        · intro W hSW; go_simp; try with_reducible rfl
        · simp only [List.set_cons_succ, List.set_cons_zero]; rfl
        refine' take_at 8 rfl (by kernel_rfl) (by kernel_rfl) (by kernel_rfl) (fun _ _ _ h => h) (by rfl) hS ?_ ?_ ?_
        rotate_left 2
        · intro W hSW; go_simp; try with_reducible rfl
        · simp only [List.set_cons_succ, List.set_cons_zero]; rfl
        refine' take_at 9 rfl (by kernel_rfl) (by kernel_rfl) (by kernel_rfl) (fun _ _ _ h => h) (by rfl) hS ?_ ?_ ?_
        rotate_left 2
        · intro W hSW; go_simp; try with_reducible rfl
        · simp only [List.set_cons_succ, List.set_cons_zero]; rfl
        refine wpAnyH_done (by kernel_rfl) ?_ _
        refine NoPanic.normal ?_
        go_wp2_with fail
        go_ret
        exact ⟨rfl, below_on HSt.out.bel (below_on kS20 hS)⟩
  · obtain ⟨-, hp2⟩ := hp
    rw [if_pos (by omega)] at hp2
    subst hp2
    clear hb10
    go_wp2_with fail
    refine HRN.out.mono ?_
    intro e w11 hp
    obtain ⟨hb11, hp2⟩ := hp
    rw [if_pos (by omega)] at hp2
    subst hp2
    have B511 := Lib.hid (below_on B510.out hb11)
    obtain ⟨be, sb, HEND⟩ := plays_end (w := w) ((HD5.out 0).below B511.out) ((HR5.out 0).below B511.out) rfl (by have := Hbx.out; show bx.length = _; omega)
    have kB : w11.cell? ⟨h, 0, none⟩ = some (.slice (some ⟨gP, 0, none⟩) 4096 cP) := HEND.out.2.2.2.1 _ (Below.refl _ _)
    have HB11 := Lib.hid (below_on B5.out B511.out)
    clear hb11 hin
    go_wp2_with fail
    refine (num4_any _ _).mono ?_
    rintro e w' ⟨rfl, rfl⟩
    go_wp2_with fail
    go_loopw [18] (fun iv wr => iv = .int .i64 0 ∧ wr = w11) (fun _ _ => 0)
    case atStart => exact ⟨rfl, rfl⟩
    case round =>
      obtain ⟨rfl, rfl⟩ := hrel
      by_cases hL0 : 0 < L.length
      · have dL : decide ((0 : Int) < (L.length : Int)) = true := decide_eq_true (by omega)
        have z0 : ∀ W, Below wr.heap.size wr W → W.cell? ⟨h, 0, none⟩ = some (.slice (some ⟨gP, 0, none⟩) 4096 cP) := HEND.out.2.2.2.1
        have zb : ∀ W, Below wr.heap.size wr W → (convert 22 9 (.slice (some ⟨gP, 0, none⟩) 4096 cP)).run Try.prog W = .ok (.string sb) W := fun W hW => conv_now (HEND.out.2.2.2.2 W hW) HEND.out.2.1.symm HEND.out.2.2.1
        go_wp2_with fail
        refine wp_region_noPanic ?_
        refine wp_region_held_drew (S := fun W => Below wr.heap.size wr W) (by kernel_rfl) (by exact (Below.refl _ _).drew) (fun hS => ?_)
        refine' take_at 0 rfl (by kernel_rfl) (by kernel_rfl) (by kernel_rfl) (fun _ _ _ h => h) (by rfl) hS ?_ ?_ ?_
        rotate_left 2
        · intro W hSW; go_simp; try with_reducible rfl
        · simp only [List.set_cons_succ, List.set_cons_zero]; rfl
        refine' take_at 3 rfl (by kernel_rfl) (by kernel_rfl) (by kernel_rfl) (fun _ _ _ h => h) (by rfl) hS ?_ ?_ ?_
        rotate_left 2
        · intro W hSW; go_simp; try with_reducible rfl
        · simp only [List.set_cons_succ, List.set_cons_zero]; rfl
        refine' take_at 4 rfl (by kernel_rfl) (by kernel_rfl) (by kernel_rfl) (fun _ _ _ h => h) (by rfl) hS ?_ ?_ ?_
        rotate_left 2
        · intro W hSW; go_simp; try with_reducible rfl
        · simp only [List.set_cons_succ, List.set_cons_zero]; rfl
        refine' take_at 5 rfl (by kernel_rfl) (by kernel_rfl) (by kernel_rfl) (fun _ _ _ h => h) (by rfl) hS ?_ ?_ ?_
        rotate_left 2
        · intro W hSW; go_simp; try with_reducible rfl
        · simp only [List.set_cons_succ, List.set_cons_zero]; rfl
        refine' take_at 6 rfl (by kernel_rfl) (by kernel_rfl) (by kernel_rfl) (fun _ _ _ h => h) (by rfl) hS ?_ ?_ ?_
        rotate_left 2
        · intro W hSW; go_simp; try with_reducible rfl
        · simp only [List.set_cons_succ, List.set_cons_zero]; rfl
        refine' take_at 7 rfl (by kernel_rfl) (by kernel_rfl) (by kernel_rfl) (fun _ _ _ h => h) (by rfl) hS ?_ ?_ ?_
        rotate_left 2
        · intro W hSW; go_simp; try with_reducible rfl
        · simp only [List.set_cons_succ, List.set_cons_zero]; rfl
        refine call_at 1 rfl (by kernel_rfl) (by rfl) (fun K hK => ?_)
        go_simp
        refine (HEND.out.1 _ hS).mono ?_
        rintro e w20 ⟨v20, rfl, ho20, hb20⟩
        obtain ⟨A20, c20, rfl, hbs20, -⟩ := ho20.form
        rw [HEND.out.2.1]
        have kS20 := below_on hS hb20
        have m20 : ∀ W, Below w20.heap.size w20 W → (convert 22 9 (.slice A20 4096 c20)).run Try.prog W = .ok (.string sb) W := fun W hW => conv_now (hbs20.below hW) HEND.out.2.1.symm HEND.out.2.2.1
        have m21 : ∀ W, Below w20.heap.size w20 W → (convert 22 9 (.slice (some ⟨gP, 0, none⟩) 4096 cP)).run Try.prog W = .ok (.string sb) W := fun W hW => conv_now (HEND.out.2.2.2.2 W (below_on kS20 hW)) HEND.out.2.1.symm HEND.out.2.2.1
        have m22 : ∀ W, Below w20.heap.size w20 W → W.cell? ⟨h, 0, none⟩ = some (.slice (some ⟨gP, 0, none⟩) 4096 cP) := fun W hW => HEND.out.2.2.2.1 W (below_on kS20 hW)
        have HX20 := Lib.hid hbs20
        clear hS ho20 hb20 hbs20
        refine hK.out _ _ (by exact kS20) (fun hS => ?_)
        clear hK K
        refine held_mono (S2 := fun W => Below w20.heap.size w20 W) (fun W hW => below_on kS20 hW) _ _ _ _ ?_
        replace hS : Below w20.heap.size w20 w20 := Below.refl _ _
        refine' take_at 2 rfl (by kernel_rfl) (by kernel_rfl) (by kernel_rfl) (fun _ _ _ h => h) (by rfl) hS ?_ ?_ ?_
        rotate_left 2
        · intro W hSW; go_simp; try with_reducible rfl
        · simp only [List.set_cons_succ, List.set_cons_zero]; rfl
        refine' take_at 8 rfl (by kernel_rfl) (by kernel_rfl) (by kernel_rfl) (fun _ _ _ h => h) (by rfl) hS ?_ ?_ ?_
        rotate_left 2
        · intro W hSW; go_simp; try with_reducible rfl
        · simp only [List.set_cons_succ, List.set_cons_zero]; rfl
        refine' take_at 9 rfl (by kernel_rfl) (by kernel_rfl) (by kernel_rfl) (fun _ _ _ h => h) (by rfl) hS ?_ ?_ ?_
        rotate_left 2
        · intro W hSW; go_simp; try with_reducible rfl
        · simp only [List.set_cons_succ, List.set_cons_zero]; rfl
        refine wpAnyH_done (by kernel_rfl) ?_ _
        refine NoPanic.normal ?_
        go_wp2_with fail
        go_ret
        exact ⟨rfl, below_on HB11.out (below_on kS20 hS)⟩
      · have dL : decide ((0 : Int) < (L.length : Int)) = false := decide_eq_false (by omega)
        have z0 : ∀ W, Below wr.heap.size wr W → W.cell? ⟨h, 0, none⟩ = some (.slice (some ⟨gP, 0, none⟩) 4096 cP) := HEND.out.2.2.2.1
        have zb : ∀ W, Below wr.heap.size wr W → (convert 22 9 (.slice (some ⟨gP, 0, none⟩) 4096 cP)).run Try.prog W = .ok (.string sb) W := fun W hW => conv_now (HEND.out.2.2.2.2 W hW) HEND.out.2.1.symm HEND.out.2.2.1
        go_wp2_with fail
        refine wp_region_noPanic ?_
        refine wp_region_held_drew (S := fun W => Below wr.heap.size wr W) (by kernel_rfl) (by exact (Below.refl _ _).drew) (fun hS => ?_)
        refine' take_at 0 rfl (by kernel_rfl) (by kernel_rfl) (by kernel_rfl) (fun _ _ _ h => h) (by rfl) hS ?_ ?_ ?_
        rotate_left 2
        · intro W hSW; go_simp; try with_reducible rfl
        · simp only [List.set_cons_succ, List.set_cons_zero]; rfl
        refine' take_at 3 rfl (by kernel_rfl) (by kernel_rfl) (by kernel_rfl) (fun _ _ _ h => h) (by rfl) hS ?_ ?_ ?_
        rotate_left 2
        · intro W hSW; go_simp; try with_reducible rfl
        · simp only [List.set_cons_succ, List.set_cons_zero]; rfl
        refine' take_at 4 rfl (by kernel_rfl) (by kernel_rfl) (by kernel_rfl) (fun _ _ _ h => h) (by rfl) hS ?_ ?_ ?_
        rotate_left 2
        · intro W hSW; go_simp; try with_reducible rfl
        · simp only [List.set_cons_succ, List.set_cons_zero]; rfl
        refine' take_at 5 rfl (by kernel_rfl) (by kernel_rfl) (by kernel_rfl) (fun _ _ _ h => h) (by rfl) hS ?_ ?_ ?_
        rotate_left 2
        · intro W hSW; go_simp; try with_reducible rfl
        · simp only [List.set_cons_succ, List.set_cons_zero]; rfl
        refine' take_at 6 rfl (by kernel_rfl) (by kernel_rfl) (by kernel_rfl) (fun _ _ _ h => h) (by rfl) hS ?_ ?_ ?_
        rotate_left 2
        · intro W hSW; go_simp; try with_reducible rfl
        · simp only [List.set_cons_succ, List.set_cons_zero]; rfl
        refine' take_at 7 rfl (by kernel_rfl) (by kernel_rfl) (by kernel_rfl) (fun _ _ _ h => h) (by rfl) hS ?_ ?_ ?_
        rotate_left 2
        · intro W hSW; go_simp; try with_reducible rfl
        · simp only [List.set_cons_succ, List.set_cons_zero]; rfl
        refine call_at 1 rfl (by kernel_rfl) (by rfl) (fun K hK => ?_)
        go_simp
        refine (HEND.out.1 _ hS).mono ?_
        rintro e w20 ⟨v20, rfl, ho20, hb20⟩
        obtain ⟨A20, c20, rfl, hbs20, -⟩ := ho20.form
        rw [HEND.out.2.1]
        have kS20 := below_on hS hb20
        have m20 : ∀ W, Below w20.heap.size w20 W → (convert 22 9 (.slice A20 4096 c20)).run Try.prog W = .ok (.string sb) W := fun W hW => conv_now (hbs20.below hW) HEND.out.2.1.symm HEND.out.2.2.1
        have m21 : ∀ W, Below w20.heap.size w20 W → (convert 22 9 (.slice (some ⟨gP, 0, none⟩) 4096 cP)).run Try.prog W = .ok (.string sb) W := fun W hW => conv_now (HEND.out.2.2.2.2 W (below_on kS20 hW)) HEND.out.2.1.symm HEND.out.2.2.1
        have m22 : ∀ W, Below w20.heap.size w20 W → W.cell? ⟨h, 0, none⟩ = some (.slice (some ⟨gP, 0, none⟩) 4096 cP) := fun W hW => HEND.out.2.2.2.1 W (below_on kS20 hW)
        have HX20 := Lib.hid hbs20
        clear hS ho20 hb20 hbs20
        refine hK.out _ _ (by exact kS20) (fun hS => ?_)
        clear hK K
        refine held_mono (S2 := fun W => Below w20.heap.size w20 W) (fun W hW => below_on kS20 hW) _ _ _ _ ?_
        replace hS : Below w20.heap.size w20 w20 := Below.refl _ _
        refine' take_at 2 rfl (by kernel_rfl) (by kernel_rfl) (by kernel_rfl) (fun _ _ _ h => h) (by rfl) hS ?_ ?_ ?_
        rotate_left 2
        · intro W hSW; go_simp; try with_reducible rfl
        · simp only [List.set_cons_succ, List.set_cons_zero]; rfl
        refine' take_at 8 rfl (by kernel_rfl) (by kernel_rfl) (by kernel_rfl) (fun _ _ _ h => h) (by rfl) hS ?_ ?_ ?_
        rotate_left 2
        · intro W hSW; go_simp; try with_reducible rfl
        · simp only [List.set_cons_succ, List.set_cons_zero]; rfl
        refine' take_at 9 rfl (by kernel_rfl) (by kernel_rfl) (by kernel_rfl) (fun _ _ _ h => h) (by rfl) hS ?_ ?_ ?_
        rotate_left 2
        · intro W hSW; go_simp; try with_reducible rfl
        · simp only [List.set_cons_succ, List.set_cons_zero]; rfl
        refine wpAnyH_done (by kernel_rfl) ?_ _
        refine NoPanic.normal ?_
        go_wp2_with fail
        go_ret
        exact ⟨rfl, below_on HB11.out (below_on kS20 hS)⟩

end Go.Proofs.Ytcpkmhhlcmnfdaa

