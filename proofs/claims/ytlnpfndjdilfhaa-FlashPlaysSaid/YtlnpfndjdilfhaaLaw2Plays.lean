/- The walk of FlashPlays. Written by wip/tools/mk_plays2.py. -/
import Derived.Test.YtlnpfndjdilfhaaLaw2Play
import Derived.Test.YtlnpfndjdilfhaaRegion
namespace Go.Proofs.Ytlnpfndjdilfhaa
open Go.RowKit
set_option linter.unusedVariables false

theorem Play.below {N : Nat} {w0 wr w' : World} {p : Ad} {n k : Nat} (h : Play N w0 p n k wr) (hb : Below wr.heap.size wr w') : Play N w0 p n k w' := by
  obtain ⟨d, f, hp, hs, ok, rok, hst, hwn, hwl, hbw, hlo⟩ := h
  exact ⟨d, f, hp.below hb, hs, ok, rok, hst, hwn, hwl, below_on hbw hb, hlo⟩

/-- what the two answer of their power and their steps -/
structure AskFacts (w : World) (p : Ad) (od : Bool) (st : Int) : Prop where
  dark : ∀ W, Below w.heap.size w W → W.cell? ⟨p.h, 5, none⟩ = some (.bool od)
  steps : ∀ W, Below w.heap.size w W → W.cell? ⟨p.h, 2, none⟩ = some (.int .i64 st)
  off : ∀ W, Below w.heap.size w W → Calls Try.prog 12 #[.pointer (some ⟨p.g, 0, none⟩)] W fun e w' => e = .returned (.bool od) ∧ W = w'
  ask : ∀ W, Below w.heap.size w W → Calls Try.prog 13 #[.pointer (some ⟨p.g, 0, none⟩)] W fun e w' => e = .returned (.int .i64 st) ∧ W = w'
theorem plays_facts {N : Nat} {w : World} {p : Ad} {d : Dl} {f : Fl} (hp : Pair N w p d f) (hs : Sim d f) : ∃ od st, Hid (AskFacts w p od st) := by
  refine ⟨d.off, d.steps, Lib.hid ⟨fun W hW => ?_, fun W hW => ?_, fun W hW => doff_any (hp.below hW).dev, fun W hW => dsteps_any (hp.below hW).dev⟩⟩
  · obtain ⟨AP, cP, hg, -, -⟩ := (hp.below hW).ref.cells
    rw [cell_of_row _ _ _ _ _ _ hg, hs.off]
    rfl
  · obtain ⟨AP, cP, hg, -, -⟩ := (hp.below hW).ref.cells
    rw [cell_of_row _ _ _ _ _ _ hg, hs.steps]
    rfl

set_option maxRecDepth 100000 in
set_option maxHeartbeats 6400000 in
theorem law2Plays_yes (s : Int) (A0 : Option Addr) (L : List ActD) (c0 : Nat) (w : World) (hL : Acts w A0 L) (hLm : L.length ≤ 9223372036854775807) (hfew : fewB L = true) (hs6 : s ≤ 6) (hs1 : -9223372036854775808 ≤ s) :
    Calls Try.prog 3 #[.int .i64 s, .slice A0 L.length c0] w fun e w' => e = .returned (.bool true) ∧ Below w.heap.size w w' := by
  have HFEW : Hid (∀ W, Below w.heap.size w W → Calls Try.prog 8 #[.slice A0 L.length c0] W fun e w' => e = .returned (.bool true) ∧ W = w') := Lib.hid (fun W hW => by rw [← hfew]; exact few_any W A0 L c0 (hL.below hW) hLm)
  have Hfew : Hid (fewB L = true) := hfew
  obtain ⟨n, hn, hn1, hn6⟩ : ∃ n : Nat, (if s < 1 then 1 else if 256 < s then 256 else s) = (n : Int) ∧ 1 ≤ n ∧ n ≤ 6 := by
    by_cases h1 : s < 1
    · exact ⟨1, by rw [if_pos h1]; rfl, by omega, by omega⟩
    · exact ⟨s.toNat, by rw [if_neg h1, if_neg (by omega)]; omega, by omega, by omega⟩
  have Hn := Lib.hid hn
  have HND : Hid (∀ W, Calls Try.prog 9 #[.int .i64 s] W (DNewPost W n)) := Lib.hid (fun W => dnew_any s n W Hn hn1 (by omega))
  have HNR : Hid (∀ W, Calls Try.prog 10 #[.int .i64 s] W (NewPost W n)) := Lib.hid (fun W => rnew_any s n W Hn hn1 (by omega))
  have HL := Lib.hid hL
  have d1 : decide (6 < s) = false := decide_eq_false (by omega)
  clear hfew hL hn
  go_enter Try.func3, Try.ntmps3
  go_wp2_with fail
  refine (alive2_any _).mono ?_
  rintro e w1 ⟨rfl, hb1⟩
  have B1 := Lib.hid hb1
  clear hb1
  go_wp2_with fail
  refine (HFEW.out _ B1.out).mono ?_
  rintro e w' ⟨rfl, rfl⟩
  go_wp2_with fail
  refine (HND.out _).mono ?_
  rintro e w2 ⟨g, gB, gW, cB, cW, rfl, hf, hb2, hg, hgB, hgW⟩
  have HF := Lib.hid hf
  have B2 := Lib.hid hb2
  have G1 : Hid (w1.heap.size ≤ g ∧ w1.heap.size ≤ gB ∧ w1.heap.size ≤ gW) := Lib.hid ⟨hg, hgB, hgW⟩
  clear hf hb2 hg hgB hgW
  go_wp2_with fail
  refine (HNR.out _).mono ?_
  rintro e w3 ⟨h, hB, hW, kB, kW, rfl, hr, hb3, q1, q2, q3⟩
  have HPL : Hid (Play w3.heap.size w ⟨g, gB, gW, cB, cW, h, hB, hW, kB, kW⟩ n 0 w3) := Lib.hid (play_new (by omega) HF.out G1.out.1 G1.out.2.1 G1.out.2.2 B2.out hr q1 q2 q3 hb3 B1.out)
  obtain ⟨p, Hp⟩ : ∃ p : Ad, Hid ((⟨g, gB, gW, cB, cW, h, hB, hW, kB, kW⟩ : Ad) = p) := ⟨_, rfl⟩
  rw [Hp.out] at HPL
  obtain rfl : p.g = g := by rw [← Hp.out]
  obtain rfl : p.h = h := by rw [← Hp.out]
  clear hr hb3 q1 q2 q3
  obtain ⟨N, HN⟩ : ∃ N, Hid (w3.heap.size = N) := ⟨_, rfl⟩
  rw [HN.out] at HPL
  go_wp2_with fail
  go_loopw [8] (fun i wr => ∃ k : Nat, k ≤ L.length ∧ i = .int .i64 k ∧ Hid (Play N w p n k wr)) (fun i _ => L.length - (intOf i).toNat)
  case atStart => exact ⟨0, Nat.zero_le _, rfl, HPL⟩
  case round =>
    obtain ⟨k, hk, rfl, HK⟩ := hrel
    have hl30 : L.length ≤ 30 := by have := Hfew.out; unfold fewB at this; rw [Bool.and_eq_true] at this; exact of_decide_eq_true this.1
    by_cases hlt : k < L.length
    · obtain ⟨ga, oa, rfl, hat⟩ := HL.out (by omega)
      have ha0 := hat k hlt
      obtain ⟨a, Ha⟩ : ∃ a, Hid (L[k] = a) := ⟨L[k], Lib.hid rfl⟩
      rw [Ha.out] at ha0
      have hal : a.b.length ≤ 1100 := by have := Hfew.out; unfold fewB at this; rw [Bool.and_eq_true, List.all_eq_true] at this; have := this.2 L[k] (List.getElem_mem hlt); rw [Ha.out] at this; exact of_decide_eq_true this
      obtain ⟨d, f, hin, hout⟩ := play_in (HK.out.below (Below.refl wr.heap.size wr).drew) (by omega) (by omega) ha0 hal
      have hbw : Below w.heap.size w wr := by obtain ⟨_, _, _, _, _, _, _, _, _, hb, _⟩ := HK.out; exact hb
      have hgal : ¬ AdF p ga := fun hf => by
        have hlo : ∀ j, AdF p j → w.heap.size ≤ j := by obtain ⟨_, _, _, _, _, _, _, _, _, _, h⟩ := HK.out; exact h
        have := hlo _ hf
        have := World.block_lt_of_cell? w _ ha0.k
        simp at this
        omega
      have ha1' := ha0.below hbw
      have LK : ∀ j v, wr.cell? ⟨ga, j, none⟩ = some v → ∀ W, Only (AdF p) wr W → W.cell? ⟨ga, j, none⟩ = some v := fun j v hv W hW => by
        rw [World.cell?_of_block (hW.block _ (World.block_lt_of_cell? wr _ hv) hgal)]; exact hv
      have e1 := LK _ _ ha1'.k
      have e2 := LK _ _ ha1'.t
      have e3 := LK _ _ ha1'.n
      have e4 := LK _ _ ha1'.s
      have HIN := Lib.hid hin
      have HOUT := Lib.hid hout
      clear hat ha0 hin hout hbw ha1' LK hgal
      go_wp2_with fail
      refine wp_region_noPanic ?_
      refine wp_region_held_drew (S := fun W => Only (AdF p) wr W) (by kernel_rfl) (by exact Only.drew (Only.refl _ _)) (fun hS => ?_)
      refine' take_at 0 rfl (by kernel_rfl) (by kernel_rfl) (by kernel_rfl) (fun _ _ _ h => h) (by rfl) hS ?_ ?_ ?_
      rotate_left 2
      · intro W hSW; go_simp; try with_reducible rfl
      · simp only [List.set_cons_succ, List.set_cons_zero]; rfl
      refine' take_at 1 rfl (by kernel_rfl) (by kernel_rfl) (by kernel_rfl) (fun _ _ _ h => h) (by rfl) hS ?_ ?_ ?_
      rotate_left 2
      · intro W hSW; go_simp; try with_reducible rfl
      · simp only [List.set_cons_succ, List.set_cons_zero]; rfl
      refine' take_at 2 rfl (by kernel_rfl) (by kernel_rfl) (by kernel_rfl) (fun _ _ _ h => h) (by rfl) hS ?_ ?_ ?_
      rotate_left 2
      · intro W hSW; go_simp; try with_reducible rfl
      · simp only [List.set_cons_succ, List.set_cons_zero]; rfl
      refine' take_at 3 rfl (by kernel_rfl) (by kernel_rfl) (by kernel_rfl) (fun _ _ _ h => h) (by rfl) hS ?_ ?_ ?_
      rotate_left 2
      · intro W hSW; go_simp; try with_reducible rfl
      · simp only [List.set_cons_succ, List.set_cons_zero]; rfl
      refine' take_at 4 rfl (by kernel_rfl) (by kernel_rfl) (by kernel_rfl) (fun _ _ _ h => h) (by rfl) hS ?_ ?_ ?_
      rotate_left 2
      · intro W hSW; go_simp; try with_reducible rfl
      · simp only [List.set_cons_succ, List.set_cons_zero]; rfl
      refine' take_at 5 rfl (by kernel_rfl) (by kernel_rfl) (by kernel_rfl) (fun _ _ _ h => h) (by rfl) hS ?_ ?_ ?_
      rotate_left 2
      · intro W hSW; go_simp; try with_reducible rfl
      · simp only [List.set_cons_succ, List.set_cons_zero]; rfl
      refine call_at 6 rfl (by kernel_rfl) (by rfl) (fun K hK => ?_)
      go_simp
      refine (do_any a.k HIN.out).mono ?_
      rintro e w5 hpost
      have hpost2 := hpost
      obtain ⟨-, dx, fx, -, -, -, -, ho5⟩ := hpost2
      obtain ⟨rfl, hnext⟩ := HOUT.out _ _ hpost
      have HNX := Lib.hid hnext
      obtain ⟨d5, f5, hp5, hs5, hok5, hrok5, -, -, hwl5, -, -⟩ := hnext
      obtain ⟨od, st, HQ⟩ := plays_facts hp5 hs5
      obtain ⟨LD, LS, HOFF, HSTP⟩ := HQ.out
      have HOF := Lib.hid HOFF
      have HST := Lib.hid HSTP
      have kO5 : Only (AdF p) wr w5 := (Only.drew (Only.refl _ _)).trans ho5
      clear hS hpost ho5 hp5 hs5 hok5 hrok5 hwl5 HOFF HSTP HQ
      refine hK.out _ _ (by exact kO5) (fun hS => ?_)
      clear hK K
      refine held_mono (S2 := fun W => Below w5.heap.size w5 W) (fun W hW => kO5.trans (Only.of_below hW)) _ _ _ _ ?_
      replace hS : Below w5.heap.size w5 w5 := Below.refl _ _
      refine' take_at 7 rfl (by kernel_rfl) (by kernel_rfl) (by kernel_rfl) (fun _ _ _ h => h) (by rfl) hS ?_ ?_ ?_
      rotate_left 2
      · intro W hSW; go_simp; try with_reducible rfl
      · simp only [List.set_cons_succ, List.set_cons_zero]; rfl
      refine' take_at 8 rfl (by kernel_rfl) (by kernel_rfl) (by kernel_rfl) (fun _ _ _ h => h) (by rfl) hS ?_ ?_ ?_
      rotate_left 2
      · intro W hSW; go_simp; try with_reducible rfl
      · simp only [List.set_cons_succ, List.set_cons_zero]; rfl
      refine' take_at 9 rfl (by kernel_rfl) (by kernel_rfl) (by kernel_rfl) (fun _ _ _ h => h) (by rfl) hS ?_ ?_ ?_
      rotate_left 2
      · intro W hSW; go_simp; try with_reducible rfl
      · simp only [List.set_cons_succ, List.set_cons_zero]; rfl
      refine' take_at 11 rfl (by kernel_rfl) (by kernel_rfl) (by kernel_rfl) (fun _ _ _ h => h) (by rfl) hS ?_ ?_ ?_
      rotate_left 2
      · intro W hSW; go_simp; try with_reducible rfl
      · simp only [List.set_cons_succ, List.set_cons_zero]; rfl
      refine' take_at 12 rfl (by kernel_rfl) (by kernel_rfl) (by kernel_rfl) (fun _ _ _ h => h) (by rfl) hS ?_ ?_ ?_
      rotate_left 2
      · intro W hSW; go_simp; try with_reducible rfl
      · simp only [List.set_cons_succ, List.set_cons_zero]; rfl
      refine' take_at 13 rfl (by kernel_rfl) (by kernel_rfl) (by kernel_rfl) (fun _ _ _ h => h) (by rfl) hS ?_ ?_ ?_
      rotate_left 2
      · intro W hSW; go_simp; try with_reducible rfl
      · simp only [List.set_cons_succ, List.set_cons_zero]; rfl
      refine' take_at 14 rfl (by kernel_rfl) (by kernel_rfl) (by kernel_rfl) (fun _ _ _ h => h) (by rfl) hS ?_ ?_ ?_
      rotate_left 2
      · intro W hSW; go_simp; try with_reducible rfl
      · simp only [List.set_cons_succ, List.set_cons_zero]; rfl
      refine call_at 10 rfl (by kernel_rfl) (by rfl) (fun K hK => ?_)
      go_simp
      refine (HOF.out _ hS).mono ?_
      rintro e w7 ⟨rfl, rfl⟩
      refine hK.out _ _ (by exact hS) (fun hS => ?_)
      clear hK K
      refine' take_at 15 rfl (by kernel_rfl) (by kernel_rfl) (by kernel_rfl) (fun _ _ _ h => h) (by rfl) hS ?_ ?_ ?_
      rotate_left 2
      · intro W hSW; go_simp; try with_reducible rfl
      · simp only [List.set_cons_succ, List.set_cons_zero]; rfl
      refine' take_at 16 rfl (by kernel_rfl) (by kernel_rfl) (by kernel_rfl) (fun _ _ _ h => h) (by rfl) hS ?_ ?_ ?_
      rotate_left 2
      · intro W hSW; go_simp; try with_reducible rfl
      · simp only [List.set_cons_succ, List.set_cons_zero]; rfl
      refine' take_at 17 rfl (by kernel_rfl) (by kernel_rfl) (by kernel_rfl) (fun _ _ _ h => h) (by rfl) hS ?_ ?_ ?_
      rotate_left 2
      · intro W hSW; go_simp; try with_reducible rfl
      · simp only [List.set_cons_succ, List.set_cons_zero]; rfl
      refine' take_at 18 rfl (by kernel_rfl) (by kernel_rfl) (by kernel_rfl) (fun _ _ _ h => h) (by rfl) hS ?_ ?_ ?_
      rotate_left 2
      · intro W hSW; go_simp; try with_reducible rfl
      · simp only [List.set_cons_succ, List.set_cons_zero]; rfl
      refine' take_at 20 rfl (by kernel_rfl) (by kernel_rfl) (by kernel_rfl) (fun _ _ _ h => h) (by rfl) hS ?_ ?_ ?_
      rotate_left 2
      · intro W hSW; go_simp; try with_reducible rfl
      · simp only [List.set_cons_succ, List.set_cons_zero]; rfl
      refine' take_at 21 rfl (by kernel_rfl) (by kernel_rfl) (by kernel_rfl) (fun _ _ _ h => h) (by rfl) hS ?_ ?_ ?_
      rotate_left 2
      · intro W hSW; go_simp; try with_reducible rfl
      · simp only [List.set_cons_succ, List.set_cons_zero]; rfl
      refine' take_at 22 rfl (by kernel_rfl) (by kernel_rfl) (by kernel_rfl) (fun _ _ _ h => h) (by rfl) hS ?_ ?_ ?_
      rotate_left 2
      · intro W hSW; go_simp; try with_reducible rfl
      · simp only [List.set_cons_succ, List.set_cons_zero]; rfl
      refine' take_at 23 rfl (by kernel_rfl) (by kernel_rfl) (by kernel_rfl) (fun _ _ _ h => h) (by rfl) hS ?_ ?_ ?_
      rotate_left 2
      · intro W hSW; go_simp; try with_reducible rfl
      · simp only [List.set_cons_succ, List.set_cons_zero]; rfl
      refine call_at 19 rfl (by kernel_rfl) (by rfl) (fun K hK => ?_)
      go_simp
      refine (HST.out _ hS).mono ?_
      rintro e w7 ⟨rfl, rfl⟩
      refine hK.out _ _ (by exact hS) (fun hS => ?_)
      clear hK K
      refine' take_at 24 rfl (by kernel_rfl) (by kernel_rfl) (by kernel_rfl) (fun _ _ _ h => h) (by rfl) hS ?_ ?_ ?_
      rotate_left 2
      · intro W hSW; go_simp; try with_reducible rfl
      · simp only [List.set_cons_succ, List.set_cons_zero]; rfl
      refine' take_at 25 rfl (by kernel_rfl) (by kernel_rfl) (by kernel_rfl) (fun _ _ _ h => h) (by rfl) hS ?_ ?_ ?_
      rotate_left 2
      · intro W hSW; go_simp; try with_reducible rfl
      · simp only [List.set_cons_succ, List.set_cons_zero]; rfl
      refine wpAnyH_done (by kernel_rfl) ?_ _
      refine NoPanic.normal ?_
      have HPX : Hid (Play N w p n (k + 1) _) := Lib.hid (HNX.out.below hS)
      clear hS LD LS e1 e2 e3 e4 kO5
      go_wp2_with fail
      go_roundw
      case rel => exact ⟨k + 1, by omega, by go_num, HPX⟩
      case measure => simp [intOf]; omega
    · have hkl : k = L.length := by omega
      subst hkl
      obtain ⟨d, f, hp, hs, ok, rok, -, -, hwl, hbw, -⟩ := HK.out
      have hbl : d.b.length ≤ 67108864 := by have := ok.len; have := ok.few; omega
      obtain ⟨AP, cP, hg, -, -⟩ := hp.ref.cells
      have r1 : wr.cell? ⟨p.h, 1, none⟩ = some (.slice (some ⟨p.hW, 0, none⟩) n p.kW) := by rw [cell_of_row _ _ _ _ _ _ hg, ← hwl, hs.worn]; rfl
      have HP := Lib.hid hp
      have HSM := Lib.hid hs
      have BW := Lib.hid hbw
      have hfw : f.worn.length ≤ 2147483648 := by have := rok.few; omega
      clear hp hs ok rok hwl hbw hg
      go_wp2_with fail
      obtain ⟨wz, rfl⟩ : ∃ wz : World, wz = wr := ⟨_, rfl⟩
      go_loop [9] (fun v => ∃ x : Int, -1 ≤ x ∧ x ≤ (n : Int) + 1 ∧ v = .int .i64 x) (fun v => ((n : Int) + 1 - intOf v).toNat)
      case atStart => exact ⟨-1, by omega, by omega, rfl⟩
      case round =>
        obtain ⟨x, hx1, hx2, rfl⟩ := hrel
        by_cases hxn : x ≤ (n : Int)
        · obtain ⟨q, Hq⟩ : ∃ q, Hid (wornAt d.worn x = q) := ⟨_, rfl⟩
          have HE1 : Hid (Calls Try.prog 14 #[.pointer (some ⟨p.g, 0, none⟩), .int .i64 x] wz fun e w' => e = .returned (.int .i64 q) ∧ wz = w') := Lib.hid (by rw [← Hq.out]; exact derases_any HP.out.dev x)
          have HE2 : Hid (Calls Try.prog 15 #[.pointer (some ⟨p.h, 0, none⟩), .int .i64 x] wz fun e w' => e = .returned (.int .i64 q) ∧ wz = w') := Lib.hid (by rw [← Hq.out, HSM.out.worn]; exact rerases_any HP.out.ref x hfw)
          go_wp2_with (first
            | (go_at_call 14; refine HE1.out.mono ?_; rintro e w' ⟨rfl, rfl⟩)
            | (go_at_call 15; refine HE2.out.mono ?_; rintro e w' ⟨rfl, rfl⟩))
          go_round
          case rel => exact ⟨x + 1, by omega, by omega, rfl⟩
          case measure => simp [intOf]; omega
        · -- all stands alike
          obtain ⟨sb, Hs⟩ : ∃ sb, Hid (strB d.b = sb) := ⟨_, rfl⟩
          have HSZ : Hid (∀ W, Below wz.heap.size wz W → Calls Try.prog 16 #[.pointer (some ⟨p.g, 0, none⟩)] W fun e w' => e = .returned (.int .i64 (d.b.length : Int)) ∧ W = w') := Lib.hid (fun W hW => dsize_any (HP.out.below hW).dev)
          have HPK : Hid (∀ W, Below wz.heap.size wz W → Calls Try.prog 17 #[.pointer (some ⟨p.g, 0, none⟩), .int .i64 0, .int .i64 (d.b.length : Int)] W (RetOb 5 W d.b)) := Lib.hid (fun W hW => by
            have hpk := dpeek_any (HP.out.below hW).dev 0 (d.b.length : Int) (by omega) (by omega) (by omega) (by omega) (by omega)
            have hpe : peekOf d 0 (d.b.length : Int) = d.b := by
              unfold peekOf
              rw [if_pos (by omega), Int.toNat_natCast]
              exact cut_self _
            rwa [hpe] at hpk)
          have L0 : ∀ W, Below wz.heap.size wz W → W.cell? ⟨p.h, 0, none⟩ = some (.slice (some ⟨p.hB, 0, none⟩) d.b.length p.kB) := fun W hW => by
            obtain ⟨AP, cP, hg, -, -⟩ := (HP.out.below hW).ref.cells
            rw [cell_of_row _ _ _ _ _ _ hg, HSM.out.b]
            rfl
          have m6 : ∀ W, Below wz.heap.size wz W → (convert 30 9 (.slice (some ⟨p.hB, 0, none⟩) d.b.length p.kB)).run Try.prog W = .ok (.string sb) W := fun W hW => conv_now (HP.out.below hW).ref.bytes.bs (by rw [HSM.out.b]) (by rw [← HSM.out.b]; exact Hs.out)
          go_wp2_with fail
          clear r1
          refine wp_region_noPanic ?_
          refine wp_region_held_drew (S := fun W => Below wz.heap.size wz W) (by kernel_rfl) (by exact (Below.refl _ _).drew) (fun hS => ?_)
          refine' take_at 0 rfl (by kernel_rfl) (by kernel_rfl) (by kernel_rfl) (fun _ _ _ h => h) (by rfl) hS ?_ ?_ ?_
          rotate_left 2
          · intro W hSW; go_simp; try with_reducible rfl
          · simp only [List.set_cons_succ, List.set_cons_zero]; rfl
          refine' take_at 2 rfl (by kernel_rfl) (by kernel_rfl) (by kernel_rfl) (fun _ _ _ h => h) (by rfl) hS ?_ ?_ ?_
          rotate_left 2
          · intro W hSW; go_simp; try with_reducible rfl
          · simp only [List.set_cons_succ, List.set_cons_zero]; rfl
          refine' take_at 3 rfl (by kernel_rfl) (by kernel_rfl) (by kernel_rfl) (fun _ _ _ h => h) (by rfl) hS ?_ ?_ ?_
          rotate_left 2
          · intro W hSW; go_simp; try with_reducible rfl
          · simp only [List.set_cons_succ, List.set_cons_zero]; rfl
          refine' take_at 4 rfl (by kernel_rfl) (by kernel_rfl) (by kernel_rfl) (fun _ _ _ h => h) (by rfl) hS ?_ ?_ ?_
          rotate_left 2
          · intro W hSW; go_simp; try with_reducible rfl
          · simp only [List.set_cons_succ, List.set_cons_zero]; rfl
          refine' take_at 5 rfl (by kernel_rfl) (by kernel_rfl) (by kernel_rfl) (fun _ _ _ h => h) (by rfl) hS ?_ ?_ ?_
          rotate_left 2
          · intro W hSW; go_simp; try with_reducible rfl
          · simp only [List.set_cons_succ, List.set_cons_zero]; rfl
          refine' take_at 6 rfl (by kernel_rfl) (by kernel_rfl) (by kernel_rfl) (fun _ _ _ h => h) (by rfl) hS ?_ ?_ ?_
          rotate_left 2
          · intro W hSW; go_simp; try with_reducible rfl
          · simp only [List.set_cons_succ, List.set_cons_zero]; rfl
          refine call_at 1 rfl (by kernel_rfl) (by rfl) (fun K hK => ?_)
          go_simp
          refine (HSZ.out _ hS).mono ?_
          rintro e w7 ⟨rfl, rfl⟩
          refine hK.out _ _ (by exact hS) (fun hS => ?_)
          clear hK K
          refine' take_at 7 rfl (by kernel_rfl) (by kernel_rfl) (by kernel_rfl) (fun _ _ _ h => h) (by rfl) hS ?_ ?_ ?_
          rotate_left 2
          · intro W hSW; go_simp; try with_reducible rfl
          · simp only [List.set_cons_succ, List.set_cons_zero]; rfl
          refine' take_at 8 rfl (by kernel_rfl) (by kernel_rfl) (by kernel_rfl) (fun _ _ _ h => h) (by rfl) hS ?_ ?_ ?_
          rotate_left 2
          · intro W hSW; go_simp; try with_reducible rfl
          · simp only [List.set_cons_succ, List.set_cons_zero]; rfl
          refine' take_at 9 rfl (by kernel_rfl) (by kernel_rfl) (by kernel_rfl) (fun _ _ _ h => h) (by rfl) hS ?_ ?_ ?_
          rotate_left 2
          · intro W hSW; go_simp; try with_reducible rfl
          · simp only [List.set_cons_succ, List.set_cons_zero]; rfl
          refine' take_at 10 rfl (by kernel_rfl) (by kernel_rfl) (by kernel_rfl) (fun _ _ _ h => h) (by rfl) hS ?_ ?_ ?_
          rotate_left 2
          · intro W hSW; go_simp; try with_reducible rfl
          · simp only [List.set_cons_succ, List.set_cons_zero]; rfl
          refine' take_at 14 rfl (by kernel_rfl) (by kernel_rfl) (by kernel_rfl) (fun _ _ _ h => h) (by rfl) hS ?_ ?_ ?_
          rotate_left 2
          · intro W hSW; go_simp; try with_reducible rfl
          · simp only [List.set_cons_succ, List.set_cons_zero]; rfl
          refine' take_at 15 rfl (by kernel_rfl) (by kernel_rfl) (by kernel_rfl) (fun _ _ _ h => h) (by rfl) hS ?_ ?_ ?_
          rotate_left 2
          · intro W hSW; go_simp; try with_reducible rfl
          · simp only [List.set_cons_succ, List.set_cons_zero]; rfl
          refine' take_at 16 rfl (by kernel_rfl) (by kernel_rfl) (by kernel_rfl) (fun _ _ _ h => h) (by rfl) hS ?_ ?_ ?_
          rotate_left 2
          · intro W hSW; go_simp; try with_reducible rfl
          · simp only [List.set_cons_succ, List.set_cons_zero]; rfl
          refine' take_at 17 rfl (by kernel_rfl) (by kernel_rfl) (by kernel_rfl) (fun _ _ _ h => h) (by rfl) hS ?_ ?_ ?_
          rotate_left 2
          · intro W hSW; go_simp; try with_reducible rfl
          · simp only [List.set_cons_succ, List.set_cons_zero]; rfl
          refine' take_at 18 rfl (by kernel_rfl) (by kernel_rfl) (by kernel_rfl) (fun _ _ _ h => h) (by rfl) hS ?_ ?_ ?_
          rotate_left 2
          · intro W hSW; go_simp; try with_reducible rfl
          · simp only [List.set_cons_succ, List.set_cons_zero]; rfl
          refine call_at 11 rfl (by kernel_rfl) (by rfl) (fun K hK => ?_)
          go_simp
          refine (HSZ.out _ hS).mono ?_
          rintro e w7 ⟨rfl, rfl⟩
          refine hK.out _ _ (by exact hS) (fun hS => ?_)
          clear hK K
          refine call_at 12 rfl (by kernel_rfl) (by rfl) (fun K hK => ?_)
          go_simp
          refine (HPK.out _ hS).mono ?_
          rintro e w7 ⟨v7, rfl, ho7, hb7⟩
          obtain ⟨A7, c7, rfl, hbs7, -⟩ := ho7.form
          have kS7 := hS.trans (hb7.mono hS.size)
          have m7 : ∀ W, Below w7.heap.size w7 W → (convert 30 9 (.slice A7 d.b.length c7)).run Try.prog W = .ok (.string sb) W := fun W hW => conv_now (hbs7.below hW) rfl Hs.out
          have HX7 := Lib.hid hbs7
          clear hS ho7 hbs7
          refine hK.out _ _ (by exact kS7) (fun hS => ?_)
          clear hK K
          refine held_mono (S2 := fun W => Below w7.heap.size w7 W) (fun W hW => kS7.trans (hW.mono kS7.size)) _ _ _ _ ?_
          replace hS : Below w7.heap.size w7 w7 := Below.refl _ _
          refine' take_at 13 rfl (by kernel_rfl) (by kernel_rfl) (by kernel_rfl) (fun _ _ _ h => h) (by rfl) hS ?_ ?_ ?_
          rotate_left 2
          · intro W hSW; go_simp; try with_reducible rfl
          · simp only [List.set_cons_succ, List.set_cons_zero]; rfl
          refine' take_at 19 rfl (by kernel_rfl) (by kernel_rfl) (by kernel_rfl) (fun _ _ _ h => h) (by rfl) hS ?_ ?_ ?_
          rotate_left 2
          · intro W hSW; go_simp; try with_reducible rfl
          · simp only [List.set_cons_succ, List.set_cons_zero]; rfl
          refine' take_at 20 rfl (by kernel_rfl) (by kernel_rfl) (by kernel_rfl) (fun _ _ _ h => h) (by rfl) hS ?_ ?_ ?_
          rotate_left 2
          · intro W hSW; go_simp; try with_reducible rfl
          · simp only [List.set_cons_succ, List.set_cons_zero]; rfl
          refine' take_at 21 rfl (by kernel_rfl) (by kernel_rfl) (by kernel_rfl) (fun _ _ _ h => h) (by rfl) hS ?_ ?_ ?_
          rotate_left 2
          · intro W hSW; go_simp; try with_reducible rfl
          · simp only [List.set_cons_succ, List.set_cons_zero]; rfl
          refine wpAnyH_done (by kernel_rfl) ?_ _
          refine NoPanic.normal ?_
          go_wp2_with fail
          go_ret
          exact ⟨rfl, below_on BW.out (kS7.trans (hS.mono kS7.size))⟩

set_option maxRecDepth 100000 in
set_option maxHeartbeats 1600000 in
theorem law2Plays (s : Int) (A0 : Option Addr) (L : List ActD) (c0 : Nat) (w : World) (hL : Acts w A0 L) (hLm : L.length ≤ 9223372036854775807) (hs1 : -9223372036854775808 ≤ s) :
    Calls Try.prog 3 #[.int .i64 s, .slice A0 L.length c0] w fun e w' => e = .returned (.bool true) ∧ Below w.heap.size w w' := by
  by_cases hf : fewB L = true
  · by_cases hs6 : s ≤ 6
    · exact law2Plays_yes s A0 L c0 w hL hLm hf hs6 hs1
    · have HFEW : Hid (∀ W, Below w.heap.size w W → Calls Try.prog 8 #[.slice A0 L.length c0] W fun e w' => e = .returned (.bool true) ∧ W = w') := Lib.hid (fun W hW => by rw [← hf]; exact few_any W A0 L c0 (hL.below hW) hLm)
      clear hf hL
      go_enter Try.func3, Try.ntmps3
      go_wp2_with fail
      refine (alive2_any _).mono ?_
      rintro e w1 ⟨rfl, hb1⟩
      have B1 := Lib.hid hb1
      clear hb1
      go_wp2_with fail
      refine (HFEW.out _ B1.out).mono ?_
      rintro e w' ⟨rfl, rfl⟩
      go_wp2_with fail
      go_ret
      exact ⟨rfl, B1.out⟩
  · have hff : fewB L = false := by simpa using hf
    have HFEW : Hid (∀ W, Below w.heap.size w W → Calls Try.prog 8 #[.slice A0 L.length c0] W fun e w' => e = .returned (.bool false) ∧ W = w') := Lib.hid (fun W hW => by rw [← hff]; exact few_any W A0 L c0 (hL.below hW) hLm)
    clear hf hL hff
    go_enter Try.func3, Try.ntmps3
    go_wp2_with fail
    refine (alive2_any _).mono ?_
    rintro e w1 ⟨rfl, hb1⟩
    have B1 := Lib.hid hb1
    clear hb1
    go_wp2_with fail
    refine (HFEW.out _ B1.out).mono ?_
    rintro e w' ⟨rfl, rfl⟩
    go_wp2_with fail
    go_ret
    exact ⟨rfl, B1.out⟩
end Go.Proofs.Ytlnpfndjdilfhaa
