/- CursorParts walked, over whatever the program's cursor is. Written by wip/tools/mk_law4.py. -/
import Derived.Test.YtcpkmhhlcmnfdaaCuJ
import Derived.Test.YtcpkmhhlcmnfdaaLaw4Filled
namespace Go.Proofs.Ytcpkmhhlcmnfdaa
open Go.RowKit
set_option linter.unusedVariables false
set_option maxRecDepth 100000

set_option maxHeartbeats 6400000 in
theorem law4Parts_in (hnew : NewOk) (AFL : Option Addr) (fl : List UInt8) (cfl : Nat) (AB : Option Addr) (b : List UInt8) (cb : Nat) (AP : Option Addr) (ps : List Int) (kp : Nat) (AF : Option Addr) (fs : List Bool) (kf : Nat) (w : World)
    (h1 : Bs w AFL fl) (h2 : Bs w AB b) (hcb : b.length ≤ cb) (h3 : IntRow w AP ps) (h4 : BoolRow w AF fs) (l1 : fl.length ≤ 300) (l2 : b.length ≤ 4096) (l3 : ps.length ≤ 60) (l4 : fs.length ≤ 60) :
    Calls Try.prog 4 #[.slice AFL fl.length cfl, .slice AB b.length cb, .slice AP ps.length kp, .slice AF fs.length kf] w fun e w' => e = .returned (.bool true) ∧ Below w.heap.size w w' := by
  have HNEW := Lib.hid hnew
  have HFI := Lib.hid h1
  have HBB := Lib.hid h2
  have HPS := Lib.hid h3
  have HFS := Lib.hid h4
  obtain ⟨zf, Hfl⟩ : ∃ zf : Nat, Hid (fl.length = zf) := ⟨_, rfl⟩
  obtain ⟨z, Hz⟩ : ∃ z : Nat, Hid (b.length = z) := ⟨_, rfl⟩
  obtain ⟨zp, Hzp⟩ : ∃ zp : Nat, Hid (ps.length = zp) := ⟨_, rfl⟩
  obtain ⟨zs, Hzs⟩ : ∃ zs : Nat, Hid (fs.length = zs) := ⟨_, rfl⟩
  rw [Hfl.out] at l1 ⊢
  rw [Hz.out] at hcb l2 ⊢
  rw [Hzp.out] at l3 ⊢
  rw [Hzs.out] at l4 ⊢
  have g1 : decide (300 < (zf : Int)) = false := decide_eq_false (by omega)
  have g2 : decide (4096 < (z : Int)) = false := decide_eq_false (by omega)
  have g3 : decide (60 < (zp : Int)) = false := decide_eq_false (by omega)
  have g4 : decide (60 < (zs : Int)) = false := decide_eq_false (by omega)
  clear hnew h1 h2 h3 h4
  go_enter Try.func4, Try.ntmps4
  go_wp2_with fail
  refine (alive4_any HNEW.out _).mono ?_
  rintro e w1 ⟨rfl, hb1⟩
  have B1 := Lib.hid hb1
  clear hb1
  have hfi := filled_any AFL fl cfl w1 (HFI.out.below B1.out) (by have := Hfl.out; omega)
  rw [Hfl.out] at hfi
  have HFIL := Lib.hid hfi
  clear hfi
  go_wp2_with fail
  refine HFIL.out.mono ?_
  rintro e w2 ⟨g, gB, gW, cB, cW, rfl, ⟨bx, hd0, hbx, hb2⟩, hg1, hg2, hg3⟩
  have HF2 := Lib.hid (hd0 0)
  have B2 := Lib.hid (below_on B1.out hb2)
  have HG : Hid (w.heap.size ≤ g ∧ w.heap.size ≤ gB ∧ w.heap.size ≤ gW) := Lib.hid (by have := B1.out.size; omega)
  have Hbx := Lib.hid hbx
  have OK0 : Hid (DlOk (freshD bx wn4)) := Lib.hid (fresh_ok bx wn4 (by rw [hbx]; rfl) (by show 4 ≤ _; omega) (by intro x hx; exact (List.mem_replicate.1 hx).2))
  have HCALM : Hid (CalmD (freshD bx wn4) 4) := Lib.hid ⟨rfl, rfl, hbx, rfl, rfl⟩
  have HROOM : Hid (Room (freshD bx wn4) 100000000) := Lib.hid (room_fresh bx wn4 (by rw [hbx]; rfl) (by show 4 ≤ _; omega) (by intro x hx; exact (List.mem_replicate.1 hx).2) _ (by omega) (by omega))
  clear hd0 hbx hb2 hg1 hg2 hg3
  have hof := dof_any HF2.out OK0.out 4 rfl 0 4 (by omega) (by omega) (by omega) (by omega)
  rw [show ofB 4 0 4 = true from by decide] at hof
  have HOF := Lib.hid hof
  clear hof
  go_wp2_with fail
  refine HOF.out.mono ?_
  rintro e w3 ⟨rfl, hb3⟩
  have hbr : Below w3.heap.size w3 (w3.alloc (.cells #[.pointer (some ⟨g, 0, none⟩), .int .i64 0, .int .i64 4] 35)) := (Below.refl _ _).alloc (Nat.le_refl _) _
  have hrc := box_cells w3 (.pointer (some ⟨g, 0, none⟩)) (.int .i64 0) (.int .i64 4) 35
  obtain ⟨w4, Hw4⟩ : ∃ w4, Hid (w3.alloc (.cells #[.pointer (some ⟨g, 0, none⟩), .int .i64 0, .int .i64 4] 35) = w4) := ⟨_, rfl⟩
  rw [Hw4.out] at hbr hrc
  have B4 := Lib.hid (below_on (below_on B2.out hb3) hbr)
  have HRC := Lib.hid hrc
  have hnw := HNEW.out 4 w4 ⟨g, gB, gW, cB, cW⟩ (freshD bx wn4) 0 (by omega) (by omega) ((HF2.out.below hb3).below hbr) OK0.out rfl (by show _ ≤ bx.length; rw [Hbx.out]; omega) (by omega) (by omega)
  have HNW := Lib.hid hnw
  clear hb3 hbr hrc hnw
  go_wp2_with fail
  rw [Hw4.out]
  refine HNW.out.mono ?_
  intro e w5 hp
  obtain ⟨hb5, gc, P, rfl, hsp, hpk⟩ := cnew_calm (n := 0) (w0 := w) (by omega) HCALM.out (K := fun j => j < w.heap.size) (fun j hj => ⟨fun hf => by have := HG.out; rcases hf with e | e | e <;> dsimp only at e <;> omega, hj⟩) (Only.of_below B4.out) hp
  have hpk' : PK P w (fun j => j < w.heap.size) w5 (cfirst (freshD bx wn4) 0 []) := hpk
  have HSP := Lib.hid hsp
  have HPK := Lib.hid hpk'
  have B5 := Lib.hid (below_on B4.out hb5)
  clear hp hb5 hsp hpk hpk'
  go_wp2_with fail
  refine (num4_any _ _).mono ?_
  rintro e w' ⟨rfl, rfl⟩
  have hold : ∀ {A : Option Addr} {l : List UInt8}, Bs w A l → 0 < l.length → ∀ j, At A j → j < w.heap.size := fun hA hl j hj => by
    obtain ⟨bb, oo, rfl, hc⟩ := hA hl
    obtain ⟨aa, e, rfl⟩ := hj
    injection e with e
    subst e
    have := World.block_lt_of_cell? w _ (hc 0 hl)
    simpa using this
  have HJ0 : Hid (JC (tgt b) b 4 100000 (fun _ => True) 0 (cfirst (freshD bx wn4) 0 []) b) := Lib.hid (jc_first HCALM.out (HROOM.out.less (by have := Hz.out; omega)) trivial)
  have hwr := write4_any HSP.out (fun j hj => hj) (JC (tgt b) b 4 100000 (fun _ => True)) (fun r u => r = true ∧ u.at_ = b.length ∧ CalmD u.x.d 4 ∧ cut u.x.d.b 0 b.length = b ∧ ∀ j, b.length ≤ j → j < (b.length + 7) / 8 * 8 → u.x.d.b.getD j 0 = 255)
    b AB cb ps AP kp fs AF kf HBB.out (fun hl j hj => hold HBB.out hl j hj) (by have := Hz.out; omega) (by have := Hz.out; omega) HPS.out (fun hl j hj => by
      obtain ⟨bb, oo, rfl, hc⟩ := HPS.out hl
      obtain ⟨aa, e, rfl⟩ := hj
      injection e with e
      subst e
      have := World.block_lt_of_cell? w _ (hc 0 hl).1
      simpa using this) (by have := Hzp.out; omega) HFS.out (fun hl j hj => by
      obtain ⟨bb, oo, rfl, hc⟩ := HFS.out hl
      obtain ⟨aa, e, rfl⟩ := hj
      injection e with e
      subst e
      have := World.block_lt_of_cell? w _ (hc 0 hl)
      simpa using this) (by have := Hzs.out; omega)
    (fun kk u rest hk hj => hj.room.less (by have := Hzp.out; omega))
    (fun kk u rest n hk hj hn => by
      obtain ⟨q1, q2⟩ := jc_write (fun j hj => tgt_lt hj) (by have := Hz.out; omega) (fun _ _ _ _ _ _ => trivial) hj (by have := Hzp.out; omega) hn
      exact ⟨fun _ => q2, fun hne => absurd q1 hne⟩)
    (fun _ kk u rest hk hj => by
      obtain ⟨q1, q2⟩ := jc_flush (fun _ _ _ _ => trivial) hj (by have := Hzp.out; omega)
      exact ⟨fun _ => q2, fun hne => absurd q1 hne⟩)
    (fun kk u hk hj => by
      obtain ⟨u', e, q1, q2, q3, q4, -⟩ := jc_end hj (by have := Hzp.out; omega) (by have := Hz.out; omega)
      rw [e]
      exact ⟨rfl, q1, q2, done_cut q2 (by have := Hz.out; omega) q3, q4⟩)
    HPK.out HJ0.out
  rw [Hz.out, Hzp.out, Hzs.out] at hwr
  have HWR := Lib.hid hwr
  clear hwr
  go_wp2_with fail
  (with_reducible refine HWR.out.mono ?_)
  rintro e w6 ⟨r, u, rfl, hp6, rfl, ha, hcm, hcut, hpad⟩
  have HP6 := Lib.hid hp6
  have B6 : Hid (Below w.heap.size w w6) := Lib.hid (by
    obtain ⟨Q, -, ho, -⟩ := hp6
    exact ho.below (Nat.le_refl _) (fun j hj hn => hn hj))
  have hf6 := HSP.out.kfl hp6
  have hl := hcm.len
  have hpk := dpeek_any hf6 0 (z : Int) (by omega) (by omega) (by omega) (by omega) (by omega)
  have hpe : peekOf u.x.d 0 (z : Int) = b := by
    unfold peekOf
    rw [if_pos (by omega), Int.toNat_natCast]
    exact hcut
  rw [hpe] at hpk
  have HPEEK := Lib.hid hpk
  have HU : Hid (u.at_ = z ∧ u.x.d.b.length = 4096 ∧ ∀ j, z ≤ j → j < (z + 7) / 8 * 8 → u.x.d.b.getD j 0 = 255) := Lib.hid ⟨ha, hl, hpad⟩
  clear hp6 hf6 hpk hpe hl ha hcm hcut hpad
  go_wp2_with fail
  refine HPEEK.out.mono ?_
  rintro e w7 ⟨v7, rfl, ho7, hb7⟩
  obtain ⟨A7, c7, rfl, hbs7, -⟩ := ho7.form
  rw [Hz.out]
  have hp7 := HSP.out.klater HP6.out hb7
  have B7 := Lib.hid (below_on B6.out hb7)
  obtain ⟨sb, Hs⟩ : ∃ sb, Hid (strB b = sb) := ⟨_, rfl⟩
  have kx : (convert 22 9 (.slice A7 z c7)).run Try.prog w7 = .ok (.string sb) w7 := conv_now hbs7 Hz.out.symm Hs.out
  have kb : (convert 22 9 (.slice AB z cb)).run Try.prog w7 = .ok (.string sb) w7 := conv_now (HBB.out.below B7.out) Hz.out.symm Hs.out
  have hat := HSP.out.kat hp7
  rw [HU.out.1] at hat
  have HAT := Lib.hid hat
  have hf7 := HSP.out.kfl hp7
  obtain ⟨m, Hm⟩ : ∃ m : Nat, Hid ((z + 7) / 8 * 8 - z = m) := ⟨_, rfl⟩
  have e8 : ((z : Int) + 7) / 8 * 8 - (z : Int) = (m : Int) := by have := Hm.out; omega
  have hpk2 := dpeek_any hf7 (z : Int) (m : Int) (by omega) (by omega) (by omega) (by omega) (by have := HU.out.2.1; omega)
  obtain ⟨pb, Hpb⟩ : ∃ pb, Hid (peekOf u.x.d (z : Int) (m : Int) = pb) := ⟨_, rfl⟩
  have HBLK : Hid (pb.all (· == 255) = true ∧ pb.length ≤ 2147483648) := Lib.hid (by
    rw [← Hpb.out]
    unfold peekOf
    rw [if_pos (by have := HU.out.2.1; have := Hm.out; omega), Int.toNat_natCast, Int.toNat_natCast]
    have hln := cut_len (l := u.x.d.b) (a := z) (n := m) (by have := HU.out.2.1; have := Hm.out; omega)
    refine ⟨?_, by rw [hln]; have := Hm.out; omega⟩
    rw [List.all_eq_true]
    intro y hy
    obtain ⟨i, hi, rfl⟩ := List.getElem_of_mem hy
    rw [hln] at hi
    have hgt := cut_get (l := u.x.d.b) (a := z) (n := m) hi
    rw [HU.out.2.2 _ (by omega) (by have := Hm.out; omega)] at hgt
    have hi2 : i < (cut u.x.d.b z m).length := by omega
    simp [List.getD, hi2] at hgt
    simp [hgt])
  rw [Hpb.out] at hpk2
  have HPEEK2 := Lib.hid hpk2
  have HX7 := Lib.hid hbs7
  clear ho7 hb7 hbs7 hp7 hat hf7 hpk2
  go_wp2_with fail
  refine HAT.out.mono ?_
  rintro e w' ⟨rfl, rfl⟩
  go_wp2_with fail
  refine HPEEK2.out.mono ?_
  rintro e w8 ⟨v8, rfl, ho8, hb8⟩
  obtain ⟨A8, c8, rfl, hbs8, -⟩ := ho8.form
  have hib := isBlank_any A8 pb c8 w8 hbs8 HBLK.out.2
  rw [HBLK.out.1] at hib
  have HIB := Lib.hid hib
  have B8 := Lib.hid (below_on B7.out hb8)
  clear ho8 hb8 hbs8 hib
  go_wp2_with fail
  refine HIB.out.mono ?_
  rintro e w' ⟨rfl, rfl⟩
  go_wp2_with fail
  go_ret
  exact ⟨rfl, B8.out⟩

set_option maxHeartbeats 3200000 in
theorem law4Parts (hnew : NewOk) (AFL : Option Addr) (fl : List UInt8) (cfl : Nat) (AB : Option Addr) (b : List UInt8) (cb : Nat) (AP : Option Addr) (ps : List Int) (kp : Nat) (AF : Option Addr) (fs : List Bool) (kf : Nat) (w : World)
    (h1 : Bs w AFL fl) (h2 : Bs w AB b) (hcb : b.length ≤ cb) (h3 : IntRow w AP ps) (h4 : BoolRow w AF fs) :
    Calls Try.prog 4 #[.slice AFL fl.length cfl, .slice AB b.length cb, .slice AP ps.length kp, .slice AF fs.length kf] w fun e w' => e = .returned (.bool true) ∧ Below w.heap.size w w' := by
  by_cases hin : fl.length ≤ 300 ∧ b.length ≤ 4096 ∧ ps.length ≤ 60 ∧ fs.length ≤ 60
  · exact law4Parts_in hnew AFL fl cfl AB b cb AP ps kp AF fs kf w h1 h2 hcb h3 h4 hin.1 hin.2.1 hin.2.2.1 hin.2.2.2
  · have HNEW := Lib.hid hnew
    obtain ⟨zf, Hfl⟩ : ∃ zf : Nat, (fl.length = zf) := ⟨_, rfl⟩
    obtain ⟨z, Hz⟩ : ∃ z : Nat, (b.length = z) := ⟨_, rfl⟩
    obtain ⟨zp, Hzp⟩ : ∃ zp : Nat, (ps.length = zp) := ⟨_, rfl⟩
    obtain ⟨zs, Hzs⟩ : ∃ zs : Nat, (fs.length = zs) := ⟨_, rfl⟩
    rw [Hfl, Hz, Hzp, Hzs] at hin ⊢
    have hq : (decide (300 < (zf : Int)) = true) ∨ (decide (300 < (zf : Int)) = false ∧ decide (4096 < (z : Int)) = true) ∨ (decide (300 < (zf : Int)) = false ∧ decide (4096 < (z : Int)) = false ∧ decide (60 < (zp : Int)) = true) ∨ (decide (300 < (zf : Int)) = false ∧ decide (4096 < (z : Int)) = false ∧ decide (60 < (zp : Int)) = false ∧ decide (60 < (zs : Int)) = true) := by
      simp only [decide_eq_true_eq, decide_eq_false_iff_not]
      omega
    clear hin h1 h2 h3 h4 hcb Hfl Hz Hzp Hzs hnew
    rcases hq with q1 | ⟨q1, q2⟩ | ⟨q1, q2, q3⟩ | ⟨q1, q2, q3, q4⟩
    all_goals
      go_enter Try.func4, Try.ntmps4
      go_wp2_with fail
      refine (alive4_any HNEW.out _).mono ?_
      rintro e w1 ⟨rfl, hb1⟩
      have B1 := Lib.hid hb1
      clear hb1
      go_wp2_with fail
      go_ret
      exact ⟨rfl, B1.out⟩
end Go.Proofs.Ytcpkmhhlcmnfdaa

