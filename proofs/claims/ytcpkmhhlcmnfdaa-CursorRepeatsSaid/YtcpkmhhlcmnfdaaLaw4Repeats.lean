/- CursorRepeats walked, over whatever the program's cursor is. Written by wip/tools/mk_rep4.py. -/
import Derived.Test.YtcpkmhhlcmnfdaaCuJ
import Derived.Test.YtcpkmhhlcmnfdaaLaw4Filled
import Derived.Test.YtcpkmhhlcmnfdaaGbase
import Derived.Test.YtcpkmhhlcmnfdaaCuW
namespace Go.Proofs.Ytcpkmhhlcmnfdaa
open Go.RowKit
set_option linter.unusedVariables false
set_option maxRecDepth 100000

set_option maxHeartbeats 6400000 in
theorem law4Repeats_in (hnew : NewOk) (AFL : Option Addr) (fl : List UInt8) (cfl : Nat) (AB : Option Addr) (b : List UInt8) (cb : Nat) (n : Nat) (after : Int) (AP : Option Addr) (pk : List UInt8) (cp : Nat) (w : World)
    (h1 : Bs w AFL fl) (h2 : Bs w AB b) (hcb : b.length ≤ cb) (h3 : Bs w AP pk) (hcp : pk.length ≤ cp) (l1 : fl.length ≤ 300) (l2 : b.length ≤ 4096) (l3 : pk.length ≤ 1024) (hn : n ≤ b.length) (ha : 0 ≤ after) (ha2 : after ≤ 9223372036854775807) :
    Calls Try.prog 7 #[.slice AFL fl.length cfl, .slice AB b.length cb, .int .i64 (n : Int), .int .i64 after, .slice AP pk.length cp] w fun e w' => e = .returned (.bool true) ∧ Below w.heap.size w w' := by
  have HNEW := Lib.hid hnew
  have HFI := Lib.hid h1
  have HBB := Lib.hid h2
  have HPI := Lib.hid h3
  obtain ⟨zf, Hfl⟩ : ∃ zf : Nat, Hid (fl.length = zf) := ⟨_, rfl⟩
  obtain ⟨z, Hz⟩ : ∃ z : Nat, Hid (b.length = z) := ⟨_, rfl⟩
  obtain ⟨zp, Hzp⟩ : ∃ zp : Nat, Hid (pk.length = zp) := ⟨_, rfl⟩
  obtain ⟨sb, Hs⟩ : ∃ sb, Hid (strB b = sb) := ⟨_, rfl⟩
  have hold : ∀ {A : Option Addr} {l : List UInt8}, Bs w A l → 0 < l.length → ∀ j, At A j → j < w.heap.size := fun hA hl j hj => by
    obtain ⟨bb, oo, rfl, hc⟩ := hA hl
    obtain ⟨aa, e, rfl⟩ := hj
    injection e with e
    subst e
    have := World.block_lt_of_cell? w _ (hc 0 hl)
    simpa using this
  have HHEAD : Hid (Bs w AB (b.take n)) := Lib.hid (h2.take n)
  have HTL : Hid ((b.take n).length = n) := Lib.hid (by rw [List.length_take]; omega)
  obtain ⟨A3, hT3, -, hs3⟩ := slice_tail AB w b h2 cb hcb n hn
  have HT3 := Lib.hid hT3
  have HTK : Hid (0 < (b.drop n).length → ∀ j, At A3 j → j < w.heap.size) := Lib.hid (fun hl j hj => hold hT3 hl j hj)
  have HDL : Hid ((b.drop n).length = z - n) := Lib.hid (by rw [List.length_drop, Hz.out])
  rw [Hz.out] at hs3
  rw [Hfl.out] at l1 ⊢
  rw [Hz.out] at hcb l2 hn ⊢
  rw [Hzp.out] at hcp l3 ⊢
  have hs1 : ∀ W, (Instr.slice 22 (.slice AB z cb) none (some (.int .i64 (n : Int))) none).run Try.prog W = .ok (.slice AB n cb) W := fun W => slice_head AB z cb n (by omega) W
  have g1 : decide (300 < (zf : Int)) = false := decide_eq_false (by omega)
  have g2 : decide (4096 < (z : Int)) = false := decide_eq_false (by omega)
  have g3 : decide ((n : Int) < 0) = false := decide_eq_false (by omega)
  have g4 : decide ((z : Int) < (n : Int)) = false := decide_eq_false (by omega)
  have g5 : decide (after < 0) = false := decide_eq_false (by omega)
  have g6 : decide (1024 < (zp : Int)) = false := decide_eq_false (by omega)
  clear hnew h1 h2 h3 hT3
  go_enter Try.func7, Try.ntmps7
  go_wp2_with fail
  refine (alive4_any HNEW.out _).mono ?_
  rintro e w1 ⟨rfl, hb1⟩
  have B1 := Lib.hid hb1
  clear hb1
  have hfi := filled_any AFL fl cfl w1 (HFI.out.below B1.out) (by have := Hfl.out; omega)
  rw [Hfl.out] at hfi
  have HFIL := Lib.hid hfi
  clear hfi
  go_wp2_with fail
  refine HFIL.out.mono ?_
  rintro e w2 ⟨g, gB, gW, cB, cW, rfl, ⟨bx, hd0, hbx, hb2⟩, hg1, hg2, hg3⟩
  have HF2 := Lib.hid (hd0 0)
  have B2 := Lib.hid (below_on B1.out hb2)
  have HG : Hid (w.heap.size ≤ g ∧ w.heap.size ≤ gB ∧ w.heap.size ≤ gW) := Lib.hid (by have := B1.out.size; omega)
  have Hbx := Lib.hid hbx
  have OK0 : Hid (DlOk (freshD bx wn4)) := Lib.hid (fresh_ok bx wn4 (by rw [hbx]; rfl) (by show 4 ≤ _; omega) (by intro x hx; exact (List.mem_replicate.1 hx).2))
  have HCALM : Hid (CalmD (freshD bx wn4) 4) := Lib.hid ⟨rfl, rfl, hbx, rfl, rfl⟩
  have HROOM : Hid (Room (freshD bx wn4) 100000000) := Lib.hid (room_fresh bx wn4 (by rw [hbx]; rfl) (by show 4 ≤ _; omega) (by intro x hx; exact (List.mem_replicate.1 hx).2) _ (by omega) (by omega))
  clear hd0 hbx hb2 hg1 hg2 hg3
  have hof := dof_any HF2.out OK0.out 4 rfl 0 4 (by omega) (by omega) (by omega) (by omega)
  rw [show ofB 4 0 4 = true from by decide] at hof
  have HOF := Lib.hid hof
  clear hof
  go_wp2_with fail
  refine HOF.out.mono ?_
  rintro e w3 ⟨rfl, hb3⟩
  have hbr : Below w3.heap.size w3 (w3.alloc (.cells #[.pointer (some ⟨g, 0, none⟩), .int .i64 0, .int .i64 4] 35)) := (Below.refl _ _).alloc (Nat.le_refl _) _
  have HBK : Hid (g < w3.heap.size ∧ gB < w3.heap.size ∧ gW < w3.heap.size) := Lib.hid ((HF2.out.below hb3).blk)
  have B3 := Lib.hid (below_on B2.out hb3)
  have hrc := box_cells w3 (.pointer (some ⟨g, 0, none⟩)) (.int .i64 0) (.int .i64 4) 35
  obtain ⟨w4, Hw4⟩ : ∃ w4, Hid (w3.alloc (.cells #[.pointer (some ⟨g, 0, none⟩), .int .i64 0, .int .i64 4] 35) = w4) := ⟨_, rfl⟩
  rw [Hw4.out] at hbr hrc
  have B4 := Lib.hid (below_on (below_on B2.out hb3) hbr)
  have HRC := Lib.hid hrc
  have HZ4 : Hid (w4.heap.size = w3.heap.size + 1) := Lib.hid (by rw [← Hw4.out]; simp)
  have hnw := HNEW.out 4 w4 ⟨g, gB, gW, cB, cW⟩ (freshD bx wn4) 0 (by omega) (by omega) ((HF2.out.below hb3).below hbr) OK0.out rfl (by show _ ≤ bx.length; rw [Hbx.out]; omega) (by omega) (by omega)
  have HNW := Lib.hid hnw
  clear hb3 hbr hrc hnw
  go_wp2_with fail
  rw [Hw4.out]
  refine HNW.out.mono ?_
  intro e w5 hp
  have HKF : Hid (∀ j, (j < w.heap.size ∨ j = w3.heap.size) → ¬ (FA.mk g gB gW cB cW).F j ∧ j < w4.heap.size) := Lib.hid (fun j hj => by
    have := HG.out
    have := HBK.out
    have := HZ4.out
    have := B3.out.size
    refine ⟨fun hf => ?_, by omega⟩
    rcases hf with e | e | e <;> dsimp only at e <;> omega)
  obtain ⟨hb5, gc, P, rfl, hsp, hpk⟩ := cnew_calm (n := 0) (w0 := w4) (by omega) HCALM.out (K := fun j => j < w.heap.size ∨ j = w3.heap.size) (fun j hj => HKF.out j hj) (Only.of_below (Below.refl _ _)) hp
  have hpk' : PK P w4 (fun j => j < w.heap.size ∨ j = w3.heap.size) w5 (cfirst (freshD bx wn4) 0 []) := hpk
  have HSP := Lib.hid hsp
  have HPK := Lib.hid hpk'
  have B5 := Lib.hid (below_on B4.out hb5)
  clear hp hb5 hsp hpk hpk'
  go_wp2_with fail
  refine (num4_any _ _).mono ?_
  rintro e w' ⟨rfl, rfl⟩
  have HJ0 : Hid (JC (tgt b) (b.take n) 4 200000 (fun _ => True) 0 (cfirst (freshD bx wn4) 0 []) (b.take n)) := Lib.hid (jc_first HCALM.out (HROOM.out.less (by rw [HTL.out]; omega)) trivial)
  have hT1 : ∀ j, j < (b.take n).length → tgt b j = (b.take n).getD j 0 := fun j hj => by
    rw [HTL.out] at hj
    rw [tgt_lt (by rw [Hz.out]; omega)]
    exact (take_get hj).symm
  have hwr := write4_any HSP.out (fun j hj => (HKF.out j hj).2) (JC (tgt b) (b.take n) 4 200000 (fun _ => True)) (fun r u => r = true ∧ u.at_ = n ∧ Inv (tgt b) 4 u ∧ Clean u ∧ (∀ j, j < n → u.x.d.b.getD j 0 = tgt b j) ∧ limOf n ≤ u.x.hi * 1024 ∧ Room u.x.d 1000000)
    (b.take n) AB cb [] none 0 [] none 0 (HHEAD.out.below B4.out) (fun hl j hj => .inl (hold HHEAD.out hl j hj)) (by rw [HTL.out]; omega) (by rw [HTL.out]; omega) (fun h => absurd h (by simp)) (fun h => absurd h (by simp)) (by simp) (fun h => absurd h (by simp)) (fun h => absurd h (by simp)) (by simp)
    (fun kk u rest hk hj => hj.room.less (by simp at hk; omega))
    (fun kk u rest m hk hj hm => by
      obtain ⟨q1, q2⟩ := jc_write hT1 (by rw [HTL.out]; omega) (fun _ _ _ _ _ _ => trivial) hj (by simp at hk; omega) hm
      exact ⟨fun _ => q2, fun hne => absurd q1 hne⟩)
    (fun h => absurd h (by simp))
    (fun kk u hk hj => by
      obtain ⟨u', e, q1, q2, q3, q4, q5, q6, q7, q8, q9⟩ := jc_end hj (by simp at hk; omega) (by rw [HTL.out]; omega)
      rw [HTL.out] at q1 q3 q8
      rw [e]
      exact ⟨rfl, q1, q6, q7, q3, q8, q9.less (by simp at hk; omega)⟩)
    HPK.out HJ0.out
  rw [HTL.out] at hwr
  simp only [List.length_nil] at hwr
  have HWR := Lib.hid hwr
  clear hwr hT1
  go_wp2_with fail
  (with_reducible refine HWR.out.mono ?_)
  rintro e w6 ⟨r, u, rfl, hp6, rfl, ha6, hiv, hcl, hdn, hlm, hrm⟩
  -- armed
  have hf6 := HSP.out.kfl hp6
  have hself := HSP.out.kself hp6
  have HP6 := Lib.hid hp6
  have B6 : Hid (Below w.heap.size w w6) := Lib.hid (by
    obtain ⟨Q, -, ho, -⟩ := hp6
    exact B4.out.trans (ho.below B4.out.size (fun j hj hn => hn (.inl hj))))
  have har := darm_any (N := w6.heap.size) hf6 after AP pk cp (HPI.out.below B6.out) (by rw [Hzp.out]; exact hcp) (by rw [Hzp.out]; omega) (Nat.le_refl _)
  rw [Hzp.out] at har
  obtain ⟨dA, HdA⟩ : ∃ dA, Hid (darmOf u.x.d after pk = dA) := ⟨_, rfl⟩
  have hdA : dA.b = u.x.d.b ∧ dA.worn = u.x.d.worn ∧ dA.steps = u.x.d.steps ∧ dA.after ≤ 9223372036854775807 ∧ 0 ≤ dA.after ∧ dA.pick.length ≤ 1024 := by
    rw [← HdA.out]
    unfold darmOf
    rw [if_neg (by omega)]
    exact ⟨rfl, rfl, rfl, ha2, ha, by rw [List.length_take]; omega⟩
  rw [HdA.out] at har
  have HAR := Lib.hid har
  have hrmA : Room dA 1000000 := ⟨⟨by rw [hdA.1, hdA.2.1]; exact hrm.ok.len, by rw [hdA.2.1]; exact hrm.ok.few, by rw [hdA.2.1]; exact hrm.ok.worn, by rw [hdA.2.2.1]; exact hrm.ok.s0, by rw [hdA.2.2.1]; exact hrm.ok.s1, hdA.2.2.2.2.1, hdA.2.2.2.1, hdA.2.2.2.2.2⟩, by rw [hdA.2.2.1]; exact hrm.steps, by rw [hdA.2.1]; exact hrm.worn⟩
  have HJA : Hid (JW b 4 n 90000 0 (turned u dA) (b.drop n)) := Lib.hid (jw_first hiv hdn ha6 hlm (by rw [Hz.out]; exact hn) hdA.1 hdA.2.1 (hrmA.less (by rw [HDL.out]; omega)))
  have HLB : Hid (dA.b.length = u.x.d.b.length) := Lib.hid (by rw [hdA.1])
  have Hself := Lib.hid hself
  clear hp6 hf6 ha6 hiv hcl hdn hlm hrm har hdA hrmA hself
  go_wp2_with fail
  (with_reducible refine HAR.out.mono ?_)
  rintro e w7 ⟨rfl, hd7, ho7⟩
  have ho7F : Only (FA.mk g gB gW cB cW).F w6 w7 := ho7.mono fun j _ hj => .inl hj
  have hp7 : PK P w4 (fun j => j < w.heap.size ∨ j = w3.heap.size) w7 (turned u dA) := HSP.out.kturn HP6.out ⟨_, hd7, fun _ => Hself.out⟩ ho7F HLB.out
  have B7 : Hid (Below w.heap.size w w7) := Lib.hid (by
    obtain ⟨Q, -, ho, -⟩ := hp7
    exact B4.out.trans (ho.below B4.out.size (fun j hj hn => hn (.inl hj))))
  have hlimn : limOf n ≤ 1024 * 4 := by unfold limOf; omega
  have hwr := write4_any HSP.out (fun j hj => (HKF.out j hj).2) (JW b 4 n 90000) (fun r u => Wk (tgt b) 4 n (limOf n) u.x.d ∧ Room u.x.d 800000)
    (b.drop n) A3 (cb - n) [] none 0 [] none 0 (HT3.out.below B4.out) (fun hl j hj => .inl (HTK.out hl j hj)) (by rw [HDL.out]; omega) (by rw [HDL.out]; omega) (fun h => absurd h (by simp)) (fun h => absurd h (by simp)) (by simp) (fun h => absurd h (by simp)) (fun h => absurd h (by simp)) (by simp)
    (fun kk u rest hk hj => hj.room.less (by simp at hk; omega))
    (fun kk u rest m hk hj hm => by
      obtain ⟨q1, q2, q3⟩ := jw_write hj hlimn (by simp at hk; omega) hm
      exact ⟨q1, fun _ => ⟨q2, q3.less (by simp at hk; omega)⟩⟩)
    (fun h => absurd h (by simp))
    (fun kk u hk hj => by
      obtain ⟨q1, q2⟩ := jw_end hj hlimn (by simp at hk; omega)
      exact ⟨q1, q2.less (by simp at hk; omega)⟩)
    hp7 HJA.out
  rw [HDL.out] at hwr
  simp only [List.length_nil] at hwr
  have HWR2 := Lib.hid hwr
  clear hwr hp7 hd7 ho7 ho7F hlimn
  go_wp2_with fail
  (with_reducible refine HWR2.out.mono ?_)
  rintro e w8 ⟨r8, u8, rfl, hp8, hwk8, hrm8⟩
  have hf8 := HSP.out.kfl hp8
  have hbo := dboot_any hf8
  have HP8 := Lib.hid hp8
  have HWK8 := Lib.hid hwk8
  have HRM8 := Lib.hid hrm8
  have HBO : Hid (Calls Try.prog 25 #[.pointer (some ⟨g, 0, none⟩)] w8 (DStatePost w8 g gB gW cB cW 0 (fun k => k = g) (.tuple #[]) (booted u8.x.d))) := Lib.hid hbo
  clear hp8 hwk8 hrm8 hf8 hbo
  go_wp2_with fail
  (with_reducible refine HBO.out.mono ?_)
  rintro e w9 ⟨rfl, hd9, ho9⟩
  have HO9 : Hid (Only (fun j => ¬ (j < w.heap.size ∨ j = w3.heap.size)) w4 w9) := Lib.hid (by
    obtain ⟨Q, -, ho, -⟩ := HP8.out
    exact ho.trans (ho9.mono fun j _ hj hk => (HKF.out j hk).1 (.inl hj)))
  have hrc9 := HRC.out w4 (Below.refl _ _)
  have hkeep : ∀ (o : Nat) (v : Value), w4.cell? ⟨w3.heap.size, o, none⟩ = some v → w9.cell? ⟨w3.heap.size, o, none⟩ = some v := fun o v hc => by
    rw [World.cell?_of_block (HO9.out.block w3.heap.size (by have := HZ4.out; omega) (fun hn => hn (.inr rfl)))]
    exact hc
  have m0 := hkeep _ _ hrc9.1
  have m1 := hkeep _ _ hrc9.2.1
  have m2 := hkeep _ _ hrc9.2.2
  have hok9 : DlOk (booted u8.x.d) := (booted_room HRM8.out).ok
  have hnw2 := HNEW.out 4 w9 ⟨g, gB, gW, cB, cW⟩ (booted u8.x.d) (n : Int) (by omega) (by omega) hd9 hok9 rfl (by have := HWK8.out.len; show _ ≤ u8.x.d.b.length; omega) (by omega) (by omega)
  have HNW2 := Lib.hid hnw2
  have B9 : Hid (Below w.heap.size w w9) := Lib.hid (B4.out.trans (HO9.out.below B4.out.size (fun j hj hn => hn (.inl hj))))
  clear hrc9 hnw2 hkeep hd9 ho9 hok9
  go_wp2_with fail
  refine HNW2.out.mono ?_
  intro e w10 hp
  obtain ⟨hb10, gc2, P2, rfl, hsp2, hpk2⟩ := cnew_calm (n := n) (w0 := w4) (by omega) (booted_calm HWK8.out) (K := fun j => j < w.heap.size ∨ j = w3.heap.size) (fun j hj => HKF.out j hj) HO9.out hp
  have hjd := jd_first (B := 70000) HWK8.out (by rw [Hz.out]; exact hn) (by rw [Hz.out]; omega) (HRM8.out.less (by rw [HDL.out]; omega))
  have hpk3 : PK P2 w4 (fun j => j < w.heap.size ∨ j = w3.heap.size) w10 (cfirst (booted u8.x.d) n (cut u8.x.d.b (n / 8 * 8) (n % 8))) := hpk2
  obtain ⟨u2, Hu2⟩ : ∃ u2, Hid (cfirst (booted u8.x.d) n (cut u8.x.d.b (n / 8 * 8) (n % 8)) = u2) := ⟨_, rfl⟩
  rw [Hu2.out] at hpk3 hjd
  have HSP2 := Lib.hid hsp2
  have B10 := Lib.hid (below_on B9.out hb10)
  have hb10d : Below w10.heap.size w10 w10.drew := (Below.refl _ _).drew
  have hwr := write4_any hsp2 (fun j hj => (HKF.out j hj).2) (JD b 4 70000) (fun r u => r = true ∧ CalmD u.x.d 4 ∧ cut u.x.d.b 0 z = b)
    (b.drop n) A3 (cb - n) [] none 0 [] none 0 (HT3.out.below B4.out) (fun hl j hj => .inl (HTK.out hl j hj)) (by rw [HDL.out]; omega) (by rw [HDL.out]; omega) (fun h => absurd h (by simp)) (fun h => absurd h (by simp)) (by simp) (fun h => absurd h (by simp)) (fun h => absurd h (by simp)) (by simp)
    (fun kk u rest hk hj => hj.room.less (by simp at hk; omega))
    (fun kk u rest m hk hj hm => by
      obtain ⟨q1, q2⟩ := jd_write (by rw [Hz.out]; omega) hj (by simp at hk; omega) hm
      exact ⟨fun _ => q2, fun hne => absurd q1 hne⟩)
    (fun h => absurd h (by simp))
    (fun kk u hk hj => by
      obtain ⟨u', e, q1, q2, q3⟩ := jd_end hj (by simp at hk; omega) (by rw [Hz.out]; omega)
      have q5 := done_cut q2 (by rw [Hz.out]; omega) q3
      rw [Hz.out] at q5
      rw [e]
      exact ⟨rfl, q2, q5⟩)
    (hsp2.klater hpk3 hb10d) hjd
  rw [HDL.out] at hwr
  simp only [List.length_nil] at hwr
  have HWR3 := Lib.hid hwr
  have mB : ∀ W, Below w.heap.size w W → (convert 22 9 (.slice AB z cb)).run Try.prog W = .ok (.string sb) W := fun W hW => conv_now (HBB.out.below hW) Hz.out.symm Hs.out
  clear hp hb10 hsp2 hpk2 hpk3 hjd hwr m0 m1 m2
  go_wp2_with fail
  refine wp_region_noPanic ?_
  refine wp_region_held_drew (S := fun W => Below w.heap.size w W) (by kernel_rfl) (by exact B10.out.drew) (fun hS => ?_)
  refine' take_at 0 rfl (by kernel_rfl) (by kernel_rfl) (by kernel_rfl) (fun _ _ _ h => h) (by rfl) hS ?_ ?_ ?_
  rotate_left 2
  · intro W hSW; go_simp; try with_reducible rfl
  · simp only [List.set_cons_succ, List.set_cons_zero]; rfl
  refine call_at 1 rfl (by kernel_rfl) (by rfl) (fun K hK => ?_)
  go_simp
  refine (num4_any _ _).mono ?_
  rintro e w' ⟨rfl, rfl⟩
  refine hK.out _ _ (by exact hS) (fun hS => ?_)
  clear hK K
  refine' take_at 2 rfl (by kernel_rfl) (by kernel_rfl) (by kernel_rfl) (fun _ _ _ h => h) (by rfl) hS ?_ ?_ ?_
  rotate_left 2
  · intro W hSW; go_simp; try with_reducible rfl
  · simp only [List.set_cons_succ, List.set_cons_zero]; rfl
  refine' take_at 3 rfl (by kernel_rfl) (by kernel_rfl) (by kernel_rfl) (fun _ _ _ h => h) (by rfl) hS ?_ ?_ ?_
  rotate_left 2
  · intro W hSW; go_simp; try with_reducible rfl
  · simp only [List.set_cons_succ, List.set_cons_zero]; rfl
  refine' take_at 4 rfl (by kernel_rfl) (by kernel_rfl) (by kernel_rfl) (fun _ _ _ h => h) (by rfl) hS ?_ ?_ ?_
  rotate_left 2
  · intro W hSW; go_simp; try with_reducible rfl
  · simp only [List.set_cons_succ, List.set_cons_zero]; rfl
  refine' take_at 5 rfl (by kernel_rfl) (by kernel_rfl) (by kernel_rfl) (fun _ _ _ h => h) (by rfl) hS ?_ ?_ ?_
  rotate_left 2
  · intro W hSW; go_simp; try with_reducible rfl
  · simp only [List.set_cons_succ, List.set_cons_zero]; rfl
  refine' take_at 6 rfl (by kernel_rfl) (by kernel_rfl) (by kernel_rfl) (fun _ _ _ h => h) (by rfl) hS ?_ ?_ ?_
  rotate_left 2
  · intro W hSW; go_simp; try with_reducible rfl
  · simp only [List.set_cons_succ, List.set_cons_zero]; rfl
  refine' take_at 7 rfl (by kernel_rfl) (by kernel_rfl) (by kernel_rfl) (fun _ _ _ h => h) (by rfl) hS ?_ ?_ ?_
  rotate_left 2
  · intro W hSW; go_simp; try with_reducible rfl
  · simp only [List.set_cons_succ, List.set_cons_zero]; rfl
  refine' take_at 8 rfl (by kernel_rfl) (by kernel_rfl) (by kernel_rfl) (fun _ _ _ h => h) (by rfl) hS ?_ ?_ ?_
  rotate_left 2
  · intro W hSW; go_simp; try with_reducible rfl
  · simp only [List.set_cons_succ, List.set_cons_zero]; rfl
  refine' take_at 9 rfl (by kernel_rfl) (by kernel_rfl) (by kernel_rfl) (fun _ _ _ h => h) (by rfl) hS ?_ ?_ ?_
  rotate_left 2
  · intro W hSW; go_simp; try with_reducible rfl
  · simp only [List.set_cons_succ, List.set_cons_zero]; rfl
  refine' take_at 10 rfl (by kernel_rfl) (by kernel_rfl) (by kernel_rfl) (fun _ _ _ h => h) (by rfl) hS ?_ ?_ ?_
  rotate_left 2
  · intro W hSW; go_simp; try with_reducible rfl
  · simp only [List.set_cons_succ, List.set_cons_zero]; rfl
  refine' take_at 11 rfl (by kernel_rfl) (by kernel_rfl) (by kernel_rfl) (fun _ _ _ h => h) (by rfl) hS ?_ ?_ ?_
  rotate_left 2
  · intro W hSW; go_simp; try with_reducible rfl
  · simp only [List.set_cons_succ, List.set_cons_zero]; rfl
  refine call_at 12 rfl (by kernel_rfl) (by rfl) (fun K hK => ?_)
  go_simp
  (with_reducible refine HWR3.out.mono ?_)
  rintro e w11 ⟨r11, u11, rfl, hp11, rfl, hc11, hd11⟩
  have hf11 := HSP2.out.kfl hp11
  have kS11 : Below w.heap.size w w11 := by
    obtain ⟨Q, -, ho, -⟩ := hp11
    exact B4.out.trans (ho.below B4.out.size (fun j hj hn => hn (.inl hj)))
  have HPEEK : Hid (Calls Try.prog 13 #[.pointer (some ⟨g, 0, none⟩), .int .i64 0, .int .i64 (z : Int)] w11 (RetOb 5 w11 b)) := Lib.hid (by
    have hl := hc11.len
    have hpk := dpeek_any hf11 0 (z : Int) (by omega) (by omega) (by omega) (by omega) (by omega)
    have hpe : peekOf u11.x.d 0 (z : Int) = b := by
      unfold peekOf
      rw [if_pos (by omega), Int.toNat_natCast]
      exact hd11
    rwa [hpe] at hpk)
  clear hS hp11 hc11 hd11 hf11
  refine hK.out _ _ (by exact kS11) (fun hS => ?_)
  clear hK K
  refine' take_at 13 rfl (by kernel_rfl) (by kernel_rfl) (by kernel_rfl) (fun _ _ _ h => h) (by rfl) hS ?_ ?_ ?_
  rotate_left 2
  · intro W hSW; go_simp; try with_reducible rfl
  · simp only [List.set_cons_succ, List.set_cons_zero]; rfl
  refine' take_at 14 rfl (by kernel_rfl) (by kernel_rfl) (by kernel_rfl) (fun _ _ _ h => h) (by rfl) hS ?_ ?_ ?_
  rotate_left 2
  · intro W hSW; go_simp; try with_reducible rfl
  · simp only [List.set_cons_succ, List.set_cons_zero]; rfl
  refine' take_at 15 rfl (by kernel_rfl) (by kernel_rfl) (by kernel_rfl) (fun _ _ _ h => h) (by rfl) hS ?_ ?_ ?_
  rotate_left 2
  · intro W hSW; go_simp; try with_reducible rfl
  · simp only [List.set_cons_succ, List.set_cons_zero]; rfl
  refine' take_at 16 rfl (by kernel_rfl) (by kernel_rfl) (by kernel_rfl) (fun _ _ _ h => h) (by rfl) hS ?_ ?_ ?_
  rotate_left 2
  · intro W hSW; go_simp; try with_reducible rfl
  · simp only [List.set_cons_succ, List.set_cons_zero]; rfl
  refine' take_at 17 rfl (by kernel_rfl) (by kernel_rfl) (by kernel_rfl) (fun _ _ _ h => h) (by rfl) hS ?_ ?_ ?_
  rotate_left 2
  · intro W hSW; go_simp; try with_reducible rfl
  · simp only [List.set_cons_succ, List.set_cons_zero]; rfl
  refine' take_at 20 rfl (by kernel_rfl) (by kernel_rfl) (by kernel_rfl) (fun _ _ _ h => h) (by rfl) hS ?_ ?_ ?_
  rotate_left 2
  · intro W hSW; go_simp; try with_reducible rfl
  · simp only [List.set_cons_succ, List.set_cons_zero]; rfl
  refine' take_at 21 rfl (by kernel_rfl) (by kernel_rfl) (by kernel_rfl) (fun _ _ _ h => h) (by rfl) hS ?_ ?_ ?_
  rotate_left 2
  · intro W hSW; go_simp; try with_reducible rfl
  · simp only [List.set_cons_succ, List.set_cons_zero]; rfl
  refine call_at 18 rfl (by kernel_rfl) (by rfl) (fun K hK => ?_)
  go_simp
  refine HPEEK.out.mono ?_
  rintro e w12 ⟨v12, rfl, ho12, hb12⟩
  obtain ⟨A12, c12, rfl, hbs12, -⟩ := ho12.form
  rw [Hz.out]
  have kS12 := below_on kS11 hb12
  have m12 : ∀ W, Below w12.heap.size w12 W → (convert 22 9 (.slice A12 z c12)).run Try.prog W = .ok (.string sb) W := fun W hW => conv_now (hbs12.below hW) Hz.out.symm Hs.out
  have m12b : ∀ W, Below w12.heap.size w12 W → (convert 22 9 (.slice AB z cb)).run Try.prog W = .ok (.string sb) W := fun W hW => conv_now (HBB.out.below (below_on kS12 hW)) Hz.out.symm Hs.out
  have HX12 := Lib.hid hbs12
  clear hS ho12 hb12 hbs12
  refine hK.out _ _ (by exact kS12) (fun hS => ?_)
  clear hK K
  refine held_mono (S2 := fun W => Below w12.heap.size w12 W) (fun W hW => below_on kS12 hW) _ _ _ _ ?_
  replace hS : Below w12.heap.size w12 w12 := Below.refl _ _
  refine' take_at 19 rfl (by kernel_rfl) (by kernel_rfl) (by kernel_rfl) (fun _ _ _ h => h) (by rfl) hS ?_ ?_ ?_
  rotate_left 2
  · intro W hSW; go_simp; try with_reducible rfl
  · simp only [List.set_cons_succ, List.set_cons_zero]; rfl
  refine' take_at 22 rfl (by kernel_rfl) (by kernel_rfl) (by kernel_rfl) (fun _ _ _ h => h) (by rfl) hS ?_ ?_ ?_
  rotate_left 2
  · intro W hSW; go_simp; try with_reducible rfl
  · simp only [List.set_cons_succ, List.set_cons_zero]; rfl
  refine' take_at 23 rfl (by kernel_rfl) (by kernel_rfl) (by kernel_rfl) (fun _ _ _ h => h) (by rfl) hS ?_ ?_ ?_
  rotate_left 2
  · intro W hSW; go_simp; try with_reducible rfl
  · simp only [List.set_cons_succ, List.set_cons_zero]; rfl
  refine' take_at 24 rfl (by kernel_rfl) (by kernel_rfl) (by kernel_rfl) (fun _ _ _ h => h) (by rfl) hS ?_ ?_ ?_
  rotate_left 2
  · intro W hSW; go_simp; try with_reducible rfl
  · simp only [List.set_cons_succ, List.set_cons_zero]; rfl
  refine wpAnyH_done (by kernel_rfl) ?_ _
  refine NoPanic.normal ?_
  go_wp2_with fail
  go_ret
  exact ⟨rfl, below_on kS12 hS⟩

set_option maxHeartbeats 1600000 in
theorem law4Repeats (hnew : NewOk) (AFL : Option Addr) (fl : List UInt8) (cfl : Nat) (AB : Option Addr) (b : List UInt8) (cb : Nat) (k : Int) (after : Int) (AP : Option Addr) (pk : List UInt8) (cp : Nat) (w : World)
    (h1 : Bs w AFL fl) (h2 : Bs w AB b) (hcb : b.length ≤ cb) (h3 : Bs w AP pk) (hcp : pk.length ≤ cp) (ha2 : after ≤ 9223372036854775807) :
    Calls Try.prog 7 #[.slice AFL fl.length cfl, .slice AB b.length cb, .int .i64 k, .int .i64 after, .slice AP pk.length cp] w fun e w' => e = .returned (.bool true) ∧ Below w.heap.size w w' := by
  by_cases hin : fl.length ≤ 300 ∧ b.length ≤ 4096 ∧ 0 ≤ k ∧ k ≤ b.length ∧ 0 ≤ after ∧ pk.length ≤ 1024
  · obtain ⟨n, rfl⟩ : ∃ n : Nat, k = (n : Int) := ⟨k.toNat, by omega⟩
    exact law4Repeats_in hnew AFL fl cfl AB b cb n after AP pk cp w h1 h2 hcb h3 hcp hin.1 hin.2.1 hin.2.2.2.2.2 (by omega) hin.2.2.2.2.1 ha2
  · have HNEW := Lib.hid hnew
    obtain ⟨zf, Hfl⟩ : ∃ zf : Nat, (fl.length = zf) := ⟨_, rfl⟩
    obtain ⟨z, Hz⟩ : ∃ z : Nat, (b.length = z) := ⟨_, rfl⟩
    obtain ⟨zp, Hzp⟩ : ∃ zp : Nat, (pk.length = zp) := ⟨_, rfl⟩
    rw [Hfl, Hz, Hzp] at hin
    rw [Hfl, Hz, Hzp]
    have hq : (decide (300 < (zf : Int)) = true) ∨ (decide (300 < (zf : Int)) = false ∧ decide (4096 < (z : Int)) = true) ∨ (decide (300 < (zf : Int)) = false ∧ decide (4096 < (z : Int)) = false ∧ decide (k < 0) = true) ∨ (decide (300 < (zf : Int)) = false ∧ decide (4096 < (z : Int)) = false ∧ decide (k < 0) = false ∧ decide ((z : Int) < k) = true) ∨
        (decide (300 < (zf : Int)) = false ∧ decide (4096 < (z : Int)) = false ∧ decide (k < 0) = false ∧ decide ((z : Int) < k) = false ∧ decide (after < 0) = true) ∨ (decide (300 < (zf : Int)) = false ∧ decide (4096 < (z : Int)) = false ∧ decide (k < 0) = false ∧ decide ((z : Int) < k) = false ∧ decide (after < 0) = false ∧ decide (1024 < (zp : Int)) = true) := by
      simp only [decide_eq_true_eq, decide_eq_false_iff_not]
      omega
    clear hin h1 h2 h3 hcb hcp Hfl Hz Hzp hnew
    rcases hq with q1 | ⟨q1, q2⟩ | ⟨q1, q2, q3⟩ | ⟨q1, q2, q3, q4⟩ | ⟨q1, q2, q3, q4, q5⟩ | ⟨q1, q2, q3, q4, q5, q6⟩
    all_goals
      go_enter Try.func7, Try.ntmps7
      go_wp2_with fail
      refine (alive4_any HNEW.out _).mono ?_
      rintro e w1 ⟨rfl, hb1⟩
      have B1 := Lib.hid hb1
      clear hb1
      go_wp2_with fail
      go_ret
      exact ⟨rfl, B1.out⟩
end Go.Proofs.Ytcpkmhhlcmnfdaa

