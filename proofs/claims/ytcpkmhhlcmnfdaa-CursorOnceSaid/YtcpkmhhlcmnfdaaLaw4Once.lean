/- CursorOnce walked, over whatever the program's cursor is. Written by wip/tools/mk_law4.py. -/
import Derived.Test.YtcpkmhhlcmnfdaaCuJ
import Derived.Test.YtcpkmhhlcmnfdaaLaw4Filled
namespace Go.Proofs.Ytcpkmhhlcmnfdaa
open Go.RowKit
set_option linter.unusedVariables false
set_option maxRecDepth 100000

set_option maxHeartbeats 6400000 in
theorem law4Once_in (hnew : NewOk) (AFL : Option Addr) (fl : List UInt8) (cfl : Nat) (AB : Option Addr) (b : List UInt8) (cb : Nat) (AP : Option Addr) (ps : List Int) (kp : Nat) (AF : Option Addr) (fs : List Bool) (kf : Nat) (w : World)
    (h1 : Bs w AFL fl) (h2 : Bs w AB b) (hcb : b.length ≤ cb) (h3 : IntRow w AP ps) (h4 : BoolRow w AF fs) (l1 : fl.length ≤ 300) (l2 : b.length ≤ 4096) (l3 : ps.length ≤ 60) (l4 : fs.length ≤ 60) :
    Calls Try.prog 5 #[.slice AFL fl.length cfl, .slice AB b.length cb, .slice AP ps.length kp, .slice AF fs.length kf] w fun e w' => e = .returned (.bool true) ∧ Below w.heap.size w w' := by
  have HNEW := Lib.hid hnew
  have HFI := Lib.hid h1
  have HBB := Lib.hid h2
  have HPS := Lib.hid h3
  have HFS := Lib.hid h4
  obtain ⟨zf, Hfl⟩ : ∃ zf : Nat, Hid (fl.length = zf) := ⟨_, rfl⟩
  obtain ⟨z, Hz⟩ : ∃ z : Nat, Hid (b.length = z) := ⟨_, rfl⟩
  obtain ⟨zp, Hzp⟩ : ∃ zp : Nat, Hid (ps.length = zp) := ⟨_, rfl⟩
  obtain ⟨zs, Hzs⟩ : ∃ zs : Nat, Hid (fs.length = zs) := ⟨_, rfl⟩
  rw [Hfl.out] at l1 ⊢
  rw [Hz.out] at hcb l2 ⊢
  rw [Hzp.out] at l3 ⊢
  rw [Hzs.out] at l4 ⊢
  have g1 : decide (300 < (zf : Int)) = false := decide_eq_false (by omega)
  have g2 : decide (4096 < (z : Int)) = false := decide_eq_false (by omega)
  have g3 : decide (60 < (zp : Int)) = false := decide_eq_false (by omega)
  have g4 : decide (60 < (zs : Int)) = false := decide_eq_false (by omega)
  clear hnew h1 h2 h3 h4
  go_enter Try.func5, Try.ntmps5
  go_wp2_with fail
  refine (alive4_any HNEW.out _).mono ?_
  rintro e w1 ⟨rfl, hb1⟩
  have B1 := Lib.hid hb1
  clear hb1
  have hfi := filled_any AFL fl cfl w1 (HFI.out.below B1.out) (by have := Hfl.out; omega)
  rw [Hfl.out] at hfi
  have HFIL := Lib.hid hfi
  clear hfi
  go_wp2_with fail
  refine HFIL.out.mono ?_
  rintro e w2 ⟨g, gB, gW, cB, cW, rfl, ⟨bx, hd0, hbx, hb2⟩, hg1, hg2, hg3⟩
  have HF2 := Lib.hid (hd0 0)
  have B2 := Lib.hid (below_on B1.out hb2)
  have HG : Hid (w.heap.size ≤ g ∧ w.heap.size ≤ gB ∧ w.heap.size ≤ gW) := Lib.hid (by have := B1.out.size; omega)
  have Hbx := Lib.hid hbx
  have OK0 : Hid (DlOk (freshD bx wn4)) := Lib.hid (fresh_ok bx wn4 (by rw [hbx]; rfl) (by show 4 ≤ _; omega) (by intro x hx; exact (List.mem_replicate.1 hx).2))
  have HCALM : Hid (CalmD (freshD bx wn4) 4) := Lib.hid ⟨rfl, rfl, hbx, rfl, rfl⟩
  have HROOM : Hid (Room (freshD bx wn4) 100000000) := Lib.hid (room_fresh bx wn4 (by rw [hbx]; rfl) (by show 4 ≤ _; omega) (by intro x hx; exact (List.mem_replicate.1 hx).2) _ (by omega) (by omega))
  clear hd0 hbx hb2 hg1 hg2 hg3
  have hpw := dpeek_any HF2.out 0 4096 (by omega) (by omega) (by omega) (by omega) (by show bx.length ≤ _; rw [Hbx.out]; omega)
  have hpe : peekOf (freshD bx wn4) 0 4096 = bx := by
    unfold peekOf
    rw [if_pos (by show (0 : Int) ≤ 0 ∧ (0 : Int) ≤ 4096 ∧ (0 : Int) + 4096 ≤ ((bx.length : Nat) : Int); rw [Hbx.out]; omega)]
    show cut bx 0 4096 = bx
    rw [← Hbx.out]
    exact cut_self bx
  rw [hpe] at hpw
  have HPW := Lib.hid hpw
  clear hpw hpe
  go_wp2_with fail
  refine HPW.out.mono ?_
  rintro e w2b ⟨vw, rfl, how, hbw⟩
  obtain ⟨gw, cw, rfl, hbsw, hcw, hgw⟩ := how.formN Hbx.out (by omega)
  have HF2b := Lib.hid (HF2.out.below hbw)
  have B2b := Lib.hid (below_on B2.out hbw)
  have HWAS := Lib.hid hbsw
  have HGW : Hid (gw < w2b.heap.size ∧ w2.heap.size ≤ gw) := Lib.hid ⟨how.lt gw ⟨_, rfl, rfl⟩, hgw⟩
  have HFB : Hid (g < w2.heap.size ∧ gB < w2.heap.size ∧ gW < w2.heap.size) := Lib.hid HF2.out.blk
  clear how hbw hbsw hgw
  have hof := dof_any HF2b.out OK0.out 4 rfl 0 4 (by omega) (by omega) (by omega) (by omega)
  rw [show ofB 4 0 4 = true from by decide] at hof
  have HOF := Lib.hid hof
  clear hof
  go_wp2_with fail
  refine HOF.out.mono ?_
  rintro e w3 ⟨rfl, hb3⟩
  have hbr : Below w3.heap.size w3 (w3.alloc (.cells #[.pointer (some ⟨g, 0, none⟩), .int .i64 0, .int .i64 4] 35)) := (Below.refl _ _).alloc (Nat.le_refl _) _
  have hrc := box_cells w3 (.pointer (some ⟨g, 0, none⟩)) (.int .i64 0) (.int .i64 4) 35
  obtain ⟨w4, Hw4⟩ : ∃ w4, Hid (w3.alloc (.cells #[.pointer (some ⟨g, 0, none⟩), .int .i64 0, .int .i64 4] 35) = w4) := ⟨_, rfl⟩
  rw [Hw4.out] at hbr hrc
  have B4 := Lib.hid (below_on (below_on B2b.out hb3) hbr)
  have HRC := Lib.hid hrc
  have hnw := HNEW.out 4 w4 ⟨g, gB, gW, cB, cW⟩ (freshD bx wn4) 0 (by omega) (by omega) ((HF2b.out.below hb3).below hbr) OK0.out rfl (by show _ ≤ bx.length; rw [Hbx.out]; omega) (by omega) (by omega)
  have HNW := Lib.hid hnw
  have HB34 := Lib.hid (below_on hb3 hbr)
  clear hb3 hbr hrc hnw
  go_wp2_with fail
  rw [Hw4.out]
  refine HNW.out.mono ?_
  intro e w5 hp
  obtain ⟨hb5, gc, P, rfl, hsp, hpk⟩ := cnew_calm (n := 0) (w0 := w2b) (by omega) HCALM.out (K := fun j => j < w.heap.size ∨ j = gw) (fun j hj => by
    have := HG.out
    have := HGW.out
    have := HFB.out
    have := B2b.out.size
    refine ⟨fun hf => ?_, ?_⟩
    · rcases hf with e | e | e <;> dsimp only at e <;> rcases hj with h | h <;> omega
    · rcases hj with h | h <;> omega) (Only.of_below HB34.out) hp
  have hpk' : PK P w2b (fun j => j < w.heap.size ∨ j = gw) w5 (cfirst (freshD bx wn4) 0 []) := hpk
  have HSP := Lib.hid hsp
  have HPK := Lib.hid hpk'
  have B5 := Lib.hid (below_on B4.out hb5)
  clear hp hb5 hsp hpk hpk'
  go_wp2_with fail
  refine (num4_any _ _).mono ?_
  rintro e w' ⟨rfl, rfl⟩
  have hold : ∀ {A : Option Addr} {l : List UInt8}, Bs w A l → 0 < l.length → ∀ j, At A j → j < w.heap.size ∨ j = gw := fun hA hl j hj => by
    obtain ⟨bb, oo, rfl, hc⟩ := hA hl
    obtain ⟨aa, e, rfl⟩ := hj
    injection e with e
    subst e
    have := World.block_lt_of_cell? w _ (hc 0 hl)
    simp at this
    exact .inl this
  have HW0 : Hid (Wear (freshD bx wn4) 4 (cfirst (freshD bx wn4) 0 [])) := Lib.hid ⟨fun j _ _ => rfl, fun s _ h => by unfold cfirst at h; dsimp only at h; omega, fun s hs _ => by
    show wn4.getD s 0 = 0
    have : s = 0 ∨ s = 1 ∨ s = 2 ∨ s = 3 := by omega
    rcases this with rfl | rfl | rfl | rfl <;> rfl, .inl ⟨rfl, rfl⟩, .inl (by unfold cfirst; dsimp only; rw [if_pos (by omega)])⟩
  have HJ0 : Hid (JC (tgt b) b 4 100000 (Wear (freshD bx wn4) 4) 0 (cfirst (freshD bx wn4) 0 []) b) := Lib.hid (jc_first HCALM.out (HROOM.out.less (by have := Hz.out; omega)) HW0.out)
  have hrowP : IntRow w2b AP ps := HPS.out.below B2b.out
  have hrowF : BoolRow w2b AF fs := HFS.out.below B2b.out
  have hwr := write4_any HSP.out (fun j hj => by have := HGW.out; have := B2b.out.size; rcases hj with h | h <;> omega) (JC (tgt b) b 4 100000 (Wear (freshD bx wn4) 4)) (fun r u => r = true ∧ Wear (freshD bx wn4) 4 u ∧ u.x.ent = (if b.length = 0 then 0 else (b.length - 1) / 1024 + 1) ∧ CalmD u.x.d 4)
    b AB cb ps AP kp fs AF kf (HBB.out.below B2b.out) (fun hl j hj => hold HBB.out hl j hj) (by have := Hz.out; omega) (by have := Hz.out; omega) hrowP (fun hl j hj => by
      obtain ⟨bb, oo, rfl, hc⟩ := HPS.out hl
      obtain ⟨aa, e, rfl⟩ := hj
      injection e with e
      subst e
      have := World.block_lt_of_cell? w _ (hc 0 hl).1
      simp at this
      exact .inl this) (by have := Hzp.out; omega) hrowF (fun hl j hj => by
      obtain ⟨bb, oo, rfl, hc⟩ := HFS.out hl
      obtain ⟨aa, e, rfl⟩ := hj
      injection e with e
      subst e
      have := World.block_lt_of_cell? w _ (hc 0 hl)
      simp at this
      exact .inl this) (by have := Hzs.out; omega)
    (fun kk u rest hk hj => hj.room.less (by have := Hzp.out; omega))
    (fun kk u rest n hk hj hn => by
      obtain ⟨q1, q2⟩ := jc_write (fun j hj => tgt_lt hj) (by have := Hz.out; omega) (fun u l hi hw hle hT => wear_pushes l hi hw hle hT) hj (by have := Hzp.out; omega) hn
      exact ⟨fun _ => q2, fun hne => absurd q1 hne⟩)
    (fun _ kk u rest hk hj => by
      obtain ⟨q1, q2⟩ := jc_flush (fun u hi hc hw => (wear_flush hi hw (clean_pad hc)).1) hj (by have := Hzp.out; omega)
      exact ⟨fun _ => q2, fun hne => absurd q1 hne⟩)
    (fun kk u hk hj => by
      obtain ⟨u', e, q1, q2, q3, q4, q5, -⟩ := jc_end hj (by have := Hzp.out; omega) (by have := Hz.out; omega)
      obtain ⟨z1, z2⟩ := wear_flush hj.inv hj.more (clean_pad hj.clean)
      rw [e] at z1 z2 ⊢
      exact ⟨rfl, z1, by rw [← q5]; exact z2, q2⟩)
    HPK.out HJ0.out
  rw [Hz.out, Hzp.out, Hzs.out] at hwr
  have HWR := Lib.hid hwr
  clear hwr hrowP hrowF
  go_wp2_with fail
  (with_reducible refine HWR.out.mono ?_)
  rintro e w6 ⟨r, u, rfl, hp6, rfl, hwe, hen, hcm⟩
  have HP6 := Lib.hid hp6
  have B6 : Hid (Below w.heap.size w w6) := Lib.hid (by
    obtain ⟨Q, -, ho, -⟩ := hp6
    exact B2b.out.trans (ho.below B2b.out.size (fun j hj hn => hn (.inl hj))))
  have hwas6 : Bs w6 (some ⟨gw, 0, none⟩) bx := hp6.bs HWAS.out (fun _ j hj => by obtain ⟨a, e, rfl⟩ := hj; injection e with e; subst e; exact .inr rfl)
  have hf6 := HSP.out.kfl hp6
  have HF6 := Lib.hid hf6
  have HWAS6 := Lib.hid hwas6
  have HWE := Lib.hid hwe
  have HCM := Lib.hid hcm
  have hhi : ∀ s, s < 4 → (s < u.x.hi ↔ 0 < z ∧ s ≤ (z - 1) / 1024 + 1) := fun s hs => by
    rcases hwe.hi with ⟨q1, q2⟩ | ⟨q1, q2⟩
    · rw [q1]
      rw [q2] at hen
      by_cases hz0 : z = 0
      · omega
      · rw [if_neg hz0] at hen; omega
    · by_cases hz0 : z = 0
      · rw [if_pos hz0] at hen; omega
      · rw [if_neg hz0] at hen; rw [q1]; omega
  have HHI := Lib.hid hhi
  clear hp6 hwas6 hf6 hwe hcm hhi hen
  go_wp2_with fail
  go_loop [16] (fun v => ∃ s : Nat, s ≤ 4 ∧ v = .int .i64 s) (fun v => 4 - (intOf v).toNat)
  case atStart => exact ⟨0, Nat.zero_le _, rfl⟩
  case round =>
    obtain ⟨s, hs, rfl⟩ := hrel
    by_cases hlt : s < 4
    · obtain ⟨o, ho, zs2⟩ := slice_in gw (s * 1024) 1024 cw (by omega)
      have hsl : ∀ W, (Instr.slice 22 (.slice (some ⟨gw, 0, none⟩) 4096 cw) (some (.int .i64 ((s : Int) * 1024))) (some (.int .i64 ((s : Int) * 1024 + 1024))) none).run Try.prog W = .ok (.slice (some ⟨gw, o, none⟩) 1024 (cw - s * 1024)) W := fun W => by
        have := zs2 4096 W
        rw [show ((s * 1024 : Nat) : Int) = (s : Int) * 1024 by omega] at this
        exact this
      have hbc := HWAS6.out.cutAt (a := s * 1024) (n := 1024) (o := o) (by rw [Hbx.out]; omega) ho
      have hcl : (cut bx (s * 1024) 1024).length = 1024 := cut_len (by rw [Hbx.out]; omega)
      obtain ⟨q, Hq⟩ : ∃ q, Hid ((cut bx (s * 1024) 1024).all (· == 255) = q) := ⟨_, rfl⟩
      have hib := isBlank_any (some ⟨gw, o, none⟩) (cut bx (s * 1024) 1024) (cw - s * 1024) w6 hbc (by omega)
      rw [hcl, Hq.out] at hib
      have HIB := Lib.hid hib
      have her := derases_any HF6.out (s : Int)
      have hwv : wornAt u.x.d.worn (s : Int) = u.x.d.worn.getD s 0 := by
        unfold wornAt
        rw [if_pos (by rw [HCM.out.worn]; omega), Int.toNat_natCast]
      rw [hwv] at her
      have hsb : q = true ↔ SecBlank (freshD bx wn4) s := by
        rw [← Hq.out, List.all_eq_true]
        constructor
        · intro hx j h1 h2
          have hi : j - s * 1024 < (cut bx (s * 1024) 1024).length := by omega
          have hxx := hx _ (List.getElem_mem hi)
          have gg := cut_get (l := bx) (a := s * 1024) (n := 1024) (i := j - s * 1024) (by omega)
          rw [show s * 1024 + (j - s * 1024) = j by omega] at gg
          show bx.getD j 0 = 255
          rw [← gg]
          simp [List.getD, hi] at hxx ⊢
          exact hxx
        · intro hb x hx
          obtain ⟨i, hi, rfl⟩ := List.getElem_of_mem hx
          rw [hcl] at hi
          have gg := cut_get (l := bx) (a := s * 1024) (n := 1024) hi
          rw [show bx.getD (s * 1024 + i) 0 = 255 from hb _ (by omega) (by omega)] at gg
          have hi2 : i < (cut bx (s * 1024) 1024).length := by omega
          simp [List.getD, hi2] at gg
          simp [gg]
      have h1 := HWE.out.one s hlt
      have h0 := HWE.out.none_ s hlt
      have hh := HHI.out s hlt
      obtain ⟨wv, Hwv⟩ : ∃ wv, Hid (u.x.d.worn.getD s 0 = wv) := ⟨_, rfl⟩
      rw [Hwv.out] at her h1 h0
      have HER := Lib.hid her
      clear zs2 ho hbc hcl hib her hwv
      cases q with
      | true =>
        obtain rfl : wv = 0 := h0 (fun _ => hsb.1 rfl)
        clear h1 h0 hh hsb
        go_wp2_with (first
          | (go_at_call 31; (with_reducible refine HIB.out.mono ?_); rintro e w' ⟨rfl, rfl⟩)
          | (go_at_call 32; (with_reducible refine HER.out.mono ?_); rintro e w' ⟨rfl, rfl⟩))
        go_round
        case rel => exact ⟨s + 1, by omega, by go_num⟩
        case measure => simp [intOf]; omega
      | false =>
        have hnb : ¬ SecBlank (freshD bx wn4) s := fun h => by have := hsb.2 h; cases this
        by_cases hz0 : 0 < z
        · by_cases hsz : s ≤ (z - 1) / 1024 + 1
          · obtain rfl : wv = 1 := h1 (hh.2 ⟨hz0, hsz⟩) hnb
            have d1 : decide ((s : Int) ≤ ((z : Int) - 1) / 1024 + 1) = true := decide_eq_true (by omega)
            clear h1 h0 hh hsb hnb
            go_wp2_with (first
              | (go_at_call 31; (with_reducible refine HIB.out.mono ?_); rintro e w' ⟨rfl, rfl⟩)
              | (go_at_call 32; (with_reducible refine HER.out.mono ?_); rintro e w' ⟨rfl, rfl⟩))
            go_round
            case rel => exact ⟨s + 1, by omega, by go_num⟩
            case measure => simp [intOf]; omega
          · obtain rfl : wv = 0 := h0 (fun h => absurd (hh.1 h).2 hsz)
            have d1 : decide ((s : Int) ≤ ((z : Int) - 1) / 1024 + 1) = false := decide_eq_false (by omega)
            clear h1 h0 hh hsb hnb
            go_wp2_with (first
              | (go_at_call 31; (with_reducible refine HIB.out.mono ?_); rintro e w' ⟨rfl, rfl⟩)
              | (go_at_call 32; (with_reducible refine HER.out.mono ?_); rintro e w' ⟨rfl, rfl⟩))
            go_round
            case rel => exact ⟨s + 1, by omega, by go_num⟩
            case measure => simp [intOf]; omega
        · obtain rfl : wv = 0 := h0 (fun h => absurd (hh.1 h).1 hz0)
          have d1 : decide (0 < (z : Int)) = false := decide_eq_false (by omega)
          clear h1 h0 hh hsb hnb
          go_wp2_with (first
            | (go_at_call 31; (with_reducible refine HIB.out.mono ?_); rintro e w' ⟨rfl, rfl⟩)
            | (go_at_call 32; (with_reducible refine HER.out.mono ?_); rintro e w' ⟨rfl, rfl⟩))
          go_round
          case rel => exact ⟨s + 1, by omega, by go_num⟩
          case measure => simp [intOf]; omega
    · obtain rfl : s = 4 := by omega
      go_wp2_with fail
      go_ret
      exact ⟨rfl, B6.out⟩

set_option maxHeartbeats 3200000 in
theorem law4Once (hnew : NewOk) (AFL : Option Addr) (fl : List UInt8) (cfl : Nat) (AB : Option Addr) (b : List UInt8) (cb : Nat) (AP : Option Addr) (ps : List Int) (kp : Nat) (AF : Option Addr) (fs : List Bool) (kf : Nat) (w : World)
    (h1 : Bs w AFL fl) (h2 : Bs w AB b) (hcb : b.length ≤ cb) (h3 : IntRow w AP ps) (h4 : BoolRow w AF fs) :
    Calls Try.prog 5 #[.slice AFL fl.length cfl, .slice AB b.length cb, .slice AP ps.length kp, .slice AF fs.length kf] w fun e w' => e = .returned (.bool true) ∧ Below w.heap.size w w' := by
  by_cases hin : fl.length ≤ 300 ∧ b.length ≤ 4096 ∧ ps.length ≤ 60 ∧ fs.length ≤ 60
  · exact law4Once_in hnew AFL fl cfl AB b cb AP ps kp AF fs kf w h1 h2 hcb h3 h4 hin.1 hin.2.1 hin.2.2.1 hin.2.2.2
  · have HNEW := Lib.hid hnew
    obtain ⟨zf, Hfl⟩ : ∃ zf : Nat, (fl.length = zf) := ⟨_, rfl⟩
    obtain ⟨z, Hz⟩ : ∃ z : Nat, (b.length = z) := ⟨_, rfl⟩
    obtain ⟨zp, Hzp⟩ : ∃ zp : Nat, (ps.length = zp) := ⟨_, rfl⟩
    obtain ⟨zs, Hzs⟩ : ∃ zs : Nat, (fs.length = zs) := ⟨_, rfl⟩
    rw [Hfl, Hz, Hzp, Hzs] at hin ⊢
    have hq : (decide (300 < (zf : Int)) = true) ∨ (decide (300 < (zf : Int)) = false ∧ decide (4096 < (z : Int)) = true) ∨ (decide (300 < (zf : Int)) = false ∧ decide (4096 < (z : Int)) = false ∧ decide (60 < (zp : Int)) = true) ∨ (decide (300 < (zf : Int)) = false ∧ decide (4096 < (z : Int)) = false ∧ decide (60 < (zp : Int)) = false ∧ decide (60 < (zs : Int)) = true) := by
      simp only [decide_eq_true_eq, decide_eq_false_iff_not]
      omega
    clear hin h1 h2 h3 h4 hcb Hfl Hz Hzp Hzs hnew
    rcases hq with q1 | ⟨q1, q2⟩ | ⟨q1, q2, q3⟩ | ⟨q1, q2, q3, q4⟩
    all_goals
      go_enter Try.func5, Try.ntmps5
      go_wp2_with fail
      refine (alive4_any HNEW.out _).mono ?_
      rintro e w1 ⟨rfl, hb1⟩
      have B1 := Lib.hid hb1
      clear hb1
      go_wp2_with fail
      go_ret
      exact ⟨rfl, B1.out⟩
end Go.Proofs.Ytcpkmhhlcmnfdaa

