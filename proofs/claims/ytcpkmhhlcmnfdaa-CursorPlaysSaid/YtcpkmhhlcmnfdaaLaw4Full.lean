/- CursorFull walked, over whatever the program's cursor is. -/
import Derived.Test.YtcpkmhhlcmnfdaaCuJ
namespace Go.Proofs.Ytcpkmhhlcmnfdaa
open Go.RowKit
set_option linter.unusedVariables false
set_option maxRecDepth 100000

/-- what a nil cursor answers: to be shown of the code that lands -/
structure NilOk : Prop where
  write : ∀ W A z c, z ≤ 65536 → Calls Try.prog 19 #[.pointer none, .slice A z c] W fun e w' => e = .returned (.int .i64 1) ∧ Below W.heap.size W w'
  flush : ∀ W, Calls Try.prog 21 #[.pointer none] W fun e w' => e = .returned (.int .i64 1) ∧ Below W.heap.size W w'
  at_ : ∀ W, Calls Try.prog 27 #[.pointer none] W fun e w' => e = .returned (.int .i64 0) ∧ W = w'
  held : ∀ W, Calls Try.prog 28 #[.pointer none] W (RetOb 5 W [])

def Tfull (n : Nat) (b : List UInt8) (j : Nat) : UInt8 := if j < n then 255 else b.getD (j - n) 255
theorem inv_blank {n c : Nat} {b : List UInt8} {d : Dl} (h : CalmD d c) (hb : ∀ j, j < 1024 * c → d.b.getD j 0 = 255) (hn : n ≤ 1024 * c) : Inv (Tfull n b) c (cfirst d n (cut d.b (n / 8 * 8) (n % 8))) := by
  have hwk : Wk (Tfull n b) c n (limOf n) d := ⟨h.len, h.worn, fun j hj => by unfold Tfull; rw [if_pos hj]; exact hb j (by omega), fun j h1 h2 => by
    rw [hb j (by unfold limOf at h2; omega)]
    exact u8_and_not255 _⟩
  exact first_inv hwk h.off h.armed h.pick hn (first_read hwk hn)

set_option maxHeartbeats 6400000 in
theorem law4Full (hnew : NewOk) (hnil : NilOk) (from_ : Int) (AB : Option Addr) (b : List UInt8) (cb : Nat) (w : World) (h2 : Bs w AB b) (hcb : b.length ≤ cb) (f1 : -9223372036854775808 ≤ from_) (f2 : from_ ≤ 9223372036854775807) :
    Calls Try.prog 8 #[.int .i64 from_, .slice AB b.length cb] w fun e w' => e = .returned (.bool true) ∧ Below w.heap.size w w' := by
  have HNEW := Lib.hid hnew
  have HNIL := Lib.hid hnil
  have HBB := Lib.hid h2
  obtain ⟨z, Hz⟩ : ∃ z : Nat, Hid (b.length = z) := ⟨_, rfl⟩
  rw [Hz.out] at hcb ⊢
  have HN : Hid (∀ W, Calls Try.prog 33 #[.int .i64 3] W (DNewPost W 3)) := Lib.hid (fun W => dnew_any 3 3 W (by show (if (3 : Int) < 1 then 1 else if 256 < (3 : Int) then 256 else 3) = ((3 : Nat) : Int); decide) (by omega) (by omega))
  clear hnew hnil h2
  by_cases hz : z ≤ 4096
  · have g2 : decide (4096 < (z : Int)) = false := decide_eq_false (by omega)
    go_enter Try.func8, Try.ntmps8
    go_wp2_with fail
    refine (alive4_any HNEW.out _).mono ?_
    rintro e w1 ⟨rfl, hb1⟩
    have B1 := Lib.hid hb1
    clear hb1
    go_wp2_with fail
    refine (HN.out _).mono ?_
    rintro e w2 ⟨g, gB, gW, cB, cW, rfl, hf, hb2, hg1, hg2, hg3⟩
    have B2 := Lib.hid (below_on B1.out hb2)
    have HG : Hid (w.heap.size ≤ g ∧ w.heap.size ≤ gB ∧ w.heap.size ≤ gW) := Lib.hid (by have := B1.out.size; omega)
    obtain ⟨bx, Hbb⟩ : ∃ bx, Hid (blanks 3 = bx) := ⟨_, rfl⟩
    obtain ⟨wn, Hwn⟩ : ∃ wn, Hid (List.replicate 3 (0 : Int) = wn) := ⟨_, rfl⟩
    have HF2 : Hid (DevFl w2 g gB gW cB cW 0 (freshD bx wn)) := by rw [← Hbb.out, ← Hwn.out]; exact hf 0
    have hbl : bx.length = 3072 := by rw [← Hbb.out]; exact blanks_len 3
    have hwl : wn.length = 3 := by rw [← Hwn.out]; simp
    have hw0 : ∀ x ∈ wn, x = 0 := by rw [← Hwn.out]; intro x hx; simpa using hx
    have OK0 : Hid (DlOk (freshD bx wn)) := Lib.hid (fresh_ok bx wn (by omega) (by omega) hw0)
    have HCALM : Hid (CalmD (freshD bx wn) 3) := Lib.hid ⟨rfl, rfl, hbl, hwl, rfl⟩
    have HROOM : Hid (Room (freshD bx wn) 1000000) := Lib.hid (room_fresh bx wn (by omega) (by omega) hw0 _ (by omega) (by omega))
    have HBLK : Hid (∀ j, j < 1024 * 3 → (freshD bx wn).b.getD j 0 = 255) := Lib.hid fun j hj => by show bx.getD j 0 = 255; rw [← Hbb.out]; exact blanks_get hj
    have hof := dof_any HF2.out OK0.out 3 hwl 0 3 (by omega) (by omega) (by omega) (by omega)
    rw [show ofB 3 0 3 = true from by decide] at hof
    have HOF := Lib.hid hof
    have Hbl := Lib.hid hbl
    clear hf hb2 hg1 hg2 hg3 hbl hwl hw0 hof
    go_wp2_with fail
    refine HOF.out.mono ?_
    rintro e w3 ⟨rfl, hb3⟩
    have hbr : Below w3.heap.size w3 (w3.alloc (.cells #[.pointer (some ⟨g, 0, none⟩), .int .i64 0, .int .i64 3] 35)) := (Below.refl _ _).alloc (Nat.le_refl _) _
    obtain ⟨w4, Hw4⟩ : ∃ w4, Hid (w3.alloc (.cells #[.pointer (some ⟨g, 0, none⟩), .int .i64 0, .int .i64 3] 35) = w4) := ⟨_, rfl⟩
    rw [Hw4.out] at hbr
    have B4 := Lib.hid (below_on (below_on B2.out hb3) hbr)
    have hnw := HNEW.out 3 w4 ⟨g, gB, gW, cB, cW⟩ (freshD bx wn) from_ (by omega) (by omega) ((HF2.out.below hb3).below hbr) OK0.out rfl (by show _ ≤ bx.length; rw [Hbl.out]; omega) f1 f2
    have HNW := Lib.hid hnw
    clear hb3 hbr hnw
    by_cases hin : 0 ≤ from_ ∧ from_ ≤ 3072
    · obtain ⟨i1, i2⟩ := hin
      obtain ⟨n, rfl⟩ := Int.eq_ofNat_of_zero_le i1
      have d1 : decide ((n : Int) < 0) = false := decide_eq_false (by omega)
      have d2 : decide (3072 < (n : Int)) = false := decide_eq_false (by omega)
      go_wp2_with fail
      rw [Hw4.out]
      refine HNW.out.mono ?_
      intro e w5 hp
      obtain ⟨hb5, gc, P, rfl, hsp, hpk⟩ := cnew_calm (n := n) (w0 := w) (by omega) HCALM.out (K := fun j => j < w.heap.size) (fun j hj => ⟨fun hf => by have := HG.out; rcases hf with e | e | e <;> dsimp only at e <;> omega, hj⟩) (Only.of_below B4.out) hp
      have HI := Lib.hid (inv_blank (b := b) HCALM.out HBLK.out (n := n) (by omega))
      obtain ⟨u0, Hu0⟩ : ∃ u0, Hid (cfirst (freshD bx wn) n (cut (freshD bx wn).b (n / 8 * 8) (n % 8)) = u0) := ⟨_, rfl⟩
      have hu0 : u0.at_ = n ∧ u0.x.d = freshD bx wn ∧ u0.dead = 0 := by rw [← Hu0.out]; exact ⟨rfl, rfl, rfl⟩
      rw [Hu0.out] at hpk HI
      have HU0 := Lib.hid hu0
      have HSP := Lib.hid hsp
      have HPK := Lib.hid hpk
      have B5 := Lib.hid (below_on B4.out hb5)
      clear hp hb5 hsp hpk hu0
      go_wp2_with fail
      refine (HNIL.out.write _ _ _ _ (by omega)).mono ?_
      rintro e w6 ⟨rfl, hb6⟩
      have HP6 := Lib.hid (HSP.out.klater HPK.out hb6)
      have B6 := Lib.hid (below_on B5.out hb6)
      clear hb6
      go_wp2_with fail
      refine (HNIL.out.flush _).mono ?_
      rintro e w7 ⟨rfl, hb7⟩
      have HP7 := Lib.hid (HSP.out.klater HP6.out hb7)
      have B7 := Lib.hid (below_on B6.out hb7)
      clear hb7
      go_wp2_with fail
      refine (num4_any _ _).mono ?_
      rintro e w' ⟨rfl, rfl⟩
      go_wp2_with fail
      refine (num4_any _ _).mono ?_
      rintro e w' ⟨rfl, rfl⟩
      go_wp2_with fail
      refine (HNIL.out.at_ _).mono ?_
      rintro e w' ⟨rfl, rfl⟩
      go_wp2_with fail
      refine (HNIL.out.held _).mono ?_
      rintro e w8 ⟨v8, rfl, ho8, hb8⟩
      obtain ⟨A8, c8, rfl, -, -⟩ := ho8.form
      have HP8 := Lib.hid (HSP.out.klater HP7.out hb8)
      have B8 := Lib.hid (below_on B7.out hb8)
      clear ho8 hb8
      go_wp2_with fail
      refine (num4_any _ _).mono ?_
      rintro e w' ⟨rfl, rfl⟩
      have hwr := HSP.out.kwrite (fun j hj => hj) HP8.out AB b cb HBB.out (fun hl j hj => by
        obtain ⟨bb, oo, rfl, hc⟩ := HBB.out hl
        obtain ⟨aa, e, rfl⟩ := hj
        injection e with e
        subst e
        have := World.block_lt_of_cell? w _ (hc 0 hl)
        simpa using this) (by rw [Hz.out]; exact hcb) (by rw [Hz.out]; omega) (by rw [HU0.out.2.1]; exact HROOM.out.less (by rw [Hz.out]; omega))
      rw [Hz.out] at hwr
      by_cases hfit : n + z ≤ 3072
      · obtain ⟨u1, e1, i1', a1, -⟩ := write_inv HI.out (l := b) (by rw [HU0.out.1, Hz.out]; omega) (fun i hi => by
          rw [HU0.out.1]
          unfold Tfull
          rw [if_neg (by omega), Nat.add_sub_cancel_left]
          simp [List.getD, hi])
        rw [e1] at hwr
        have ha1 : u1.at_ = n + z := by rw [a1, HU0.out.1, Hz.out]
        have hh1 : u1.held.length = (n + z) % 8 := by rw [i1'.held, ha1]; simp
        have HA1 := Lib.hid ha1
        have HH1 := Lib.hid hh1
        have HWR := Lib.hid hwr
        have d3 : decide (3072 - (n : Int) < (z : Int)) = false := decide_eq_false (by omega)
        clear hwr e1 i1' a1 ha1 hh1
        go_wp2_with fail
        (with_reducible refine HWR.out.mono ?_)
        rintro e w9 ⟨rfl, hp9⟩
        have HP9 := Lib.hid hp9
        have B9 : Hid (Below w.heap.size w w9) := Lib.hid (by
          obtain ⟨Q, -, ho, -⟩ := hp9
          exact ho.below (Nat.le_refl _) (fun j hj hn => hn hj))
        have hat := HSP.out.kat hp9
        rw [HA1.out] at hat
        have HAT := Lib.hid hat
        have hhd := HSP.out.kheld hp9
        have HHD := Lib.hid hhd
        have e8 : ((n + z : Nat) : Int) = (n : Int) + (z : Int) := by omega
        rw [e8] at HAT
        clear hp9 hat hhd e8
        go_wp2_with fail
        refine (num4_any _ _).mono ?_
        rintro e w' ⟨rfl, rfl⟩
        go_wp2_with fail
        refine HAT.out.mono ?_
        rintro e w' ⟨rfl, rfl⟩
        go_wp2_with fail
        refine HHD.out.mono ?_
        rintro e w10 ⟨v10, rfl, ho10, hb10⟩
        obtain ⟨A10, c10, rfl, -, -⟩ := ho10.form
        rw [HH1.out]
        have B10 := Lib.hid (below_on B9.out hb10)
        obtain ⟨mz, hmz⟩ : ∃ mz : Nat, (n + z) % 8 = mz := ⟨_, rfl⟩
        have e9 : ((n : Int) + (z : Int)) % 8 = (mz : Int) := by omega
        rw [hmz]
        clear ho10 hb10 hmz
        go_wp2_with fail
        go_ret
        exact ⟨rfl, B10.out⟩
      · have e1 : cwrite (devOps 0 3) u0 b = (2, u0) := by
          unfold cwrite
          rw [if_neg (by rw [HU0.out.2.2]; simp), if_pos (by show 3 * 1024 < _; rw [HU0.out.1, Hz.out]; omega)]
        rw [e1] at hwr
        have HWR := Lib.hid hwr
        have d3 : decide (3072 - (n : Int) < (z : Int)) = true := decide_eq_true (by omega)
        clear hwr e1
        go_wp2_with fail
        (with_reducible refine HWR.out.mono ?_)
        rintro e w9 ⟨rfl, hp9⟩
        have B9 : Hid (Below w.heap.size w w9) := Lib.hid (by
          obtain ⟨Q, -, ho, -⟩ := hp9
          exact ho.below (Nat.le_refl _) (fun j hj hn => hn hj))
        have hat := HSP.out.kat hp9
        rw [HU0.out.1] at hat
        have HAT := Lib.hid hat
        have hst := dsteps_any (HSP.out.kfl hp9)
        rw [show u0.x.d.steps = 0 by rw [HU0.out.2.1]; rfl] at hst
        have HST := Lib.hid hst
        clear hp9 hat hst
        go_wp2_with fail
        refine (num4_any _ _).mono ?_
        rintro e w' ⟨rfl, rfl⟩
        go_wp2_with fail
        refine HAT.out.mono ?_
        rintro e w' ⟨rfl, rfl⟩
        go_wp2_with fail
        refine HST.out.mono ?_
        rintro e w' ⟨rfl, rfl⟩
        go_wp2_with fail
        go_ret
        exact ⟨rfl, B9.out⟩
    · have hq : (decide (from_ < 0) = true) ∨ (decide (from_ < 0) = false ∧ decide (3072 < from_) = true) := by
        simp only [decide_eq_true_eq, decide_eq_false_iff_not]
        omega
      go_wp2_with fail
      rw [Hw4.out]
      refine HNW.out.mono ?_
      rintro e w5 ⟨hb5, hp⟩
      rw [if_pos (by omega)] at hp
      subst hp
      have B5 := Lib.hid (below_on B4.out hb5)
      clear hb5
      go_wp2_with fail
      refine (HNIL.out.write _ _ _ _ (by omega)).mono ?_
      rintro e w6 ⟨rfl, hb6⟩
      have B6 := Lib.hid (below_on B5.out hb6)
      clear hb6
      go_wp2_with fail
      refine (HNIL.out.flush _).mono ?_
      rintro e w7 ⟨rfl, hb7⟩
      have B7 := Lib.hid (below_on B6.out hb7)
      clear hb7
      go_wp2_with fail
      refine (num4_any _ _).mono ?_
      rintro e w' ⟨rfl, rfl⟩
      go_wp2_with fail
      refine (num4_any _ _).mono ?_
      rintro e w' ⟨rfl, rfl⟩
      go_wp2_with fail
      refine (HNIL.out.at_ _).mono ?_
      rintro e w' ⟨rfl, rfl⟩
      go_wp2_with fail
      refine (HNIL.out.held _).mono ?_
      rintro e w8 ⟨v8, rfl, ho8, hb8⟩
      obtain ⟨A8, c8, rfl, -, -⟩ := ho8.form
      have B8 := Lib.hid (below_on B7.out hb8)
      clear ho8 hb8 hin
      rcases hq with q1 | ⟨q1, q2⟩
      all_goals
        go_wp2_with fail
        refine (num4_any _ _).mono ?_
        rintro e w' ⟨rfl, rfl⟩
        go_wp2_with fail
        go_ret
        exact ⟨rfl, B8.out⟩
  · have g2 : decide (4096 < (z : Int)) = true := decide_eq_true (by omega)
    go_enter Try.func8, Try.ntmps8
    go_wp2_with fail
    refine (alive4_any HNEW.out _).mono ?_
    rintro e w1 ⟨rfl, hb1⟩
    have B1 := Lib.hid hb1
    clear hb1
    go_wp2_with fail
    go_ret
    exact ⟨rfl, B1.out⟩
end Go.Proofs.Ytcpkmhhlcmnfdaa

