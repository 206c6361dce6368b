/- The contract of bootjacklaw4.alive, over whatever the program's cursor is. -/
import Derived.Test.YtcpkmhhlcmnfdaaLaw4Write
import Derived.Test.YtcpkmhhlcmnfdaaLaw3None
namespace Go.Proofs.Ytcpkmhhlcmnfdaa
open Go.RowKit
set_option linter.unusedVariables false
set_option maxRecDepth 100000

/-- a new cursor over a flash with nothing armed, from its beginning -/
theorem inv_first0 {T : Nat → UInt8} {c : Nat} {d : Dl} (h : CalmD d c) : Inv T c (cfirst d 0 []) ∧ Clean (cfirst d 0 []) :=
  ⟨first_inv (kt := 0) ⟨h.len, h.worn, fun j hj => by omega, fun j h1 h2 => by unfold limOf at h2; omega⟩ h.off h.armed h.pick (by omega) rfl, fun j h1 h2 => by unfold cfirst at h2; dsimp only at h2; omega⟩
theorem clean_pad {u : Cu Dl} (h : Clean u) : ∀ j, u.at_ ≤ j → j < u.at_ / 8 * 8 + 8 → j < u.x.hi * 1024 → (255 : UInt8) &&& ~~~(u.x.d.b.getD j 0) = 0 := fun j h1 h2 h3 => by
  rw [h j h1 h3]; decide

theorem alive4_math {d : Dl} (h : CalmD d 2) : ∃ u1 u2, cwrite (devOps 0 2) (cfirst d 0 []) [1, 2, 3] = (0, u1) ∧ u1.held = [1, 2, 3] ∧ cflush (devOps 0 2) u1 = (0, u2) ∧ u2.at_ = 3 ∧ peekOf u2.x.d 0 4 = [1, 2, 3, 255] := by
  obtain ⟨h0, c0⟩ := inv_first0 (T := fun j => ([1, 2, 3] : List UInt8).getD j 255) h
  obtain ⟨u1, e1, i1, a1, k1, -⟩ := write_inv h0 (l := [1, 2, 3]) (by show 0 + 3 ≤ _; omega) (fun i hi => by
    show ([1, 2, 3] : List UInt8).getD (0 + i) 255 = _
    rw [Nat.zero_add]
    simp only [List.length_cons, List.length_nil] at hi
    have : i = 0 ∨ i = 1 ∨ i = 2 := by omega
    rcases this with rfl | rfl | rfl <;> rfl)
  have a1' : u1.at_ = 3 := a1
  have hh : u1.held = [1, 2, 3] := by rw [i1.held, a1']; rfl
  obtain ⟨u2, e2, i2, a2, d2, p2, -⟩ := flush_inv i1 (clean_pad (k1 c0))
  rw [a1'] at a2 d2 p2
  refine ⟨u1, u2, e1, hh, e2, a2, ?_⟩
  have hl := i2.calm.len
  unfold peekOf
  rw [if_pos (by omega)]
  refine list_ext_getD (by rw [show (4 : Int).toNat = 4 from rfl, show (0 : Int).toNat = 0 from rfl, cut_len (by omega)]; rfl) fun i hi => ?_
  rw [show (4 : Int).toNat = 4 from rfl, show (0 : Int).toNat = 0 from rfl] at hi ⊢
  rw [cut_len (by omega)] at hi
  rw [cut_get hi, Nat.zero_add]
  by_cases q : i < 3
  · rw [d2 i q]
    have : i = 0 ∨ i = 1 ∨ i = 2 := by omega
    rcases this with rfl | rfl | rfl <;> rfl
  · have : i = 3 := by omega
    subst this
    rw [p2 3 (by omega) (by omega)]
    rfl

theorem room_fresh (b : List UInt8) (wn : List Int) (hb : b.length = 1024 * wn.length) (hw : wn.length ≤ 65536) (hw0 : ∀ x ∈ wn, x = 0) (k : Int) (hk : 0 ≤ k) (hk2 : k ≤ 1152921504606846976) : Room (freshD b wn) k :=
  ⟨fresh_ok b wn hb hw hw0, by show (0 : Int) + k ≤ _; omega, fun x hx => by have := hw0 x hx; omega⟩

set_option maxHeartbeats 3200000 in
theorem alive4_any (hnew : NewOk) (w : World) : Calls Try.prog 9 #[] w fun e w' => e = .returned (.bool true) ∧ Below w.heap.size w w' := by
  have HN : Hid (Calls Try.prog 33 #[.int .i64 2] w (DNewPost w 2)) := Lib.hid (dnew_any 2 2 w (by show (if (2 : Int) < 1 then 1 else if 256 < (2 : Int) then 256 else 2) = ((2 : Nat) : Int); decide) (by omega) (by omega))
  have HNEW := Lib.hid hnew
  clear hnew
  go_enter Try.func9, Try.ntmps9
  go_wp2_with (go_at_call 33; refine HN.out.mono ?_; rintro e w1 ⟨g, gB, gW, cB, cW, rfl, hf, hb, hg, hgB, hgW⟩; have HF := Lib.hid (hf 0); have HB := Lib.hid hb; have HG : Hid (w.heap.size ≤ g ∧ w.heap.size ≤ gB ∧ w.heap.size ≤ gW) := Lib.hid ⟨hg, hgB, hgW⟩; clear hf hb hg hgB hgW)
  obtain ⟨bb, Hbb⟩ : ∃ bb, Hid (blanks 2 = bb) := ⟨_, rfl⟩
  obtain ⟨wn, Hwn⟩ : ∃ wn, Hid (List.replicate 2 (0 : Int) = wn) := ⟨_, rfl⟩
  have HF1 : Hid (DevFl w1 g gB gW cB cW 0 (freshD bb wn)) := by rw [← Hbb.out, ← Hwn.out]; exact HF
  have hbl : bb.length = 2048 := by rw [← Hbb.out]; exact blanks_len 2
  have hwl : wn.length = 2 := by rw [← Hwn.out]; simp
  have hw0 : ∀ x ∈ wn, x = 0 := by rw [← Hwn.out]; intro x hx; simpa using hx
  have OK0 : Hid (DlOk (freshD bb wn)) := Lib.hid (fresh_ok bb wn (by omega) (by omega) hw0)
  have HCALM : Hid (CalmD (freshD bb wn) 2) := Lib.hid ⟨rfl, rfl, hbl, hwl, rfl⟩
  have HROOM : Hid (Room (freshD bb wn) 1000) := Lib.hid (room_fresh bb wn (by omega) (by omega) hw0 1000 (by omega) (by omega))
  have HOF := dof_any HF1.out OK0.out 2 hwl 0 2 (by omega) (by omega) (by omega) (by omega)
  rw [show ofB 2 0 2 = true from by decide] at HOF
  have HOF2 := Lib.hid HOF
  have Hbl := Lib.hid hbl
  clear HF HOF hbl hwl hw0
  go_wp2_with (go_at_call 14; refine HOF2.out.mono ?_; rintro e w2 ⟨rfl, hb2⟩; have HB2 := Lib.hid hb2; clear hb2)
  obtain ⟨u1, u2, hm1, hm2, hm3, hm4, hm5⟩ := alive4_math HCALM.out
  have HM1 := Lib.hid hm1
  have HM2 := Lib.hid hm2
  have HM3 := Lib.hid hm3
  have HM4 := Lib.hid hm4
  have HM5 := Lib.hid hm5
  have hbx : Below w2.heap.size w2 (w2.alloc (.cells #[.pointer (some ⟨g, 0, none⟩), .int .i64 0, .int .i64 2] 35)) := (Below.refl _ _).alloc (Nat.le_refl _) _
  have hnw := HNEW.out 2 (w2.alloc (.cells #[.pointer (some ⟨g, 0, none⟩), .int .i64 0, .int .i64 2] 35)) ⟨g, gB, gW, cB, cW⟩ (freshD bb wn) 0 (by omega) (by omega) ((HF1.out.below HB2.out).below hbx) OK0.out rfl (by show _ ≤ bb.length; rw [Hbl.out]; omega) (by omega) (by omega)
  have BX := Lib.hid (below_on (below_on HB.out HB2.out) hbx)
  have HNW := Lib.hid hnw
  clear hm1 hm2 hm3 hm4 hm5 hbx hnw
  refine HNW.out.mono ?_
  intro e w3 hp
  obtain ⟨hb3, gc, P, rfl, hsp, hpk⟩ := cnew_calm (n := 0) (w0 := w) (by omega) HCALM.out (K := fun j => j < w.heap.size) (fun j hj => ⟨fun hf => by have := HG.out; rcases hf with e | e | e <;> dsimp only at e <;> omega, hj⟩) (Only.of_below BX.out) hp
  have hpk' : PK P w (fun j => j < w.heap.size) w3 (cfirst (freshD bb wn) 0 []) := hpk
  have HSP := Lib.hid hsp
  have HPK := Lib.hid hpk'
  have B3 := Lib.hid (below_on BX.out hb3)
  clear hp hb3 hsp hpk hpk'
  go_wp2_with (go_at_call 18; refine (num4_any _ _).mono ?_; rintro e w' ⟨rfl, rfl⟩)
  -- Write
  have hlit := bs_lit w3 5 [1, 2, 3]
  have hbl : Below w3.heap.size w3 (w3.alloc (.cells (([1, 2, 3] : List UInt8).map bval).toArray 5)) := (Below.refl _ _).alloc (Nat.le_refl _) _
  have h4 := PK.more HSP.out HPK.out hbl (K' := fun j => j < w.heap.size ∨ j = w3.heap.size) (fun j hj => by
    have := B3.out.size
    rcases hj with h | h
    · exact .inl ⟨h, h⟩
    · exact .inr ⟨by omega, by simp; omega⟩)
  have hwr := HSP.out.kwrite (fun j hj => by have := B3.out.size; rcases hj with h | h <;> simp <;> omega) h4 (some ⟨w3.heap.size, 0, none⟩) [1, 2, 3] 3 hlit (fun _ j hj => by obtain ⟨a, e, rfl⟩ := hj; injection e with e; subst e; exact .inr rfl) (by simp) (by simp) (HROOM.out.less (by simp))
  rw [HM1.out] at hwr
  have HWR : Hid (∀ W, W = w3.alloc (.cells #[.int .u8 1, .int .u8 2, .int .u8 3] 5) → Calls Try.prog 19 #[.pointer (some ⟨gc, 0, none⟩), .slice (some ⟨w3.heap.size, 0, none⟩) 3 3] W fun e w' => e = .returned (.int .i64 0) ∧ PK P (w3.alloc (.cells (([1, 2, 3] : List UInt8).map bval).toArray 5)) (fun j => j < w.heap.size ∨ j = w3.heap.size) w' u1) := Lib.hid fun W hW => by subst hW; exact hwr
  have B3b := Lib.hid (below_on B3.out hbl)
  obtain ⟨wl, Hwl⟩ : ∃ wl, Hid (w3.alloc (.cells (([1, 2, 3] : List UInt8).map bval).toArray 5) = wl) := ⟨_, rfl⟩
  rw [Hwl.out] at HWR B3b
  have HZL : Hid (w3.heap.size < wl.heap.size) := Lib.hid (by rw [← Hwl.out]; simp)
  clear hlit hbl h4 hwr
  go_wp2_with fail
  refine (HWR.out _ rfl).mono ?_
  rintro e w4 ⟨rfl, hp4⟩
  have HP4 := Lib.hid hp4
  have B4 : Hid (Below w.heap.size w w4) := Lib.hid (by
    obtain ⟨Q, -, ho, -⟩ := hp4
    exact B3b.out.trans (ho.below (by have := B3b.out.size; omega) (fun j hj hn => hn (.inl hj))))
  clear hp4
  -- Held
  have hhd := HSP.out.kheld HP4.out
  rw [HM2.out] at hhd
  have HHD := Lib.hid hhd
  clear hhd
  go_wp2_with fail
  refine HHD.out.mono ?_
  rintro e w5 ⟨v5, rfl, ho5, hb5⟩
  obtain ⟨g5, c5, rfl, hbs5, -, hg5⟩ := ho5.formN (n := 3) rfl (by omega)
  have h5 := PK.more HSP.out HP4.out hb5 (K' := fun j => j < w.heap.size ∨ j = g5) (fun j hj => by
    have := B3b.out.size
    rcases hj with h | h
    · exact .inl ⟨.inl h, by omega⟩
    · subst h
      have := ho5.lt j ⟨_, rfl, rfl⟩
      exact .inr ⟨hg5, this⟩)
  have hg5l : g5 < w5.heap.size := ho5.lt g5 ⟨_, rfl, rfl⟩
  have B5 := Lib.hid (below_on B4.out hb5)
  have HBS5 := Lib.hid hbs5
  have HROOM1 : Hid (Room u1.x.d 10) := Lib.hid (by
    have := write_cn (a := 0) (c := 2) (u := cfirst (freshD bb wn) 0 []) [1, 2, 3] (HROOM.out.less (by simp))
    rw [HM1.out] at this
    exact (Room.after (k := 10 * (([1, 2, 3] : List UInt8).length : Int)) (n := 10) (HROOM.out.less (by simp)) this))
  -- Flush
  have hfl := HSP.out.kflush (fun j hj => by have := B5.out.size; rcases hj with h | h <;> omega) h5 HROOM1.out
  rw [HM3.out] at hfl
  have HFL := Lib.hid hfl
  clear ho5 hb5 hbs5 h5 hfl
  go_wp2_with fail
  refine HFL.out.mono ?_
  rintro e w6 ⟨rfl, hp6⟩
  have HP6 := Lib.hid hp6
  have hb6 : Bs w6 (some ⟨g5, 0, none⟩) [1, 2, 3] := hp6.bs HBS5.out (fun _ j hj => by obtain ⟨a, e, rfl⟩ := hj; injection e with e; subst e; exact .inr rfl)
  have B6 : Hid (Below w.heap.size w w6) := Lib.hid (by
    obtain ⟨Q, -, ho, -⟩ := hp6
    exact B5.out.trans (ho.below B5.out.size (fun j hj hn => hn (.inl hj))))
  have k6 : (convert 22 9 (.slice (some ⟨g5, 0, none⟩) 3 c5)).run Try.prog w6 = .ok (.string ⟨#[1, 2, 3]⟩) w6 := conv_now hb6 rfl rfl
  have hat := HSP.out.kat hp6
  rw [HM4.out] at hat
  have hfl6 := HSP.out.kfl hp6
  have hpk := dpeek_any hfl6 0 4 (by omega) (by omega) (by omega) (by omega) (by
    have h1 := write_cn (a := 0) (c := 2) (u := cfirst (freshD bb wn) 0 []) [1, 2, 3] (HROOM.out.less (by simp))
    rw [HM1.out] at h1
    have h2 := flush_cn (a := 0) (c := 2) (u := u1) HROOM1.out (by rw [HM2.out]; simp)
    rw [HM3.out] at h2
    have h3 := h2.ok.len
    have h4 := h2.ok.few
    show u2.x.d.b.length ≤ _
    dsimp only at h3 h4
    omega)
  rw [HM5.out] at hpk
  have HAT := Lib.hid hat
  have HPEEK := Lib.hid hpk
  have HB6 := Lib.hid hb6
  clear hp6 hb6 hat hfl6 hpk
  go_wp2_with fail
  refine (num4_any _ _).mono ?_
  rintro e w' ⟨rfl, rfl⟩
  go_wp2_with fail
  refine (num4_any _ _).mono ?_
  rintro e w' ⟨rfl, rfl⟩
  go_wp2_with fail
  refine HAT.out.mono ?_
  rintro e w' ⟨rfl, rfl⟩
  go_wp2_with fail
  refine HPEEK.out.mono ?_
  rintro e w7 ⟨v7, rfl, ho7, hb7⟩
  obtain ⟨A7, c7, rfl, hbs7, -⟩ := ho7.form
  have k7 : (convert 22 9 (.slice A7 4 c7)).run Try.prog w7 = .ok (.string ⟨#[1, 2, 3, 255]⟩) w7 := conv_now hbs7 rfl rfl
  have B7 := Lib.hid (below_on B6.out hb7)
  clear ho7 hb7 k6
  go_wp2_with fail
  go_ret
  exact ⟨rfl, B7.out⟩
end Go.Proofs.Ytcpkmhhlcmnfdaa

