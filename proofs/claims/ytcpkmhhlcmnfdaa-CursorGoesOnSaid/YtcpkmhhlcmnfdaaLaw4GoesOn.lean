/- CursorGoesOn walked, over whatever the program's cursor is. Written by wip/tools/mk_law4.py. -/
import Derived.Test.YtcpkmhhlcmnfdaaCuJ
import Derived.Test.YtcpkmhhlcmnfdaaLaw4Filled
import Derived.Test.YtcpkmhhlcmnfdaaGbase
namespace Go.Proofs.Ytcpkmhhlcmnfdaa
open Go.RowKit
set_option linter.unusedVariables false
set_option maxRecDepth 100000

/-- what was old, and the row A, stay -/
def OldAnd (w : World) (A : Option Addr) (w9 W : World) : Prop := Only (fun j => ¬ (j < w.heap.size ∨ At A j)) w9 W

/-- the middle of a row -/
theorem slice_mid (A : Option Addr) (w : World) (l : List UInt8) (h : Bs w A l) (c : Nat) (hc : l.length ≤ c) (y n : Nat) (hy : y + n ≤ l.length) : ∃ A', Bs w A' (cut l y n) ∧ (∀ k, At A' k → At A k) ∧ ∀ (u : World),
    (Instr.slice 22 (.slice A l.length c) (some (.int .i64 (y : Int))) (some (.int .i64 ((y : Int) + (n : Int)))) none).run Try.prog u = .ok (.slice A' n (c - y)) u := by
  by_cases hcy : c = y
  · refine ⟨A, fun hl => ?_, fun k hk => hk, fun u => ?_⟩
    · rw [cut_len hy] at hl; omega
    · rw [run_slice_lh u _ _ _ _ under_bs _ _ _ _ (by omega) (by omega) (by omega), sizeOf_u8]
      simp only [Result.andThen, sliced, Int.toNat_natCast, if_pos hcy]
      rw [show ((y : Int) + (n : Int)).toNat - y = n by omega]
  · refine ⟨A.map (·.add y), fun hl => ?_, ?_, fun u => ?_⟩
    · rw [cut_len hy] at hl
      obtain ⟨b, o, rfl, hcell⟩ := h (by omega)
      refine ⟨b, o + y, by rw [Option.map_some, addr_add], fun j hj => ?_⟩
      rw [cut_len hy] at hj
      rw [Nat.add_assoc, hcell (y + j) (by omega), cut_get hj]
    · rintro k ⟨a, e, rfl⟩
      cases A with
      | none => cases e
      | some x =>
        rw [Option.map_some] at e
        injection e with e
        subst e
        exact ⟨x, rfl, by unfold Addr.add; split <;> rfl⟩
    · rw [run_slice_lh u _ _ _ _ under_bs _ _ _ _ (by omega) (by omega) (by omega), sizeOf_u8]
      simp only [Result.andThen, sliced, Int.toNat_natCast, if_neg hcy, Nat.mul_one]
      rw [show ((y : Int) + (n : Int)).toNat - y = n by omega]

set_option maxHeartbeats 6400000 in
theorem law4GoesOn_in (hnew : NewOk) (AFL : Option Addr) (fl : List UInt8) (cfl : Nat) (AB : Option Addr) (b : List UInt8) (cb : Nat) (n : Nat) (w : World)
    (h1 : Bs w AFL fl) (h2 : Bs w AB b) (hcb : b.length ≤ cb) (l1 : fl.length ≤ 300) (l2 : b.length ≤ 4096) (hn : n ≤ b.length) :
    Calls Try.prog 6 #[.slice AFL fl.length cfl, .slice AB b.length cb, .int .i64 (n : Int)] w fun e w' => e = .returned (.bool true) ∧ Below w.heap.size w w' := by
  have HNEW := Lib.hid hnew
  have HFI := Lib.hid h1
  have HBB := Lib.hid h2
  obtain ⟨zf, Hfl⟩ : ∃ zf : Nat, Hid (fl.length = zf) := ⟨_, rfl⟩
  obtain ⟨z, Hz⟩ : ∃ z : Nat, Hid (b.length = z) := ⟨_, rfl⟩
  have hold : ∀ {A : Option Addr} {l : List UInt8}, Bs w A l → 0 < l.length → ∀ j, At A j → j < w.heap.size := fun hA hl j hj => by
    obtain ⟨bb, oo, rfl, hc⟩ := hA hl
    obtain ⟨aa, e, rfl⟩ := hj
    injection e with e
    subst e
    have := World.block_lt_of_cell? w _ (hc 0 hl)
    simpa using this
  -- the parts of b
  have HHEAD : Hid (Bs w AB (b.take n)) := Lib.hid (h2.take n)
  have HTL : Hid ((b.take n).length = n) := Lib.hid (by rw [List.length_take]; omega)
  obtain ⟨A3, hT3, -, hs3⟩ := slice_tail AB w b h2 cb hcb n hn
  have HT3 := Lib.hid hT3
  have HTK : Hid (0 < (b.drop n).length → ∀ j, At A3 j → j < w.heap.size) := Lib.hid (fun hl j hj => hold hT3 hl j hj)
  have HDL : Hid ((b.drop n).length = z - n) := Lib.hid (by rw [List.length_drop, Hz.out])
  obtain ⟨ms, hms⟩ : ∃ ms : Nat, n / 8 * 8 = ms := ⟨_, rfl⟩
  obtain ⟨mz, hmz⟩ : ∃ mz : Nat, n % 8 = mz := ⟨_, rfl⟩
  obtain ⟨AM, hTM, -, hsM⟩ := slice_mid AB w b h2 cb hcb ms mz (by omega)
  have hml : (cut b ms mz).length = mz := cut_len (by omega)
  obtain ⟨sh, Hsh0⟩ : ∃ sh, Hid (strB (cut b ms mz) = sh) := ⟨_, rfl⟩
  have mM : ∀ W, Below w.heap.size w W → (convert 22 9 (.slice AM mz (cb - ms))).run Try.prog W = .ok (.string sh) W := fun W hW => conv_now (hTM.below hW) hml.symm Hsh0.out
  have hcut8 : (ms : Int) + (mz : Int) = (n : Int) := by omega
  rw [hcut8] at hsM
  have e8 : IntKind.i64.wrap (IntKind.i64.wrap ((n : Int) / 8) * 8) = (ms : Int) := by
    have : n ≤ 4096 := by omega
    have e1 : IntKind.i64.wrap ((n : Int) / 8) = (n : Int) / 8 := by rw [IntKind.wrap_i64]; omega
    rw [e1, IntKind.wrap_i64]
    omega
  rw [Hz.out] at hs3 hsM
  rw [Hfl.out] at l1 ⊢
  rw [Hz.out] at hcb l2 hn ⊢
  have hs1 : ∀ W, (Instr.slice 22 (.slice AB z cb) none (some (.int .i64 (n : Int))) none).run Try.prog W = .ok (.slice AB n cb) W := fun W => slice_head AB z cb n (by omega) W
  have g1 : decide (300 < (zf : Int)) = false := decide_eq_false (by omega)
  have g2 : decide (4096 < (z : Int)) = false := decide_eq_false (by omega)
  have g3 : decide ((n : Int) < 0) = false := decide_eq_false (by omega)
  have g4 : decide ((z : Int) < (n : Int)) = false := decide_eq_false (by omega)
  clear hnew h1 h2 hT3 hTM hml hcut8
  go_enter Try.func6, Try.ntmps6
  go_wp2_with fail
  refine (alive4_any HNEW.out _).mono ?_
  rintro e w1 ⟨rfl, hb1⟩
  have B1 := Lib.hid hb1
  clear hb1
  have hfi := filled_any AFL fl cfl w1 (HFI.out.below B1.out) (by have := Hfl.out; omega)
  rw [Hfl.out] at hfi
  have HFIL := Lib.hid hfi
  clear hfi
  go_wp2_with fail
  refine HFIL.out.mono ?_
  rintro e w2 ⟨g, gB, gW, cB, cW, rfl, ⟨bx, hd0, hbx, hb2⟩, hg1, hg2, hg3⟩
  have HF2 := Lib.hid (hd0 0)
  have B2 := Lib.hid (below_on B1.out hb2)
  have HG : Hid (w.heap.size ≤ g ∧ w.heap.size ≤ gB ∧ w.heap.size ≤ gW) := Lib.hid (by have := B1.out.size; omega)
  have Hbx := Lib.hid hbx
  have OK0 : Hid (DlOk (freshD bx wn4)) := Lib.hid (fresh_ok bx wn4 (by rw [hbx]; rfl) (by show 4 ≤ _; omega) (by intro x hx; exact (List.mem_replicate.1 hx).2))
  have HCALM : Hid (CalmD (freshD bx wn4) 4) := Lib.hid ⟨rfl, rfl, hbx, rfl, rfl⟩
  have HROOM : Hid (Room (freshD bx wn4) 100000000) := Lib.hid (room_fresh bx wn4 (by rw [hbx]; rfl) (by show 4 ≤ _; omega) (by intro x hx; exact (List.mem_replicate.1 hx).2) _ (by omega) (by omega))
  clear hd0 hbx hb2 hg1 hg2 hg3
  have hof := dof_any HF2.out OK0.out 4 rfl 0 4 (by omega) (by omega) (by omega) (by omega)
  rw [show ofB 4 0 4 = true from by decide] at hof
  have HOF := Lib.hid hof
  clear hof
  go_wp2_with fail
  refine HOF.out.mono ?_
  rintro e w3 ⟨rfl, hb3⟩
  have hbr : Below w3.heap.size w3 (w3.alloc (.cells #[.pointer (some ⟨g, 0, none⟩), .int .i64 0, .int .i64 4] 35)) := (Below.refl _ _).alloc (Nat.le_refl _) _
  have hrc := box_cells w3 (.pointer (some ⟨g, 0, none⟩)) (.int .i64 0) (.int .i64 4) 35
  have HBK : Hid (g < w3.heap.size ∧ gB < w3.heap.size ∧ gW < w3.heap.size) := Lib.hid ((HF2.out.below hb3).blk)
  have B3 := Lib.hid (below_on B2.out hb3)
  obtain ⟨w4, Hw4⟩ : ∃ w4, Hid (w3.alloc (.cells #[.pointer (some ⟨g, 0, none⟩), .int .i64 0, .int .i64 4] 35) = w4) := ⟨_, rfl⟩
  rw [Hw4.out] at hbr hrc
  have B4 := Lib.hid (below_on (below_on B2.out hb3) hbr)
  have HRC := Lib.hid hrc
  have HZ4 : Hid (w4.heap.size = w3.heap.size + 1) := Lib.hid (by rw [← Hw4.out]; simp)
  have hnw := HNEW.out 4 w4 ⟨g, gB, gW, cB, cW⟩ (freshD bx wn4) 0 (by omega) (by omega) ((HF2.out.below hb3).below hbr) OK0.out rfl (by show _ ≤ bx.length; rw [Hbx.out]; omega) (by omega) (by omega)
  have HNW := Lib.hid hnw
  clear hb3 hbr hrc hnw
  go_wp2_with fail
  rw [Hw4.out]
  refine HNW.out.mono ?_
  intro e w5 hp
  have HKF : Hid (∀ j, (j < w.heap.size ∨ j = w3.heap.size) → ¬ (FA.mk g gB gW cB cW).F j ∧ j < w4.heap.size) := Lib.hid (fun j hj => by
    have := HG.out
    have := HBK.out
    have := HZ4.out
    have := B3.out.size
    refine ⟨fun hf => ?_, by omega⟩
    rcases hf with e | e | e <;> dsimp only at e <;> omega)
  obtain ⟨hb5, gc, P, rfl, hsp, hpk⟩ := cnew_calm (n := 0) (w0 := w4) (by omega) HCALM.out (K := fun j => j < w.heap.size ∨ j = w3.heap.size) (fun j hj => HKF.out j hj) (Only.of_below (Below.refl _ _)) hp
  have hpk' : PK P w4 (fun j => j < w.heap.size ∨ j = w3.heap.size) w5 (cfirst (freshD bx wn4) 0 []) := hpk
  have HSP := Lib.hid hsp
  have HPK := Lib.hid hpk'
  have B5 := Lib.hid (below_on B4.out hb5)
  clear hp hb5 hsp hpk hpk'
  go_wp2_with fail
  refine (num4_any _ _).mono ?_
  rintro e w' ⟨rfl, rfl⟩
  have HJ0 : Hid (JC (tgt b) (b.take n) 4 200000 (fun _ => True) 0 (cfirst (freshD bx wn4) 0 []) (b.take n)) := Lib.hid (jc_first HCALM.out (HROOM.out.less (by rw [HTL.out]; omega)) trivial)
  have hT1 : ∀ j, j < (b.take n).length → tgt b j = (b.take n).getD j 0 := fun j hj => by
    rw [HTL.out] at hj
    rw [tgt_lt (by rw [Hz.out]; omega)]
    exact (take_get hj).symm
  have hwr := write4_any HSP.out (fun j hj => (HKF.out j hj).2) (JC (tgt b) (b.take n) 4 200000 (fun _ => True)) (fun r u => r = true ∧ u.at_ = n ∧ Inv (tgt b) 4 u ∧ Clean u ∧ (∀ j, j < n → u.x.d.b.getD j 0 = tgt b j) ∧ limOf n ≤ u.x.hi * 1024 ∧ Room u.x.d 1000000)
    (b.take n) AB cb [] none 0 [] none 0 (HHEAD.out.below B4.out) (fun hl j hj => .inl (hold HHEAD.out hl j hj)) (by rw [HTL.out]; omega) (by rw [HTL.out]; omega) (fun h => absurd h (by simp)) (fun h => absurd h (by simp)) (by simp) (fun h => absurd h (by simp)) (fun h => absurd h (by simp)) (by simp)
    (fun kk u rest hk hj => hj.room.less (by simp at hk; omega))
    (fun kk u rest m hk hj hm => by
      obtain ⟨q1, q2⟩ := jc_write hT1 (by rw [HTL.out]; omega) (fun _ _ _ _ _ _ => trivial) hj (by simp at hk; omega) hm
      exact ⟨fun _ => q2, fun hne => absurd q1 hne⟩)
    (fun h => absurd h (by simp))
    (fun kk u hk hj => by
      obtain ⟨u', e, q1, q2, q3, q4, q5, q6, q7, q8, q9⟩ := jc_end hj (by simp at hk; omega) (by rw [HTL.out]; omega)
      rw [HTL.out] at q1 q3 q8
      rw [e]
      exact ⟨rfl, q1, q6, q7, q3, q8, q9.less (by simp at hk; omega)⟩)
    HPK.out HJ0.out
  rw [HTL.out] at hwr
  simp only [List.length_nil] at hwr
  have HWR := Lib.hid hwr
  clear hwr hT1
  go_wp2_with fail
  (with_reducible refine HWR.out.mono ?_)
  rintro e w6 ⟨r, u, rfl, hp6, rfl, ha, hiv, hcl, hdn, hlm, hrm⟩
  -- r's cell still stands
  have HSP' := HSP
  have hf6 := HSP.out.kfl hp6
  have B6 : Hid (Below w.heap.size w w6) := Lib.hid (by
    obtain ⟨Q, -, ho, -⟩ := hp6
    exact B4.out.trans (ho.below B4.out.size (fun j hj hn => hn (.inl hj))))
  have HP6 := Lib.hid hp6
  have HF6 := Lib.hid hf6
  have HU : Hid (u.at_ = n ∧ Inv (tgt b) 4 u ∧ Clean u ∧ (∀ j, j < n → u.x.d.b.getD j 0 = tgt b j) ∧ limOf n ≤ u.x.hi * 1024 ∧ Room u.x.d 1000000) := Lib.hid ⟨ha, hiv, hcl, hdn, hlm, hrm⟩
  clear hp6 hf6 ha hiv hcl hdn hlm hrm
  have hrc6 := HRC.out w4 (Below.refl _ _)
  have m0 := HP6.out.cell hrc6.1 (.inr rfl)
  have m1 := HP6.out.cell hrc6.2.1 (.inr rfl)
  have m2 := HP6.out.cell hrc6.2.2 (.inr rfl)
  have hnw2 := HNEW.out 4 w6 ⟨g, gB, gW, cB, cW⟩ u.x.d (n : Int) (by omega) (by omega) HF6.out HU.out.2.2.2.2.2.ok HU.out.2.1.calm.pick (by have := HU.out.2.1.calm.len; omega) (by omega) (by omega)
  have HNW2 := Lib.hid hnw2
  clear hrc6 hnw2
  go_wp2_with fail
  refine HNW2.out.mono ?_
  intro e w8 hp
  obtain ⟨hb8, gc2, P2, rfl, hsp2, hpk2⟩ := cnew_calm (n := n) (w0 := w4) (by omega) HU.out.2.1.calm (K := fun j => j < w.heap.size ∨ j = w3.heap.size) (fun j hj => HKF.out j hj) (by obtain ⟨Q, -, ho, -⟩ := HP6.out; exact ho) hp
  have hjc := jc_again (b := b) (B := 90000) HU.out.2.1 HU.out.2.2.1 HU.out.2.2.2.1 HU.out.1 HU.out.2.2.2.2.1 (by rw [Hz.out]; exact hn) (by rw [Hz.out]; omega) (HU.out.2.2.2.2.2.less (by rw [HDL.out]; omega))
  have hhe : cut u.x.d.b (n / 8 * 8) (n % 8) = cut b ms mz := by
    have hl := HU.out.2.1.calm.len
    rw [hms, hmz]
    refine list_ext_getD (by rw [cut_len (by omega), cut_len (by rw [Hz.out]; omega)]) fun i hi => ?_
    rw [cut_len (by omega)] at hi
    rw [cut_get hi, cut_get hi, HU.out.2.2.2.1 _ (by omega), tgt_lt (by rw [Hz.out]; omega)]
  obtain ⟨u2, Hu2⟩ : ∃ u2, Hid (cfirst u.x.d n (cut u.x.d.b (n / 8 * 8) (n % 8)) = u2) := ⟨_, rfl⟩
  have hu2h : u2.held = cut b ms mz := by rw [← Hu2.out]; exact hhe
  rw [Hu2.out] at hpk2 hjc
  have HSP2 := Lib.hid hsp2
  have HP8 := Lib.hid hpk2
  have HJ2 := Lib.hid hjc
  have Hsh : Hid (strB u2.held = sh) := Lib.hid (by rw [hu2h]; exact Hsh0.out)
  have HHL : Hid (u2.held.length = mz) := Lib.hid (by rw [hu2h]; exact cut_len (by rw [Hz.out]; omega))
  have B8 := Lib.hid (below_on B6.out hb8)
  have HS8 : Hid (Only (fun j => ¬ (j < w.heap.size)) w w8) := Lib.hid (Only.of_below B8.out)
  have hb8d : Below w8.heap.size w8 w8.drew := (Below.refl _ _).drew
  have HHD := Lib.hid (HSP2.out.kheld (HSP2.out.klater HP8.out hb8d))
  have WRT : Hid (∀ w9 A9, PK P2 w9 (fun j => j < w.heap.size ∨ At A9 j) w9 u2 → (∀ j, (j < w.heap.size ∨ At A9 j) → j < w9.heap.size) → Bs w9 A3 (b.drop n) → Calls Try.prog 30 #[.pointer (some ⟨gc2, 0, none⟩), .slice A3 (z - n) (cb - n), .slice none 0 0, .slice none 0 0] w9 (WritePost (PK P2 w9 (fun j => j < w.heap.size ∨ At A9 j)) (fun r u => r = true ∧ u.at_ = z ∧ CalmD u.x.d 4 ∧ cut u.x.d.b 0 z = b))) := Lib.hid fun w9 A9 hp9 hK9 hb9 => by
    have := write4_any HSP2.out hK9 (JC (tgt b) b 4 90000 (fun _ => True)) (fun r u => r = true ∧ u.at_ = z ∧ CalmD u.x.d 4 ∧ cut u.x.d.b 0 z = b)
      (b.drop n) A3 (cb - n) [] none 0 [] none 0 hb9 (fun hl j hj => .inl (HTK.out hl j hj)) (by rw [HDL.out]; omega) (by rw [HDL.out]; omega) (fun h => absurd h (by simp)) (fun h => absurd h (by simp)) (by simp) (fun h => absurd h (by simp)) (fun h => absurd h (by simp)) (by simp)
      (fun kk u rest hk hj => hj.room.less (by simp at hk; omega))
      (fun kk u rest m hk hj hm => by
        obtain ⟨q1, q2⟩ := jc_write (fun j hj => tgt_lt hj) (by rw [Hz.out]; omega) (fun _ _ _ _ _ _ => trivial) hj (by simp at hk; omega) hm
        exact ⟨fun _ => q2, fun hne => absurd q1 hne⟩)
      (fun h => absurd h (by simp))
      (fun kk u hk hj => by
        obtain ⟨u', e, q1, q2, q3, q4, -⟩ := jc_end hj (by simp at hk; omega) (by rw [Hz.out]; omega)
        have q5 := done_cut q2 (by rw [Hz.out]; omega) q3
        rw [Hz.out] at q1 q5
        rw [e]
        exact ⟨rfl, q1, q2, q5⟩)
      hp9 HJ2.out
    rw [HDL.out] at this
    simpa only [List.length_nil] using this
  clear hp hb8 hsp2 hpk2 hjc hhe hu2h m0 m1 m2
  have hHL := HHL.out
  go_wp2_with fail
  refine wp_region_noPanic ?_
  refine wp_region_held_drew (S := fun W => Below w.heap.size w W) (by kernel_rfl) (by exact B8.out.drew) (fun hS => ?_)
  refine' take_at 0 rfl (by kernel_rfl) (by kernel_rfl) (by kernel_rfl) (fun _ _ _ h => h) (by rfl) hS ?_ ?_ ?_
  rotate_left 2
  · intro W hSW; go_simp; try with_reducible rfl
  · simp only [List.set_cons_succ, List.set_cons_zero]; rfl
  refine call_at 1 rfl (by kernel_rfl) (by rfl) (fun K hK => ?_)
  go_simp
  refine (num4_any _ _).mono ?_
  rintro e w' ⟨rfl, rfl⟩
  refine hK.out _ _ (by assumption) (fun hS => ?_)
  clear hK K
  refine' take_at 2 rfl (by kernel_rfl) (by kernel_rfl) (by kernel_rfl) (fun _ _ _ h => h) (by rfl) hS ?_ ?_ ?_
  rotate_left 2
  · intro W hSW; go_simp; try with_reducible rfl
  · simp only [List.set_cons_succ, List.set_cons_zero]; rfl
  refine' take_at 3 rfl (by kernel_rfl) (by kernel_rfl) (by kernel_rfl) (fun _ _ _ h => h) (by rfl) hS ?_ ?_ ?_
  rotate_left 2
  · intro W hSW; go_simp; try with_reducible rfl
  · simp only [List.set_cons_succ, List.set_cons_zero]; rfl
  refine' take_at 4 rfl (by kernel_rfl) (by kernel_rfl) (by kernel_rfl) (fun _ _ _ h => h) (by rfl) hS ?_ ?_ ?_
  rotate_left 2
  · intro W hSW; go_simp; try with_reducible rfl
  · simp only [List.set_cons_succ, List.set_cons_zero]; rfl
  refine' take_at 5 rfl (by kernel_rfl) (by kernel_rfl) (by kernel_rfl) (fun _ _ _ h => h) (by rfl) hS ?_ ?_ ?_
  rotate_left 2
  · intro W hSW; go_simp; try with_reducible rfl
  · simp only [List.set_cons_succ, List.set_cons_zero]; rfl
  refine' take_at 6 rfl (by kernel_rfl) (by kernel_rfl) (by kernel_rfl) (fun _ _ _ h => h) (by rfl) hS ?_ ?_ ?_
  rotate_left 2
  · intro W hSW; go_simp; try with_reducible rfl
  · simp only [List.set_cons_succ, List.set_cons_zero]; rfl
  refine' take_at 7 rfl (by kernel_rfl) (by kernel_rfl) (by kernel_rfl) (fun _ _ _ h => h) (by rfl) hS ?_ ?_ ?_
  rotate_left 2
  · intro W hSW; go_simp; try with_reducible rfl
  · simp only [List.set_cons_succ, List.set_cons_zero]; rfl
  refine' take_at 8 rfl (by kernel_rfl) (by kernel_rfl) (by kernel_rfl) (fun _ _ _ h => h) (by rfl) hS ?_ ?_ ?_
  rotate_left 2
  · intro W hSW; go_simp; try with_reducible rfl
  · simp only [List.set_cons_succ, List.set_cons_zero]; rfl
  refine' take_at 11 rfl (by kernel_rfl) (by kernel_rfl) (by kernel_rfl) (fun _ _ _ h => h) (by rfl) hS ?_ ?_ ?_
  rotate_left 2
  · intro W hSW; go_simp; try with_reducible rfl
  · simp only [List.set_cons_succ, List.set_cons_zero]; rfl
  refine' take_at 12 rfl (by kernel_rfl) (by kernel_rfl) (by kernel_rfl) (fun _ _ _ h => h) (by rfl) hS ?_ ?_ ?_
  rotate_left 2
  · intro W hSW; go_simp; try with_reducible rfl
  · simp only [List.set_cons_succ, List.set_cons_zero]; rfl
  refine' take_at 13 rfl (by kernel_rfl) (by kernel_rfl) (by kernel_rfl) (fun _ _ _ h => h) (by rfl) hS ?_ ?_ ?_
  rotate_left 2
  · intro W hSW; go_simp; try with_reducible rfl
  · simp only [List.set_cons_succ, List.set_cons_zero]; rfl
  refine' take_at 14 rfl (by kernel_rfl) (by kernel_rfl) (by kernel_rfl) (fun _ _ _ h => h) (by rfl) hS ?_ ?_ ?_
  rotate_left 2
  · intro W hSW; go_simp; try with_reducible rfl
  · simp only [List.set_cons_succ, List.set_cons_zero]; rfl
  refine' take_at 15 rfl (by kernel_rfl) (by kernel_rfl) (by kernel_rfl) (fun _ _ _ h => h) (by rfl) hS ?_ ?_ ?_
  rotate_left 2
  · intro W hSW; go_simp; try with_reducible rfl
  · simp only [List.set_cons_succ, List.set_cons_zero]; rfl
  refine' take_at 16 rfl (by kernel_rfl) (by kernel_rfl) (by kernel_rfl) (fun _ _ _ h => h) (by rfl) hS ?_ ?_ ?_
  rotate_left 2
  · intro W hSW; go_simp; try with_reducible rfl
  · simp only [List.set_cons_succ, List.set_cons_zero]; rfl
  refine' take_at 17 rfl (by kernel_rfl) (by kernel_rfl) (by kernel_rfl) (fun _ _ _ h => h) (by rfl) hS ?_ ?_ ?_
  rotate_left 2
  · intro W hSW; go_simp; try with_reducible rfl
  · simp only [List.set_cons_succ, List.set_cons_zero]; rfl
  refine call_at 9 rfl (by kernel_rfl) (by rfl) (fun K hK => ?_)
  go_simp
  refine HHD.out.mono ?_
  rintro e w9 ⟨v9, rfl, ho9, hb9⟩
  obtain ⟨A9, c9, rfl, hbs9, -⟩ := ho9.form
  have kS9 : Below w.heap.size w w9 := hS.trans (hb9.mono hS.size)
  have back9 : ∀ W, OldAnd w A9 w9 W → Below w.heap.size w W := fun W hW => ((Only.of_below kS9).trans (Only.mono hW fun _ _ h q => h (.inl q))).below (Nat.le_refl _) (fun j hj hn => hn hj)
  have m9 : ∀ W, OldAnd w A9 w9 W → (convert 22 9 (.slice A9 mz c9)).run Try.prog W = .ok (.string sh) W := fun W hW => conv_now (hbs9.offs (fun _ j hj hn => hn (.inr hj)) hW) HHL.out.symm Hsh.out
  have m9b : ∀ W, OldAnd w A9 w9 W → (convert 22 9 (.slice AM mz (cb - ms))).run Try.prog W = .ok (.string sh) W := fun W hW => mM W (back9 W hW)
  have hp9 : PK P2 w9 (fun j => j < w.heap.size ∨ At A9 j) w9 u2 := PK.more HSP2.out HP8.out (hb8d.trans hb9) (fun j hj => by
    rcases hj with h | h
    · exact .inl ⟨.inl h, by have := B4.out.size; omega⟩
    · have h1 := ho9.fresh j h
      have h2 := ho9.lt j h
      exact .inr ⟨h1, h2⟩)
  have hK9 : ∀ j, (j < w.heap.size ∨ At A9 j) → j < w9.heap.size := fun j hj => by
    have := kS9.size
    rcases hj with h | h
    · omega
    · exact ho9.lt j h
  have hbt9 : Bs w9 A3 (b.drop n) := HT3.out.below kS9
  have hwr2 := WRT.out w9 A9 hp9 hK9 hbt9
  have HWR2 := Lib.hid hwr2
  have HX9 := Lib.hid hbs9
  clear hS ho9 hb9 hbs9 hp9 hK9 hbt9 hwr2
  refine hK.out _ _ (by exact kS9) (fun hS => ?_)
  clear hK K
  refine held_mono (S2 := fun W => OldAnd w A9 w9 W) back9 _ _ _ _ ?_
  replace hS : OldAnd w A9 w9 w9 := Only.refl _ _
  refine' take_at 10 rfl (by kernel_rfl) (by kernel_rfl) (by kernel_rfl) (fun _ _ _ h => h) (by rfl) hS ?_ ?_ ?_
  rotate_left 2
  · intro W hSW; go_simp; try with_reducible rfl
  · simp only [List.set_cons_succ, List.set_cons_zero]; rfl
  refine' take_at 18 rfl (by kernel_rfl) (by kernel_rfl) (by kernel_rfl) (fun _ _ _ h => h) (by rfl) hS ?_ ?_ ?_
  rotate_left 2
  · intro W hSW; go_simp; try with_reducible rfl
  · simp only [List.set_cons_succ, List.set_cons_zero]; rfl
  refine' take_at 19 rfl (by kernel_rfl) (by kernel_rfl) (by kernel_rfl) (fun _ _ _ h => h) (by rfl) hS ?_ ?_ ?_
  rotate_left 2
  · intro W hSW; go_simp; try with_reducible rfl
  · simp only [List.set_cons_succ, List.set_cons_zero]; rfl
  refine' take_at 20 rfl (by kernel_rfl) (by kernel_rfl) (by kernel_rfl) (fun _ _ _ h => h) (by rfl) hS ?_ ?_ ?_
  rotate_left 2
  · intro W hSW; go_simp; try with_reducible rfl
  · simp only [List.set_cons_succ, List.set_cons_zero]; rfl
  refine' take_at 21 rfl (by kernel_rfl) (by kernel_rfl) (by kernel_rfl) (fun _ _ _ h => h) (by rfl) hS ?_ ?_ ?_
  rotate_left 2
  · intro W hSW; go_simp; try with_reducible rfl
  · simp only [List.set_cons_succ, List.set_cons_zero]; rfl
  refine' take_at 22 rfl (by kernel_rfl) (by kernel_rfl) (by kernel_rfl) (fun _ _ _ h => h) (by rfl) hS ?_ ?_ ?_
  rotate_left 2
  · intro W hSW; go_simp; try with_reducible rfl
  · simp only [List.set_cons_succ, List.set_cons_zero]; rfl
  refine' take_at 23 rfl (by kernel_rfl) (by kernel_rfl) (by kernel_rfl) (fun _ _ _ h => h) (by rfl) hS ?_ ?_ ?_
  rotate_left 2
  · intro W hSW; go_simp; try with_reducible rfl
  · simp only [List.set_cons_succ, List.set_cons_zero]; rfl
  refine' take_at 24 rfl (by kernel_rfl) (by kernel_rfl) (by kernel_rfl) (fun _ _ _ h => h) (by rfl) hS ?_ ?_ ?_
  rotate_left 2
  · intro W hSW; go_simp; try with_reducible rfl
  · simp only [List.set_cons_succ, List.set_cons_zero]; rfl
  refine call_at 25 rfl (by kernel_rfl) (by rfl) (fun K hK => ?_)
  go_simp
  (with_reducible refine HWR2.out.mono ?_)
  rintro e w10 ⟨r10, u10, rfl, hp10, rfl, ha10, hc10, hd10⟩
  have HP10 := Lib.hid hp10
  have kS10 : Only (fun j => ¬ (j < w.heap.size ∨ At A9 j)) w9 w10 := by obtain ⟨Q, -, ho, -⟩ := hp10; exact ho
  have HE10 : Hid (u10.at_ = z ∧ CalmD u10.x.d 4 ∧ cut u10.x.d.b 0 z = b) := Lib.hid ⟨ha10, hc10, hd10⟩
  clear hS hp10 ha10 hc10 hd10
  refine hK.out _ _ (by exact kS10) (fun hS => ?_)
  clear hK K
  refine' take_at 26 rfl (by kernel_rfl) (by kernel_rfl) (by kernel_rfl) (fun _ _ _ h => h) (by rfl) hS ?_ ?_ ?_
  rotate_left 2
  · intro W hSW; go_simp; try with_reducible rfl
  · simp only [List.set_cons_succ, List.set_cons_zero]; rfl
  refine' take_at 27 rfl (by kernel_rfl) (by kernel_rfl) (by kernel_rfl) (fun _ _ _ h => h) (by rfl) hS ?_ ?_ ?_
  rotate_left 2
  · intro W hSW; go_simp; try with_reducible rfl
  · simp only [List.set_cons_succ, List.set_cons_zero]; rfl
  refine wpAnyH_done (by kernel_rfl) ?_ _
  refine NoPanic.normal ?_
  obtain ⟨sb, Hs⟩ : ∃ sb, Hid (strB b = sb) := ⟨_, rfl⟩
  have hf10 := HSP2.out.kfl HP10.out
  have HPEEK : Hid (∀ W, Below w10.heap.size w10 W → Calls Try.prog 13 #[.pointer (some ⟨g, 0, none⟩), .int .i64 0, .int .i64 (z : Int)] W (RetOb 5 W b)) := Lib.hid fun W hW => by
    have hl := HE10.out.2.1.len
    have hpk := dpeek_any (hf10.below hW) 0 (z : Int) (by omega) (by omega) (by omega) (by omega) (by omega)
    have hpe : peekOf u10.x.d 0 (z : Int) = b := by
      unfold peekOf
      rw [if_pos (by omega), Int.toNat_natCast]
      exact HE10.out.2.2
    rwa [hpe] at hpk
  have HAT : Hid (∀ W, Below w10.heap.size w10 W → Calls Try.prog 27 #[.pointer (some ⟨gc2, 0, none⟩)] W fun e w' => e = .returned (.int .i64 (z : Int)) ∧ W = w') := Lib.hid fun W hW => by
    have := HSP2.out.kat (HSP2.out.klater HP10.out hW)
    rwa [HE10.out.1] at this
  have hwall : Only (fun j => ¬ (j < w.heap.size)) w w10 := Only.of_below (back9 _ kS10)
  have HALL := Lib.hid hwall
  have mB : ∀ W, Below w10.heap.size w10 W → (convert 22 9 (.slice AB z cb)).run Try.prog W = .ok (.string sb) W := fun W hW => conv_now (HBB.out.offs (fun hl j hj q => q (hold HBB.out hl j hj)) (HALL.out.trans (Only.of_below hW))) Hz.out.symm Hs.out
  clear hf10 hwall hS
  go_wp2_with fail
  refine wp_region_noPanic ?_
  refine wp_region_held_drew (S := fun W => Below w10.heap.size w10 W) (by kernel_rfl) (by exact (Below.refl _ _).drew) (fun hS => ?_)
  refine' take_at 0 rfl (by kernel_rfl) (by kernel_rfl) (by kernel_rfl) (fun _ _ _ h => h) (by rfl) hS ?_ ?_ ?_
  rotate_left 2
  · intro W hSW; go_simp; try with_reducible rfl
  · simp only [List.set_cons_succ, List.set_cons_zero]; rfl
  refine' take_at 1 rfl (by kernel_rfl) (by kernel_rfl) (by kernel_rfl) (fun _ _ _ h => h) (by rfl) hS ?_ ?_ ?_
  rotate_left 2
  · intro W hSW; go_simp; try with_reducible rfl
  · simp only [List.set_cons_succ, List.set_cons_zero]; rfl
  refine' take_at 2 rfl (by kernel_rfl) (by kernel_rfl) (by kernel_rfl) (fun _ _ _ h => h) (by rfl) hS ?_ ?_ ?_
  rotate_left 2
  · intro W hSW; go_simp; try with_reducible rfl
  · simp only [List.set_cons_succ, List.set_cons_zero]; rfl
  refine' take_at 5 rfl (by kernel_rfl) (by kernel_rfl) (by kernel_rfl) (fun _ _ _ h => h) (by rfl) hS ?_ ?_ ?_
  rotate_left 2
  · intro W hSW; go_simp; try with_reducible rfl
  · simp only [List.set_cons_succ, List.set_cons_zero]; rfl
  refine' take_at 6 rfl (by kernel_rfl) (by kernel_rfl) (by kernel_rfl) (fun _ _ _ h => h) (by rfl) hS ?_ ?_ ?_
  rotate_left 2
  · intro W hSW; go_simp; try with_reducible rfl
  · simp only [List.set_cons_succ, List.set_cons_zero]; rfl
  refine call_at 3 rfl (by kernel_rfl) (by rfl) (fun K hK => ?_)
  go_simp
  refine (HPEEK.out _ hS).mono ?_
  rintro e w11 ⟨v11, rfl, ho11, hb11⟩
  obtain ⟨A11, c11, rfl, hbs11, -⟩ := ho11.form
  rw [Hz.out]
  have kS11 := below_on hS hb11
  have m11 : ∀ W, Below w11.heap.size w11 W → (convert 22 9 (.slice A11 z c11)).run Try.prog W = .ok (.string sb) W := fun W hW => conv_now (hbs11.below hW) Hz.out.symm Hs.out
  have m11b : ∀ W, Below w11.heap.size w11 W → (convert 22 9 (.slice AB z cb)).run Try.prog W = .ok (.string sb) W := fun W hW => mB W (kS11.trans (hW.mono kS11.size))
  have HX11 := Lib.hid hbs11
  clear hS ho11 hb11 hbs11
  refine hK.out _ _ (by exact kS11) (fun hS => ?_)
  clear hK K
  refine held_mono (S2 := fun W => Below w11.heap.size w11 W) (fun W hW => kS11.trans (hW.mono kS11.size)) _ _ _ _ ?_
  replace hS : Below w11.heap.size w11 w11 := Below.refl _ _
  refine' take_at 4 rfl (by kernel_rfl) (by kernel_rfl) (by kernel_rfl) (fun _ _ _ h => h) (by rfl) hS ?_ ?_ ?_
  rotate_left 2
  · intro W hSW; go_simp; try with_reducible rfl
  · simp only [List.set_cons_succ, List.set_cons_zero]; rfl
  refine' take_at 7 rfl (by kernel_rfl) (by kernel_rfl) (by kernel_rfl) (fun _ _ _ h => h) (by rfl) hS ?_ ?_ ?_
  rotate_left 2
  · intro W hSW; go_simp; try with_reducible rfl
  · simp only [List.set_cons_succ, List.set_cons_zero]; rfl
  refine' take_at 8 rfl (by kernel_rfl) (by kernel_rfl) (by kernel_rfl) (fun _ _ _ h => h) (by rfl) hS ?_ ?_ ?_
  rotate_left 2
  · intro W hSW; go_simp; try with_reducible rfl
  · simp only [List.set_cons_succ, List.set_cons_zero]; rfl
  refine' take_at 9 rfl (by kernel_rfl) (by kernel_rfl) (by kernel_rfl) (fun _ _ _ h => h) (by rfl) hS ?_ ?_ ?_
  rotate_left 2
  · intro W hSW; go_simp; try with_reducible rfl
  · simp only [List.set_cons_succ, List.set_cons_zero]; rfl
  refine' take_at 11 rfl (by kernel_rfl) (by kernel_rfl) (by kernel_rfl) (fun _ _ _ h => h) (by rfl) hS ?_ ?_ ?_
  rotate_left 2
  · intro W hSW; go_simp; try with_reducible rfl
  · simp only [List.set_cons_succ, List.set_cons_zero]; rfl
  refine' take_at 12 rfl (by kernel_rfl) (by kernel_rfl) (by kernel_rfl) (fun _ _ _ h => h) (by rfl) hS ?_ ?_ ?_
  rotate_left 2
  · intro W hSW; go_simp; try with_reducible rfl
  · simp only [List.set_cons_succ, List.set_cons_zero]; rfl
  refine call_at 10 rfl (by kernel_rfl) (by rfl) (fun K hK => ?_)
  go_simp
  refine (HAT.out _ (kS11.trans (hS.mono kS11.size))).mono ?_
  rintro e w' ⟨rfl, rfl⟩
  refine hK.out _ _ (by exact hS) (fun hS => ?_)
  clear hK K
  refine' take_at 13 rfl (by kernel_rfl) (by kernel_rfl) (by kernel_rfl) (fun _ _ _ h => h) (by rfl) hS ?_ ?_ ?_
  rotate_left 2
  · intro W hSW; go_simp; try with_reducible rfl
  · simp only [List.set_cons_succ, List.set_cons_zero]; rfl
  refine' take_at 14 rfl (by kernel_rfl) (by kernel_rfl) (by kernel_rfl) (fun _ _ _ h => h) (by rfl) hS ?_ ?_ ?_
  rotate_left 2
  · intro W hSW; go_simp; try with_reducible rfl
  · simp only [List.set_cons_succ, List.set_cons_zero]; rfl
  refine' take_at 15 rfl (by kernel_rfl) (by kernel_rfl) (by kernel_rfl) (fun _ _ _ h => h) (by rfl) hS ?_ ?_ ?_
  rotate_left 2
  · intro W hSW; go_simp; try with_reducible rfl
  · simp only [List.set_cons_succ, List.set_cons_zero]; rfl
  refine wpAnyH_done (by kernel_rfl) ?_ _
  refine NoPanic.normal ?_
  go_wp2_with fail
  go_ret
  exact ⟨rfl, (HALL.out.trans (Only.of_below (kS11.trans (hS.mono kS11.size)))).below (Nat.le_refl _) (fun j hj hn => hn hj)⟩

set_option maxHeartbeats 1600000 in
theorem law4GoesOn (hnew : NewOk) (AFL : Option Addr) (fl : List UInt8) (cfl : Nat) (AB : Option Addr) (b : List UInt8) (cb : Nat) (k : Int) (w : World)
    (h1 : Bs w AFL fl) (h2 : Bs w AB b) (hcb : b.length ≤ cb) :
    Calls Try.prog 6 #[.slice AFL fl.length cfl, .slice AB b.length cb, .int .i64 k] w fun e w' => e = .returned (.bool true) ∧ Below w.heap.size w w' := by
  by_cases hin : fl.length ≤ 300 ∧ b.length ≤ 4096 ∧ 0 ≤ k ∧ k ≤ b.length
  · obtain ⟨n, rfl⟩ : ∃ n : Nat, k = (n : Int) := ⟨k.toNat, by omega⟩
    exact law4GoesOn_in hnew AFL fl cfl AB b cb n w h1 h2 hcb hin.1 hin.2.1 (by omega)
  · have HNEW := Lib.hid hnew
    obtain ⟨zf, Hfl⟩ : ∃ zf : Nat, (fl.length = zf) := ⟨_, rfl⟩
    obtain ⟨z, Hz⟩ : ∃ z : Nat, (b.length = z) := ⟨_, rfl⟩
    rw [Hfl, Hz] at hin ⊢
    have hq : (decide (300 < (zf : Int)) = true) ∨ (decide (300 < (zf : Int)) = false ∧ decide (4096 < (z : Int)) = true) ∨ (decide (300 < (zf : Int)) = false ∧ decide (4096 < (z : Int)) = false ∧ decide (k < 0) = true) ∨ (decide (300 < (zf : Int)) = false ∧ decide (4096 < (z : Int)) = false ∧ decide (k < 0) = false ∧ decide ((z : Int) < k) = true) := by
      simp only [decide_eq_true_eq, decide_eq_false_iff_not]
      omega
    clear hin h1 h2 hcb Hfl Hz hnew
    rcases hq with q1 | ⟨q1, q2⟩ | ⟨q1, q2, q3⟩ | ⟨q1, q2, q3, q4⟩
    all_goals
      go_enter Try.func6, Try.ntmps6
      go_wp2_with fail
      refine (alive4_any HNEW.out _).mono ?_
      rintro e w1 ⟨rfl, hb1⟩
      have B1 := Lib.hid hb1
      clear hb1
      go_wp2_with fail
      go_ret
      exact ⟨rfl, B1.out⟩
end Go.Proofs.Ytcpkmhhlcmnfdaa

