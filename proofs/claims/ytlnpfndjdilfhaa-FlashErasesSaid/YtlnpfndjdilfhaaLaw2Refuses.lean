/- The walk of FlashRefuses. -/
import Derived.Test.YtlnpfndjdilfhaaLaw2Alive
namespace Go.Proofs.Ytlnpfndjdilfhaa
open Go.RowKit
set_option linter.unusedVariables false

theorem dstepOf_calm (d : Dl) (h : d.armed = false) : dstepOf d = (none, ⟨d.b, d.worn, d.steps + 1, d.off, d.armed, d.after, d.pick⟩) := by
  unfold dstepOf
  rw [h]
  rfl
theorem dwordOf_calm (d : Dl) (h : d.armed = false) (a : Nat) (m : List UInt8) : (dwordOf d a m).1 = 0 ∧ (dwordOf d a m).2.armed = false ∧ (dwordOf d a m).2.off = d.off := by
  unfold dwordOf
  rw [dstepOf_calm d h]
  exact ⟨rfl, h, rfl⟩
theorem dprogTo_calm (d : Dl) (h : d.armed = false) (a : Nat) (m : List UInt8) : ∀ k, (dprogTo d a m k).1 = 0 ∧ (dprogTo d a m k).2.armed = false ∧ (dprogTo d a m k).2.off = d.off
  | 0 => ⟨rfl, h, rfl⟩
  | k + 1 => by
    obtain ⟨h1, h2, h3⟩ := dprogTo_calm d h a m k
    rw [dprogTo, if_pos h1]
    obtain ⟨q1, q2, q3⟩ := dwordOf_calm _ h2 (a + 8 * k) (cut m (8 * k) 8)
    exact ⟨q1, q2, q3.trans h3⟩
/-- programming with nothing armed -/
theorem dprogOf_calm (d : Dl) (ok : DlOk d) (h : d.armed = false) (s : Int) (m : List UInt8) (hst : d.steps + m.length ≤ 4611686018427387904) :
    (dprogOf d s m).2.armed = false ∧ (dprogOf d s m).2.off = d.off ∧ ((dprogOf d s m).1 ≠ 0 → (dprogOf d s m).2 = d) ∧ DlOk (dprogOf d s m).2 ∧ (dprogOf d s m).2.worn = d.worn ∧ (dprogOf d s m).2.steps ≤ d.steps + m.length := by
  unfold dprogOf
  split
  · exact ⟨h, rfl, fun _ => rfl, ok, rfl, by simp; omega⟩
  · split
    · exact ⟨h, rfl, fun _ => rfl, ok, rfl, by simp; omega⟩
    · split
      · exact ⟨h, rfl, fun _ => rfl, ok, rfl, by simp; omega⟩
      · split
        · exact ⟨h, rfl, fun _ => rfl, ok, rfl, by simp; omega⟩
        · obtain ⟨h1, h2, h3⟩ := dprogTo_calm d h s.toNat m (m.length / 8)
          have f := dprogTo_fact d ok s.toNat m (m.length / 8) (by omega) (by omega) (m.length / 8) (Nat.le_refl _)
          exact ⟨h2, h3, fun hne => absurd h1 hne, f.ok, f.worn, by have := f.steps; omega⟩

theorem below_fl {w W W' : World} {g gB gW : Nat} (hb : Below w.heap.size w W) (ho : Only (FlF g gB gW) W W') (h1 : w.heap.size ≤ g) (h2 : w.heap.size ≤ gB) (h3 : w.heap.size ≤ gW) : Below w.heap.size w W' :=
  hb.trans (ho.below hb.size (fun k hk hF => by rcases hF with rfl | rfl | rfl <;> omega))
theorem below_on {w W W' : World} (hb : Below w.heap.size w W) (h : Below W.heap.size W W') : Below w.heap.size w W' := hb.trans (h.mono hb.size)

/-- a broken erase -/
theorem derase_broken (d : Dl) (ok : DlOk d) (hoff : d.off = false) (hw : 0 < d.worn.length) (hst : d.steps + 1 ≤ 4611686018427387904) (hwb : ∀ x ∈ d.worn, x + 1 ≤ 4611686018427387904) :
    ∃ d2, deraseOf ⟨d.b, d.worn, d.steps, d.off, true, 0, []⟩ 0 = (5, d2) ∧ d2.off = true ∧ d2.steps = d.steps + 1 ∧ DlOk d2 := by
  unfold deraseOf
  rw [if_neg (by simp [hoff]), if_pos (by simp; omega)]
  refine ⟨_, rfl, rfl, rfl, ?_⟩
  have hwl := ok.len
  have hs0 := ok.s0
  refine ⟨?_, ?_, ?_, ?_, ?_, ?_, ?_, ?_⟩
  · show (laid _ _ _).length = 1024 * (List.set _ _ _).length
    rw [laid_len, List.length_set]
    exact ok.len
  · show (List.set _ _ _).length ≤ _
    rw [List.length_set]
    exact ok.few
  · intro x hx
    rcases List.mem_or_eq_of_mem_set hx with hx | rfl
    · exact ok.worn x hx
    · have hm : d.worn.getD (Int.toNat 0) 0 ∈ d.worn := by
        have : d.worn.getD (Int.toNat 0) 0 = d.worn[0] := by simp [List.getD, hw]
        rw [this]
        exact List.getElem_mem hw
      have := ok.worn _ hm
      have := hwb _ hm
      show 0 ≤ d.worn.getD (Int.toNat 0) 0 + 1 ∧ d.worn.getD (Int.toNat 0) 0 + 1 ≤ _
      exact ⟨by omega, by omega⟩
  · show 0 ≤ d.steps + 1
    omega
  · exact hst
  · exact Int.le_refl _
  · show (0 : Int) ≤ _
    omega
  · show ([] : List UInt8).length ≤ _
    simp
theorem dread_dark (d : Dl) (h : d.off = true) (a n : Int) : dreadOf d a n = ([], 5) := by unfold dreadOf; rw [if_pos h]
theorem dprog_dark (d : Dl) (h : d.off = true) (s : Int) (m : List UInt8) : dprogOf d s m = (5, d) := by unfold dprogOf; rw [if_pos h]
theorem derase_dark (d : Dl) (h : d.off = true) (s : Int) : deraseOf d s = (5, d) := by unfold deraseOf; rw [if_pos h]

theorem conv_now {w : World} {A : Option Addr} {l : List UInt8} {n c : Nat} {s : ByteArray} (h1 : Bs w A l) (e1 : n = l.length) (hs : strB l = s) : (convert 30 9 (.slice A n c)).run Try.prog w = .ok (.string s) w := by
  rw [← hs]
  exact run_conv_bs w _ 5 _ Try.underlying30 Try.underlying5 Try.underlying9 A l c n h1 e1

def dnew (n : Nat) : Dl := ⟨blanks n, List.replicate n 0, 0, false, false, 0, []⟩
theorem dnew_ok (n : Nat) (h : n ≤ 65536) : DlOk (dnew n) :=
  ⟨by show (blanks n).length = 1024 * (List.replicate n (0 : Int)).length; rw [blanks_len, List.length_replicate], by show (List.replicate n (0 : Int)).length ≤ _; rw [List.length_replicate]; exact h,
    fun x hx => by
      have hx' : x ∈ List.replicate n (0 : Int) := hx
      have := (List.mem_replicate.1 hx').2
      omega, by show (0 : Int) ≤ 0; omega, by show (0 : Int) ≤ _; omega, by show (0 : Int) ≤ 0; omega, by show (0 : Int) ≤ _; omega, by show ([] : List UInt8).length ≤ _; simp⟩

set_option maxRecDepth 100000 in
set_option maxHeartbeats 3200000 in
theorem law2Refuses (a n s : Int) (A : Option Addr) (l : List UInt8) (c : Nat) (w : World) (hb : Bs w A l) (hc : l.length ≤ c) (ha1 : -9223372036854775808 ≤ a) (ha2 : a ≤ 9223372036854775807) (hn1 : -9223372036854775808 ≤ n) (hn2 : n ≤ 9223372036854775807) :
    Calls Try.prog 5 #[.int .i64 a, .int .i64 n, .int .i64 s, .slice A l.length c] w fun e w' => e = .returned (.bool true) ∧ Below w.heap.size w w' := by
  have HN : Hid (∀ W, Calls Try.prog 9 #[.int .i64 2] W (DNewPost W 2)) := Lib.hid (fun W => dnew_any 2 2 W (by show (if (2 : Int) < 1 then 1 else if 256 < (2 : Int) then 256 else 2) = ((2 : Nat) : Int); decide) (by omega) (by omega))
  have mk : ∀ u : World, (Instr.makeSlice 30 (.int .i64 1024) (.int .i64 1024)).run Try.prog u = _ := fun u => make_bytes 1024 (by omega) u
  have HA := Lib.hid hb
  clear hb
  by_cases hl : l.length ≤ 600
  · go_enter Try.func5, Try.ntmps5
    go_wp2_with fail
    refine (alive2_any _).mono ?_
    rintro e w1 ⟨rfl, hb1⟩
    have B1 := Lib.hid hb1
    clear hb1
    go_wp2_with fail
    refine (HN.out _).mono ?_
    rintro e w2 ⟨g, gB, gW, cB, cW, rfl, hf, hb2, hg, hgB, hgW⟩
    have HF := Lib.hid hf
    have B2 := Lib.hid (below_on B1.out hb2)
    have G1 : Hid (w.heap.size ≤ g ∧ w.heap.size ≤ gB ∧ w.heap.size ≤ gW) := Lib.hid (by have := B1.out.size; omega)
    clear hf hb2 hg hgB hgW
    obtain ⟨d, Hd⟩ : ∃ d, Hid (dnew 2 = d) := ⟨_, rfl⟩
    have HF2 : Hid (DevFl w2 g gB gW cB cW d) := by rw [← Hd.out]; exact HF
    have hok : DlOk d := by rw [← Hd.out]; exact dnew_ok 2 (by omega)
    have hdl : d.b.length = 2048 := by rw [← Hd.out]; exact blanks_len 2
    have hds : d.steps = 0 ∧ d.off = false ∧ d.armed = false ∧ d.worn = List.replicate 2 0 := by rw [← Hd.out]; exact ⟨rfl, rfl, rfl, rfl⟩
    clear HF Hd
    -- the first sector is filled
    obtain ⟨z, Hz⟩ : ∃ z, Hid (z = List.replicate 1024 (0 : UInt8)) := ⟨_, rfl⟩
    have hzl : z.length = 1024 := by rw [Hz.out, List.length_replicate]
    have HBz : Hid (Bs (w2.alloc (.cells (madeCells #[.int .u8 0] 1024) 5)) (some ⟨w2.heap.size, 0, none⟩) z) := Lib.hid (by rw [Hz.out]; exact (own_made w2 1024 5 (by omega)).bs)
    have B2a : Hid (Below w2.heap.size w2 (w2.alloc (.cells (madeCells #[.int .u8 0] 1024) 5))) := Lib.hid ((Below.refl _ _).alloc (Nat.le_refl _) _)
    have hsp := dspoil_any (HF2.out.below B2a.out) 0 (some ⟨w2.heap.size, 0, none⟩) z 1024 HBz.out (by omega) (by omega) (by omega) (by omega)
    rw [if_pos (by omega), if_pos (by omega), hzl] at hsp
    obtain ⟨d3, Hd3⟩ : ∃ d3, Hid (dwithB d (laid d.b (Int.toNat 0) z) = d3) := ⟨_, rfl⟩
    rw [Hd3.out] at hsp
    have hok3 : DlOk d3 := by rw [← Hd3.out]; exact hok.withB (laid_len _ _ _)
    have hdl3 : d3.b.length = 2048 := by rw [← Hd3.out]; exact (laid_len _ _ _).trans hdl
    have hds3 : d3.steps = 0 ∧ d3.off = false ∧ d3.armed = false ∧ d3.worn = List.replicate 2 0 := by rw [← Hd3.out]; exact hds
    have HSP := Lib.hid hsp
    have HOK3 := Lib.hid hok3
    have HDL3 := Lib.hid hdl3
    have HDS3 := Lib.hid hds3
    clear hsp hok3 hdl3 hds3 hds hdl hok hzl
    go_wp2_with fail
    refine HSP.out.mono ?_
    rintro e w3 ⟨rfl, hf, ho⟩
    have HF3 := Lib.hid hf
    have B3 := Lib.hid (below_fl (below_on B2.out B2a.out) (ho.toF (g := g) (gB := gB) (gW := gW) (fun k hk => .inr (.inl hk))) G1.out.1 G1.out.2.1 G1.out.2.2)
    clear hf ho
    -- what stands
    have HPK := Lib.hid (dpeek_any HF3.out 0 2048 (by omega) (by omega) (by omega) (by omega) (by have := HDL3.out; omega))
    obtain ⟨p3, Hp3⟩ : ∃ p, Hid (peekOf d3 0 2048 = p) := ⟨_, rfl⟩
    rw [Hp3.out] at HPK
    go_wp2_with fail
    refine HPK.out.mono ?_
    rintro e w4 ⟨v, rfl, ho, hb4⟩
    obtain ⟨A4, c4, rfl, hbs4, -⟩ := ho.form
    have HBS4 := Lib.hid hbs4
    have B4 := Lib.hid (below_on B3.out hb4)
    have HF4 := Lib.hid (HF3.out.below hb4)
    have HO4 := Lib.hid (off_new HF3.out ho.fresh (l := p3))
    clear ho hb4 hbs4 HPK HF3
    -- programmed, or refused
    have hst3 : d3.steps + l.length ≤ 4611686018427387904 := by have := HDS3.out.1; omega
    have HPR := Lib.hid (dprog_any HF4.out HOK3.out a A l c (HA.out.below B4.out) (off_old G1.out.1 G1.out.2.1 G1.out.2.2 HA.out) hc (by omega) (by omega) (by omega) hst3)
    have hcalm := dprogOf_calm d3 HOK3.out HDS3.out.2.2.1 a l hst3
    obtain ⟨ec, d5, Hd5⟩ : ∃ ec d5, Hid (dprogOf d3 a l = (ec, d5)) := ⟨_, _, rfl⟩
    rw [Hd5.out] at HPR hcalm
    have HC := Lib.hid hcalm
    clear hcalm hst3
    go_wp2_with fail
    refine HPR.out.mono ?_
    rintro e w5 ⟨rfl, hf, ho⟩
    have HF5 : Hid (DevFl w5 g gB gW cB cW d5) := hf
    have HBS5 : Hid (Bs w5 A4 p3) := Lib.hid (HBS4.out.offs HO4.out ho)
    have B5 := Lib.hid (below_fl B4.out ho G1.out.1 G1.out.2.1 G1.out.2.2)
    clear hf ho HPR HBS4 HF4
    have HOK5 : Hid (DlOk d5) := Lib.hid HC.out.2.2.2.1
    obtain ⟨st, Hst⟩ : ∃ st, Hid (d5.steps = st) := ⟨_, rfl⟩
    have hst0 : 0 ≤ st := by rw [← Hst.out]; exact HOK5.out.s0
    have hst1 : st ≤ 600 := by rw [← Hst.out]; have := HC.out.2.2.2.2.2; have := HDS3.out.1; simp at *; omega
    have HW5 : Hid (d5.worn = List.replicate 2 0) := Lib.hid (HC.out.2.2.2.2.1.trans HDS3.out.2.2.2)
    have HL5 : Hid (d5.b.length = 2048) := Lib.hid (by have := HOK5.out.len; rw [HW5.out] at this; simpa using this)
    have HOF5 : Hid (d5.off = false ∧ d5.armed = false) := Lib.hid ⟨HC.out.2.1.trans HDS3.out.2.1, HC.out.1⟩
    have HSM : Hid (ec ≠ 0 → d5 = d3) := Lib.hid HC.out.2.2.1
    -- what stands now
    have HPK := Lib.hid (dpeek_any HF5.out 0 2048 (by omega) (by omega) (by omega) (by omega) (by have := HL5.out; omega))
    obtain ⟨p5, Hp5⟩ : ∃ p, Hid (peekOf d5 0 2048 = p) := ⟨_, rfl⟩
    rw [Hp5.out] at HPK
    go_wp2_with fail
    refine HPK.out.mono ?_
    rintro e w6 ⟨v, rfl, ho, hb6⟩
    obtain ⟨A6, c6, rfl, hbs6, -⟩ := ho.form
    have HBS6 := Lib.hid hbs6
    have B6 := Lib.hid (below_on B5.out hb6)
    have HF6 := Lib.hid (HF5.out.below hb6)
    have HO6 := Lib.hid (off_new HF5.out ho.fresh (l := p5))
    have HB46 : Hid (Bs w6 A4 p3) := Lib.hid (HBS5.out.below hb6)
    clear ho hb6 hbs6 HPK HF5 HBS5
    -- the steps
    have HS6 : Hid (Calls Try.prog 13 #[.pointer (some ⟨g, 0, none⟩)] w6 fun e w' => e = .returned (.int .i64 st) ∧ w6 = w') := Lib.hid (by rw [← Hst.out]; exact dsteps_any HF6.out)
    go_wp2_with fail
    refine HS6.out.mono ?_
    rintro e w' ⟨rfl, rfl⟩
    clear HS6
    -- armed
    have HAR := Lib.hid (darm_any HF6.out 0 none [] 0 (Bs.nil_ _ _) (Nat.le_refl _) (by simp))
    rw [show darmOf d5 0 [] = ⟨d5.b, d5.worn, d5.steps, d5.off, true, 0, []⟩ from rfl] at HAR
    go_wp2_with fail
    refine HAR.out.mono ?_
    rintro e w7 ⟨rfl, hf, ho⟩
    have HF7 := Lib.hid hf
    have ho' := ho.toF (g := g) (gB := gB) (gW := gW) (fun k hk => .inl hk)
    have B7 := Lib.hid (below_fl B6.out ho' G1.out.1 G1.out.2.1 G1.out.2.2)
    have HB47 : Hid (Bs w7 A4 p3) := Lib.hid (HB46.out.offs HO4.out ho')
    have HB67 : Hid (Bs w7 A6 p5) := Lib.hid (HBS6.out.offs HO6.out ho')
    clear hf ho ho' HAR HF6 HB46 HBS6
    -- broken
    obtain ⟨d8, hd8, hof8, hst8, hok8⟩ := derase_broken d5 HOK5.out HOF5.out.1 (by rw [HW5.out]; simp) (by rw [Hst.out]; omega) (by rw [HW5.out]; intro x hx; have := (List.mem_replicate.1 hx).2; omega)
    have HER := derase_any HF7.out ⟨HOK5.out.len, HOK5.out.few, HOK5.out.worn, HOK5.out.s0, HOK5.out.s1, by show (0 : Int) ≤ 0; omega, by show (0 : Int) ≤ _; omega, by show ([] : List UInt8).length ≤ _; simp⟩ 0
    rw [hd8] at HER
    have HER2 := Lib.hid HER
    have HOF8 := Lib.hid hof8
    have HST8 : Hid (d8.steps = st + 1) := Lib.hid (by rw [hst8, Hst.out])
    have HOK8 := Lib.hid hok8
    clear HER hd8 hof8 hst8 hok8
    go_wp2_with fail
    refine HER2.out.mono ?_
    rintro e w8 ⟨rfl, hf, ho⟩
    have HF8 : Hid (DevFl w8 g gB gW cB cW d8) := hf
    have B8 := Lib.hid (below_fl B7.out ho G1.out.1 G1.out.2.1 G1.out.2.2)
    have HB48 : Hid (Bs w8 A4 p3) := Lib.hid (HB47.out.offs HO4.out ho)
    have HB68 : Hid (Bs w8 A6 p5) := Lib.hid (HB67.out.offs HO6.out ho)
    clear hf ho HER2 HF7 HB47 HB67
    have hl8 : d8.b.length ≤ 67108864 := by have := HOK8.out.len; have := HOK8.out.few; omega
    -- dark: nothing is read
    have HRD := dread_any HF8.out a n ha1 ha2 hn1 hn2 (by omega)
    rw [dread_dark d8 HOF8.out] at HRD
    have HRD2 := Lib.hid HRD
    clear HRD
    go_wp2_with fail
    refine HRD2.out.mono ?_
    rintro e w9 ⟨v9, rfl, -, hb9⟩
    have HF9 := Lib.hid (HF8.out.below hb9)
    have B9 := Lib.hid (below_on B8.out hb9)
    have HB49 : Hid (Bs w9 A4 p3) := Lib.hid (HB48.out.below hb9)
    have HB69 : Hid (Bs w9 A6 p5) := Lib.hid (HB68.out.below hb9)
    clear hb9 HRD2 HF8 HB48 HB68
    -- .. nor programmed
    have HPR := dprog_any HF9.out HOK8.out a A l c (HA.out.below B9.out) (off_old G1.out.1 G1.out.2.1 G1.out.2.2 HA.out) hc (by omega) (by omega) (by omega) (by rw [HST8.out]; omega)
    rw [dprog_dark d8 HOF8.out] at HPR
    have HPR2 := Lib.hid HPR
    clear HPR
    go_wp2_with fail
    refine HPR2.out.mono ?_
    rintro e w10 ⟨rfl, hf, ho⟩
    have HF10 : Hid (DevFl w10 g gB gW cB cW d8) := hf
    have B10 := Lib.hid (below_fl B9.out ho G1.out.1 G1.out.2.1 G1.out.2.2)
    have HB410 : Hid (Bs w10 A4 p3) := Lib.hid (HB49.out.offs HO4.out ho)
    have HB610 : Hid (Bs w10 A6 p5) := Lib.hid (HB69.out.offs HO6.out ho)
    clear hf ho HPR2 HF9 HB49 HB69
    -- .. nor erased
    have HER := derase_any HF10.out HOK8.out s
    rw [derase_dark d8 HOF8.out] at HER
    have HER2 := Lib.hid HER
    clear HER
    go_wp2_with fail
    refine HER2.out.mono ?_
    rintro e w11 ⟨rfl, hf, ho⟩
    have HF11 : Hid (DevFl w11 g gB gW cB cW d8) := hf
    have B11 := Lib.hid (below_fl B10.out ho G1.out.1 G1.out.2.1 G1.out.2.2)
    have HB411 : Hid (Bs w11 A4 p3) := Lib.hid (HB410.out.offs HO4.out ho)
    have HB611 : Hid (Bs w11 A6 p5) := Lib.hid (HB610.out.offs HO6.out ho)
    clear hf ho HER2 HF10 HB410 HB610
    -- the verdict
    have HOFF : Hid (Calls Try.prog 12 #[.pointer (some ⟨g, 0, none⟩)] w11 fun e w' => e = .returned (.bool true) ∧ w11 = w') := Lib.hid (by rw [← HOF8.out]; exact doff_any HF11.out)
    have HSTP : Hid (Calls Try.prog 13 #[.pointer (some ⟨g, 0, none⟩)] w11 fun e w' => e = .returned (.int .i64 (st + 1)) ∧ w11 = w') := Lib.hid (by rw [← HST8.out]; exact dsteps_any HF11.out)
    by_cases h0 : ec = 0
    · subst h0
      go_wp2_with (first
        | (go_at_call 21; refine (num2_any _ _).mono ?_; rintro e w4 ⟨rfl, rfl⟩)
        | (go_at_call 12; refine HOFF.out.mono ?_; rintro e w4 ⟨rfl, rfl⟩)
        | (go_at_call 13; refine HSTP.out.mono ?_; rintro e w4 ⟨rfl, rfl⟩))
      go_ret
      exact ⟨rfl, B11.out⟩
    · have hst2 : st = 0 := by rw [← Hst.out, HSM.out h0]; exact HDS3.out.1
      have hp : p5 = p3 := by rw [← Hp5.out, ← Hp3.out, HSM.out h0]
      subst hst2
      subst hp
      obtain ⟨sb, Hsb⟩ : ∃ sb, Hid (strB p5 = sb) := ⟨_, rfl⟩
      have k4 : (convert 30 9 (.slice A4 p5.length c4)).run Try.prog w11 = .ok (.string sb) w11 := conv_now HB411.out rfl Hsb.out
      have k6 : (convert 30 9 (.slice A6 p5.length c6)).run Try.prog w11 = .ok (.string sb) w11 := conv_now HB611.out rfl Hsb.out
      have he : (ec == 0) = false := by simpa using h0
      clear h0
      go_wp2_with (first
        | (go_at_call 21; refine (num2_any _ _).mono ?_; rintro e w4 ⟨rfl, rfl⟩)
        | (go_at_call 12; refine HOFF.out.mono ?_; rintro e w4 ⟨rfl, rfl⟩)
        | (go_at_call 13; refine HSTP.out.mono ?_; rintro e w4 ⟨rfl, rfl⟩))
      go_ret
      exact ⟨rfl, B11.out⟩
  · have hl2 : ¬ ((l.length : Int) ≤ 600) := by omega
    go_enter Try.func5, Try.ntmps5
    go_wp2_with (go_at_call 7; refine (alive2_any _).mono ?_; rintro e w1 ⟨rfl, hb1⟩; have B1 := Lib.hid hb1; clear hb1)
    go_ret
    exact ⟨rfl, B1.out⟩
end Go.Proofs.Ytlnpfndjdilfhaa
