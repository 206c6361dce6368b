/- The contracts of bootjacklaw2.num and alive. -/
import Derived.Test.YtlnpfndjdilfhaaDevProg
import Derived.Test.YtlnpfndjdilfhaaArgs
namespace Go.Proofs.Ytlnpfndjdilfhaa
open Go.RowKit
set_option linter.unusedVariables false

theorem conv_now {w : World} {A : Option Addr} {l : List UInt8} {n c : Nat} {s : ByteArray} (h1 : Bs w A l) (e1 : n = l.length) (hs : strB l = s) : (convert 30 9 (.slice A n c)).run Try.prog w = .ok (.string s) w := by
  rw [← hs]
  exact run_conv_bs w _ 5 _ Try.underlying30 Try.underlying5 Try.underlying9 A l c n h1 e1

theorem below_fl {w W W' : World} {g gB gW : Nat} (hb : Below w.heap.size w W) (ho : Only (FlF g gB gW) W W') (h1 : w.heap.size ≤ g) (h2 : w.heap.size ≤ gB) (h3 : w.heap.size ≤ gW) : Below w.heap.size w W' :=
  hb.trans (ho.below hb.size (fun k hk hF => by rcases hF with rfl | rfl | rfl <;> omega))

theorem num2_any (n : Int) (w : World) : Calls Try.prog 21 #[.int .i64 n] w fun e w' => e = .returned (.int .i64 n) ∧ w = w' := by
  go_enter Try.func21, Try.ntmps21
  go_wp2
  go_ret
  exact ⟨rfl, rfl⟩

/-- what lies in a block of its own is off the flash -/
theorem off_new {w : World} {g gB gW cB cW N : Nat} {d : Dl} (h : DevFl w g gB gW cB cW N d) {A : Option Addr} {l : List UInt8} (hA : ∀ k, At A k → w.heap.size ≤ k) : Off (FlF g gB gW) A l := fun _ k hk hF => by
  have := hA k hk
  obtain ⟨h1, h2, h3⟩ := h.blk
  rcases hF with rfl | rfl | rfl <;> omega

/-- what was there before the flash is off it -/
theorem off_old {w : World} {g gB gW : Nat} (h1 : w.heap.size ≤ g) (h2 : w.heap.size ≤ gB) (h3 : w.heap.size ≤ gW) {A : Option Addr} {l : List UInt8} (hA : Bs w A l) : Off (FlF g gB gW) A l := fun hl k hk hF => by
  obtain ⟨b, o, rfl, hc⟩ := hA hl
  obtain ⟨a, e, rfl⟩ := hk
  injection e with e
  subst e
  have := World.block_lt_of_cell? w _ (hc 0 hl)
  rcases hF with e | e | e <;> simp at e this <;> omega

theorem bs_lit (w : World) (E : TypeId) (l : List UInt8) : Bs (w.alloc (.cells (l.map bval).toArray E)) (some ⟨w.heap.size, 0, none⟩) l := fun _ =>
  ⟨_, _, rfl, fun j hj => by
    have := heap_alloc_new w (.cells (l.map bval).toArray E)
    rw [cell_of_row _ _ _ _ _ _ this]
    simp [hj, bval, List.getD]⟩

theorem getD_rep (n i : Nat) (x : UInt8) (h : i < n) : (List.replicate n x).getD i 0 = x := by simp [List.getD, h]

theorem cut_self (l : List UInt8) : cut l 0 l.length = l := by simp [cut]
theorem alive_math (b : List UInt8) (wn : List Int) (hb : b.length = 1024) (hw : wn.length = 1) (hw0 : ∀ x ∈ wn, x = 0) (hb0 : ∀ i, i < 8 → b.getD i 0 = 255) (z : List UInt8) (hz : z = List.replicate 8 0) :
    DlOk ⟨b, wn, 0, false, false, 0, []⟩ ∧ ∃ d1 : Dl, dprogOf ⟨b, wn, 0, false, false, 0, []⟩ 0 z = (0, d1) ∧ d1.b.length = 1024 ∧ d1.steps = 1 ∧ DlOk d1 ∧ dprogOf d1 0 [1, 1, 1, 1, 1, 1, 1, 1] = (4, d1) := by
  have ok0 : DlOk ⟨b, wn, 0, false, false, 0, []⟩ := ⟨by simp [hb, hw], by simp [hw], fun x hx => by have := hw0 x hx; omega, by simp, by simp, by simp, by simp, by simp⟩
  have hzl : z.length = 8 := by rw [hz]; simp
  have ok1 : DlOk ⟨laid b 0 z, wn, 1, false, false, 0, []⟩ := ⟨by simp [hb, hw, laid_len], by simp [hw], fun x hx => by have := hw0 x hx; omega, by simp, by simp, by simp, by simp, by simp⟩
  refine ⟨ok0, ⟨laid b 0 z, wn, 1, false, false, 0, []⟩, ?_, by simp [laid_len, hb], rfl, ok1, ?_⟩
  · unfold dprogOf
    rw [if_neg (by simp), if_neg (by simp [hb, hzl]), if_neg (by simp [hzl]), if_neg]
    · rw [hzl]
      show dprogTo _ 0 z 1 = _
      have hc : cut z 0 8 = z := by rw [← hzl]; exact cut_self z
      rw [dprogTo, if_pos (show (dprogTo ⟨b, wn, 0, false, false, 0, []⟩ 0 z 0).1 = 0 from rfl)]
      show dwordOf _ 0 (cut z 0 8) = _
      rw [hc]
      rfl
    · rw [Bool.not_eq_false]
      refine canB_true (by rw [cut_len (by simp [hb, hzl])]) fun i hi => ?_
      rw [cut_len (by simp [hb, hzl]), hzl] at hi
      rw [hz, getD_rep _ _ _ hi]
      simp
  · have hl : (laid b 0 z).length = 1024 := by rw [laid_len, hb]
    unfold dprogOf
    rw [if_neg (by simp), if_neg (by simp [hl]), if_neg (by simp), if_pos]
    refine canB_false (k := 0) (by rw [cut_len (by simp [hl])]; simp) ?_
    rw [cut_get (by simp)]
    show _ &&& ~~~((laid b 0 z).getD 0 0) ≠ 0
    rw [laid_get (by omega), if_pos (by omega), hz, getD_rep _ _ _ (by omega)]
    decide
theorem blanks_get {n i : Nat} (h : i < 1024 * n) : (blanks n).getD i 0 = 255 := getD_rep _ _ _ h

set_option maxRecDepth 100000 in
set_option maxHeartbeats 400000 in
theorem alive2_any (w : World) : Calls Try.prog 7 #[] w fun e w' => e = .returned (.bool true) ∧ Below w.heap.size w w' := by
  have HN : Hid (Calls Try.prog 9 #[.int .i64 1] w (DNewPost w 1)) := Lib.hid (dnew_any 1 1 w (by show (if (1 : Int) < 1 then 1 else if 256 < (1 : Int) then 256 else 1) = ((1 : Nat) : Int); decide) (by omega) (by omega))
  have mk : ∀ u : World, (Instr.makeSlice 30 (.int .i64 8) (.int .i64 8)).run Try.prog u = _ := fun u => make_bytes 8 (by omega) u
  go_enter Try.func7, Try.ntmps7
  go_wp2_with (go_at_call 9; refine HN.out.mono ?_; rintro e w1 ⟨g, gB, gW, cB, cW, rfl, hf, hb, hg, hgB, hgW⟩; have HF := Lib.hid (hf 0); have HB := Lib.hid hb; clear hf hb)
  obtain ⟨z, Hz⟩ : ∃ z, Hid (z = List.replicate 8 (0 : UInt8)) := ⟨_, rfl⟩
  have hM := alive_math (blanks 1) (List.replicate 1 0) (blanks_len 1) (by simp) (by intro x hx; simp at hx; exact hx) (fun i hi => blanks_get (by omega)) z Hz.out
  obtain ⟨bb, Hbb⟩ : ∃ bb, Hid (blanks 1 = bb) := ⟨_, rfl⟩
  obtain ⟨wn, Hwn⟩ : ∃ wn, Hid (List.replicate 1 (0 : Int) = wn) := ⟨_, rfl⟩
  rw [Hbb.out, Hwn.out] at HF hM
  obtain ⟨ok0, dd, hd1, hdl, hds, ok1, hd2⟩ := hM
  have HD1 := Lib.hid hd1
  have HD2 := Lib.hid hd2
  have Hdl := Lib.hid hdl
  have Hds := Lib.hid hds
  clear hd1 hd2 hdl hds
  have HB1 := Lib.hid (((own_made w1 8 5 (by omega)).low (Nat.zero_le _)).bs)
  rw [← Hz.out] at HB1
  have hzl : Hid (z.length = 8) := Lib.hid (by rw [Hz.out]; simp)
  have hoff : Hid (Off (FlF g gB gW) (some ⟨w1.heap.size, 0, none⟩) z) := Lib.hid (off_new HF.out (by rintro k ⟨a, e, rfl⟩; injection e with e; subst e; exact Nat.le_refl _))
  have hwz : Hid (Below w1.heap.size w1 (w1.alloc (.cells (madeCells #[.int .u8 0] 8) 5))) := Lib.hid ((Below.refl _ _).alloc (Nat.le_refl _) _)
  have HP1 : Hid (∀ W, W = w1.alloc (.cells (madeCells #[.int .u8 0] 8) 5) → Calls Try.prog 24 #[.pointer (some ⟨g, 0, none⟩), .int .i64 0, .slice (some ⟨w1.heap.size, 0, none⟩) 8 8] W (DErasePost W g gB gW cB cW 0 (0, dd))) := Lib.hid (fun W hW => by
    subst hW
    have := dprog_any (HF.out.below hwz.out) ok0 0 (some ⟨w1.heap.size, 0, none⟩) z 8 HB1.out hoff.out (by rw [hzl.out]; omega) (by omega) (by omega) (by rw [hzl.out]; omega) (by rw [hzl.out]; simp)
    rw [hzl.out, HD1.out] at this
    exact this)
  go_wp2_with fail
  refine (HP1.out _ rfl).mono ?_
  rintro e w2 ⟨rfl, hf2, ho2⟩
  have HF2 := Lib.hid hf2
  have HO2 := Lib.hid ho2
  clear hf2 ho2
  have HBB : Hid (Below w.heap.size w w2) := Lib.hid ((HB.out.trans (hwz.out.mono HB.out.size)).trans (HO2.out.below (by have := HB.out.size; have := hwz.out.size; omega) (fun k hk hF => by rcases hF with rfl | rfl | rfl <;> omega)))
  have HB2 : Hid (Bs (w2.alloc (.cells #[.int .u8 1, .int .u8 1, .int .u8 1, .int .u8 1, .int .u8 1, .int .u8 1, .int .u8 1, .int .u8 1] 5)) (some ⟨w2.heap.size, 0, none⟩) [1, 1, 1, 1, 1, 1, 1, 1]) := Lib.hid (bs_lit w2 5 [1, 1, 1, 1, 1, 1, 1, 1])
  have hoff2 : Hid (Off (FlF g gB gW) (some ⟨w2.heap.size, 0, none⟩) [1, 1, 1, 1, 1, 1, 1, 1]) := Lib.hid (off_new HF2.out (by rintro k ⟨a, e, rfl⟩; injection e with e; subst e; exact Nat.le_refl _))
  have hwz2 : Hid (Below w2.heap.size w2 (w2.alloc (.cells #[.int .u8 1, .int .u8 1, .int .u8 1, .int .u8 1, .int .u8 1, .int .u8 1, .int .u8 1, .int .u8 1] 5))) := Lib.hid ((Below.refl _ _).alloc (Nat.le_refl _) _)
  have HP2 : Hid (∀ W, W = w2.alloc (.cells #[.int .u8 1, .int .u8 1, .int .u8 1, .int .u8 1, .int .u8 1, .int .u8 1, .int .u8 1, .int .u8 1] 5) → Calls Try.prog 24 #[.pointer (some ⟨g, 0, none⟩), .int .i64 0, .slice (some ⟨w2.heap.size, 0, none⟩) 8 8] W (DErasePost W g gB gW cB cW 0 (4, dd))) := Lib.hid (fun W hW => by
    subst hW
    have := dprog_any (HF2.out.below hwz2.out) ok1 0 (some ⟨w2.heap.size, 0, none⟩) [1, 1, 1, 1, 1, 1, 1, 1] 8 HB2.out hoff2.out (by decide) (by omega) (by omega) (by decide) (by have := Hds.out; simp; omega)
    rw [HD2.out] at this
    exact this)
  go_wp2_with fail
  refine (HP2.out _ rfl).mono ?_
  rintro e w3 ⟨rfl, hf3, ho3⟩
  have HF3 := Lib.hid hf3
  have HO3 := Lib.hid ho3
  clear hf3 ho3
  have HBC : Hid (Below w.heap.size w w3) := Lib.hid ((HBB.out.trans (hwz2.out.mono HBB.out.size)).trans (HO3.out.below (by have := HBB.out.size; have := hwz2.out.size; omega) (fun k hk hF => by rcases hF with rfl | rfl | rfl <;> omega)))
  have HZ : Hid (Calls Try.prog 16 #[.pointer (some ⟨g, 0, none⟩)] w3 fun e w' => e = .returned (.int .i64 1024) ∧ w3 = w') := Lib.hid (by
    have := dsize_any HF3.out
    have e : ((4, dd) : Int × Dl).2.b.length = 1024 := Hdl.out
    rw [e] at this
    exact this)
  have HS : Hid (Calls Try.prog 13 #[.pointer (some ⟨g, 0, none⟩)] w3 fun e w' => e = .returned (.int .i64 1) ∧ w3 = w') := Lib.hid (by
    have := dsteps_any HF3.out
    have e : ((4, dd) : Int × Dl).2.steps = 1 := Hds.out
    rw [e] at this
    exact this)
  go_wp2_with (first
    | (go_at_call 21; refine (num2_any _ _).mono ?_; rintro e w4 ⟨rfl, rfl⟩)
    | (go_at_call 16; refine HZ.out.mono ?_; rintro e w4 ⟨rfl, rfl⟩)
    | (go_at_call 13; refine HS.out.mono ?_; rintro e w4 ⟨rfl, rfl⟩))
  go_ret
  exact ⟨rfl, HBC.out⟩
end Go.Proofs.Ytlnpfndjdilfhaa
