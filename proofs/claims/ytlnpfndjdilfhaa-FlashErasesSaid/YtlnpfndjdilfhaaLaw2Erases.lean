/- The walk of FlashErases. -/
import Derived.Test.YtlnpfndjdilfhaaLaw2Refuses
import Derived.Test.YtlnpfndjdilfhaaNorIsBlank
import Derived.Test.YtlnpfndjdilfhaaNorRisen
import Derived.Deep.QuietTactic
import Derived.BigQuiet
namespace Go.Proofs.Ytlnpfndjdilfhaa
open Go.RowKit
set_option linter.unusedVariables false

/-- fill, over and over, k bytes -/
def rolled (l : List UInt8) (k : Nat) : List UInt8 := (List.range k).map fun i => l.getD (i % l.length) 0
theorem rolled_len (l : List UInt8) (k : Nat) : (rolled l k).length = k := by simp [rolled]
theorem rolled_succ (l : List UInt8) (k : Nat) : rolled l k ++ [l.getD (k % l.length) 0] = rolled l (k + 1) := by
  simp [rolled, List.range_succ]

theorem laid_all {l s : List UInt8} (h : s.length = l.length) : laid l 0 s = s := by
  apply list_ext_getD (by rw [laid_len]; exact h.symm)
  intro i hi
  rw [laid_len] at hi
  rw [laid_get hi, if_pos (by omega), Nat.sub_zero]
theorem cut_all (l : List UInt8) : cut l 0 l.length = l := cut_self l
theorem take_laid {l s : List UInt8} {a k : Nat} (h : k ≤ a) : (laid l a s).take k = l.take k := by
  apply List.ext_getElem?
  intro i
  simp only [List.getElem?_take]
  by_cases hi : i < k
  · rw [if_pos hi, if_pos hi]
    by_cases hl : i < l.length
    · have := laid_get (a := a) (s := s) hl
      rw [if_neg (by omega)] at this
      simpa [List.getD, List.getElem?_eq_getElem, hl, laid_len] using this
    · rw [List.getElem?_eq_none (by rw [laid_len]; omega), List.getElem?_eq_none (by omega)]
  · rw [if_neg hi, if_neg hi]
theorem drop_laid {l s : List UInt8} {a k : Nat} (h : a + s.length ≤ k) : (laid l a s).drop k = l.drop k := by
  apply List.ext_getElem?
  intro i
  simp only [List.getElem?_drop]
  by_cases hl : k + i < l.length
  · have := laid_get (a := a) (s := s) hl
    rw [if_neg (by omega)] at this
    simpa [List.getD, List.getElem?_eq_getElem, hl, laid_len] using this
  · rw [List.getElem?_eq_none (by rw [laid_len]; omega), List.getElem?_eq_none (by omega)]
theorem cut_laid {l s : List UInt8} {a : Nat} (h : a + s.length ≤ l.length) : cut (laid l a s) a s.length = s := by
  apply list_ext_getD (by rw [cut_len (by rw [laid_len]; exact h)])
  intro i hi
  rw [cut_len (by rw [laid_len]; exact h)] at hi
  rw [cut_get hi, laid_get (by omega), if_pos (by omega), Nat.add_sub_cancel_left]
theorem canB_halfs (l p : List UInt8) : canB (halfB l p) l = true := by
  refine canB_true (halfB_len l p) fun i hi => ?_
  rw [halfB_len] at hi
  unfold halfB
  rw [getD_map_range _ _ _ hi, tz_and]
  rw [← UInt8.or_assoc, UInt8.or_self]
theorem worn3 (x : Nat) (hx : x ≤ 2) : (List.replicate 3 (0 : Int)).getD x 0 = 0 ∧ ((List.replicate 3 (0 : Int)).set x 1).getD x 0 = 1 :=
  match x, hx with
  | 0, _ => ⟨rfl, rfl⟩
  | 1, _ => ⟨rfl, rfl⟩
  | 2, _ => ⟨rfl, rfl⟩

/-- what an armed erase leaves -/
theorem erases_math (O p : List UInt8) (wn : List Int) (st after : Int) (x : Nat) (hO : O.length = 3072) (hx : x ≤ 2) (hwn : wn = List.replicate 3 0) (h5 : 0 ≤ after) :
    ∃ ec d5 seg, deraseOf ⟨O, wn, st, false, true, after, p⟩ (x : Int) = (ec, d5) ∧ d5.b = laid O (1024 * x) seg ∧ seg.length = 1024 ∧ d5.worn.length = 3 ∧ wornAt d5.worn (x : Int) = 1 ∧
      (0 < after → ec = 0 ∧ seg.all (· == 255) = true) ∧ (¬ 0 < after → ec = 5 ∧ d5.off = true ∧ canB seg (cut O (1024 * x) 1024) = true) := by
  have hw3 : wn.length = 3 := by rw [hwn]; rfl
  have hwx : wn.getD x 0 = 0 := by rw [hwn]; exact (worn3 x hx).1
  have hwa : wornAt (wn.set x (wn.getD x 0 + 1)) (x : Int) = 1 := by
    unfold wornAt
    rw [if_pos (by rw [List.length_set]; omega), Int.toNat_natCast, hwx, hwn]
    exact (worn3 x hx).2
  unfold deraseOf
  rw [if_neg (by simp), if_pos (by simp only [hw3]; omega), Int.toNat_natCast]
  unfold deraseIn dstepOf dwithW
  simp only [if_true]
  by_cases h : 0 < after
  · rw [if_pos h]
    exact ⟨0, _, List.replicate 1024 255, rfl, rfl, List.length_replicate, by show (List.set _ _ _).length = 3; rw [List.length_set, hw3], hwa, fun _ => ⟨rfl, by rw [List.all_eq_true]; intro y hy; rw [(List.mem_replicate.1 hy).2]; rfl⟩, fun hn => absurd h hn⟩
  · rw [if_neg h]
    exact ⟨5, _, halfB (cut O (1024 * x) 1024) p, rfl, rfl, by rw [halfB_len, cut_len (by omega)], by show (List.set _ _ _).length = 3; rw [List.length_set, hw3], hwa, fun hp => absurd hp h, fun _ => ⟨rfl, rfl, canB_halfs _ _⟩⟩

theorem Ob.formN {E : TypeId} {w : World} {base n : Nat} {v : Value} {l : List UInt8} (h : Ob E w base v l) (hn : l.length = n) (hpos : 0 < n) :
    ∃ g c, v = .slice (some ⟨g, 0, none⟩) n c ∧ Bs w (some ⟨g, 0, none⟩) l ∧ n ≤ c ∧ base ≤ g := by
  subst hn
  obtain ⟨A, c, rfl, hb, hf⟩ := h.form
  rcases hf with rfl | ⟨g, rfl, hle, -⟩
  · obtain ⟨b, o, e, -⟩ := hb hpos
    cases e
  · exact ⟨g, c, rfl, hb, h.cap, hle⟩

/-- a quiet call behind a quiet region -/
theorem quiet_on {P : Program} {f : FuncId} {args : Array Value} {w : World} {v : Value} (h : ∀ k, Calls P f args (w.drewN k) fun e w' => e = .returned v ∧ ∃ m, w' = (w.drewN k).drewN m) (a n : Nat) :
    Calls P f args (w.drewN (a + n)) fun e w'' => e = .returned v ∧ ∃ m, w'' = w.drewN (a + m) :=
  (h (a + n)).mono fun _ _ ⟨he, m, hm⟩ => ⟨he, n + m, by rw [hm, World.drewN_drewN, Nat.add_assoc]⟩

/-- is it asked at all? -/
def EAsk (l p : List UInt8) (s after : Int) : Prop := 1 ≤ l.length ∧ l.length ≤ 300 ∧ 0 ≤ s ∧ s ≤ 2 ∧ 0 ≤ after ∧ p.length ≤ 1024

set_option maxRecDepth 100000 in
set_option maxHeartbeats 1600000 in
theorem law2Erases_no (A1 A2 : Option Addr) (l p : List UInt8) (c1 c2 : Nat) (s after : Int) (w : World) (h : ¬ EAsk l p s after) :
    Calls Try.prog 4 #[.slice A1 l.length c1, .int .i64 s, .int .i64 after, .slice A2 p.length c2] w fun e w' => e = .returned (.bool true) ∧ Below w.heap.size w w' := by
  unfold EAsk at h
  by_cases h1 : 1 ≤ l.length
  · by_cases h2 : l.length ≤ 300
    · by_cases h3 : 0 ≤ s
      · by_cases h4 : s ≤ 2
        · by_cases h5 : 0 ≤ after
          · have h6 : ¬ ((p.length : Int) ≤ 1024) := by omega
            clear h
            go_enter Try.func4, Try.ntmps4
            go_wp2_with (go_at_call 7; refine (alive2_any _).mono ?_; rintro e w1 ⟨rfl, hb1⟩; have B1 := Lib.hid hb1; clear hb1)
            go_ret
            exact ⟨rfl, B1.out⟩
          · clear h
            go_enter Try.func4, Try.ntmps4
            go_wp2_with (go_at_call 7; refine (alive2_any _).mono ?_; rintro e w1 ⟨rfl, hb1⟩; have B1 := Lib.hid hb1; clear hb1)
            go_ret
            exact ⟨rfl, B1.out⟩
        · clear h
          go_enter Try.func4, Try.ntmps4
          go_wp2_with (go_at_call 7; refine (alive2_any _).mono ?_; rintro e w1 ⟨rfl, hb1⟩; have B1 := Lib.hid hb1; clear hb1)
          go_ret
          exact ⟨rfl, B1.out⟩
      · clear h
        go_enter Try.func4, Try.ntmps4
        go_wp2_with (go_at_call 7; refine (alive2_any _).mono ?_; rintro e w1 ⟨rfl, hb1⟩; have B1 := Lib.hid hb1; clear hb1)
        go_ret
        exact ⟨rfl, B1.out⟩
    · have h6 : ¬ ((l.length : Int) ≤ 300) := by omega
      clear h
      go_enter Try.func4, Try.ntmps4
      go_wp2_with (go_at_call 7; refine (alive2_any _).mono ?_; rintro e w1 ⟨rfl, hb1⟩; have B1 := Lib.hid hb1; clear hb1)
      go_ret
      exact ⟨rfl, B1.out⟩
  · have h6 : ¬ (1 ≤ (l.length : Int)) := by omega
    clear h
    go_enter Try.func4, Try.ntmps4
    go_wp2_with (go_at_call 7; refine (alive2_any _).mono ?_; rintro e w1 ⟨rfl, hb1⟩; have B1 := Lib.hid hb1; clear hb1)
    go_ret
    exact ⟨rfl, B1.out⟩

set_option maxRecDepth 100000 in
set_option maxHeartbeats 3200000 in
theorem law2Erases_yes (A1 A2 : Option Addr) (l p : List UInt8) (c1 c2 : Nat) (x : Nat) (after : Int) (w : World) (b1 : Bs w A1 l) (b2 : Bs w A2 p) (hc1 : l.length ≤ c1) (hc2 : p.length ≤ c2) (h1 : 1 ≤ l.length) (h2 : l.length ≤ 300) (h4 : x ≤ 2) (h5 : 0 ≤ after) (h5' : after ≤ 9223372036854775807) (h6 : p.length ≤ 1024) :
    Calls Try.prog 4 #[.slice A1 l.length c1, .int .i64 (x : Int), .int .i64 after, .slice A2 p.length c2] w fun e w' => e = .returned (.bool true) ∧ Below w.heap.size w w' := by
  have HN : Hid (∀ W, Calls Try.prog 9 #[.int .i64 3] W (DNewPost W 3)) := Lib.hid (fun W => dnew_any 3 3 W (by show (if (3 : Int) < 1 then 1 else if 256 < (3 : Int) then 256 else 3) = ((3 : Nat) : Int); decide) (by omega) (by omega))
  have HA1 := Lib.hid b1
  have HA2 := Lib.hid b2
  have d1 : decide ((l.length : Int) < 1) = false := decide_eq_false (by omega)
  have d2 : decide (300 < (l.length : Int)) = false := decide_eq_false (by omega)
  have d3 : decide ((x : Int) < 0) = false := decide_eq_false (by omega)
  have d4 : decide (2 < (x : Int)) = false := decide_eq_false (by omega)
  have d5 : decide (after < 0) = false := decide_eq_false (by omega)
  have d6 : decide (1024 < (p.length : Int)) = false := decide_eq_false (by omega)
  clear b1 b2
  go_enter Try.func4, Try.ntmps4
  go_wp2_with fail
  refine (alive2_any _).mono ?_
  rintro e w1 ⟨rfl, hb1⟩
  have B1 := Lib.hid hb1
  clear hb1
  go_wp2_with fail
  refine (HN.out _).mono ?_
  rintro e w2 ⟨g, gB, gW, cB, cW, rfl, hf, hb2, hg, hgB, hgW⟩
  have HF := Lib.hid hf
  have B2 := Lib.hid (below_on B1.out hb2)
  have G1 : Hid (w.heap.size ≤ g ∧ w.heap.size ≤ gB ∧ w.heap.size ≤ gW) := Lib.hid (by have := B1.out.size; omega)
  clear hf hb2 hg hgB hgW
  obtain ⟨d, Hd⟩ : ∃ d, Hid (dnew 3 = d) := ⟨_, rfl⟩
  have HF2 : Hid (DevFl w2 g gB gW cB cW d) := by rw [← Hd.out]; exact HF
  have hok : DlOk d := by rw [← Hd.out]; exact dnew_ok 3 (by omega)
  have hdl : d.b.length = 3072 := by rw [← Hd.out]; exact blanks_len 3
  have hds : d.steps = 0 ∧ d.off = false ∧ d.armed = false ∧ d.worn = List.replicate 3 0 := by rw [← Hd.out]; exact ⟨rfl, rfl, rfl, rfl⟩
  have HOK := Lib.hid hok
  have HDL := Lib.hid hdl
  have HDS := Lib.hid hds
  clear HF Hd hok hdl hds
  go_wp2_with fail
  go_loopw [11, 12] (fun sl i wr => ∃ (k : Nat) (A : Option Addr) (c : Nat), k ≤ 3072 ∧ i = .int .i64 k ∧ sl = .slice A k c ∧ Hid (Ob 5 wr w2.heap.size (.slice A k c) (rolled l k)) ∧ Hid (Below w2.heap.size w2 wr)) (fun _ i _ => 3072 - (intOf i).toNat)
  case atStart => exact ⟨0, none, 0, by omega, rfl, rfl, Lib.hid (Ob.nil_ _ _ _), Lib.hid (Below.refl _ _)⟩
  case round =>
    obtain ⟨k, A, c, hk, rfl, rfl, Hown, Hbel⟩ := hrel
    by_cases hlt : k < 3072
    · obtain ⟨q, Hq⟩ : ∃ q : Nat, Hid (q = k % l.length) := ⟨_, rfl⟩
      have hql : q < l.length := by rw [Hq.out]; exact Nat.mod_lt _ (by omega)
      have hq : (k : Int) % (l.length : Int) = (q : Int) := by rw [Hq.out]; exact (Int.natCast_emod _ _).symm
      obtain ⟨bb, oo, rfl, hcell⟩ := (HA1.out.below (B2.out.trans (Hbel.out.mono B2.out.size))).at_ hql
      obtain ⟨v, Hv⟩ : ∃ v, Hid (l.getD q 0 = v) := ⟨_, rfl⟩
      rw [Hv.out] at hcell
      have HB1 : Hid (Bs (wr.alloc (.cells #[.int .u8 (v.toNat : Int)] 5)) (some ⟨wr.heap.size, 0, none⟩) [v]) := Lib.hid (bs_lit1 wr _ v)
      have HO1 : Hid (Ob 5 (wr.alloc (.cells #[.int .u8 (v.toNat : Int)] 5)) w2.heap.size (.slice A k c) (rolled l k)) := Lib.hid (Hown.out.below ((Below.refl _ _).alloc (Nat.le_refl _) _))
      obtain ⟨r, Hr⟩ : ∃ r, Hid (rolled l k = r) := ⟨_, rfl⟩
      have Hrl : Hid (r.length = k) := Lib.hid (by rw [← Hr.out, rolled_len])
      rw [Hr.out] at HO1
      have hz : w2.heap.size ≤ wr.heap.size := Hbel.out.size
      go_wp2_with (at_builtin; refine wpList_append_bs rfl (.tmp 55) (.tmp 63) 30 rfl w2.heap.size 5 Try.underlying30 info5 (.slice A k c) r rfl HO1.out (some ⟨wr.heap.size, 0, none⟩) [v] 1 1 rfl rfl HB1.out (by rw [Hrl.out]; simp; omega) (by simp; omega) ?_)
      intro v5 w5 ho5 hgr5
      obtain ⟨A5, c5, rfl, -, -⟩ := ho5.form
      have B5 : Hid (Below w2.heap.size w2 w5) := Lib.hid ((Hbel.out.alloc hz _).grown hgr5 (by simp; omega) (fun j hj => Hown.out.fresh j (own_at hj)))
      have hl5 : (r ++ [v]).length = k + 1 := by simp [Hrl.out]
      rw [hl5] at ho5 ⊢
      have HO5 : Hid (Ob 5 w5 w2.heap.size (.slice A5 (k + 1) c5) (rolled l (k + 1))) := Lib.hid (by rw [← rolled_succ, Hr.out, ← Hq.out, Hv.out]; exact ho5)
      clear ho5 hgr5 hl5
      go_wp2_with fail
      go_roundw
      case rel => exact ⟨k + 1, A5, c5, by omega, by go_num, rfl, HO5, B5⟩
      case measure => simp [intOf]; omega
    · obtain rfl : k = 3072 := by omega
      obtain ⟨O, HO⟩ : ∃ O, Hid (rolled l 3072 = O) := ⟨_, rfl⟩
      have hOl : O.length = 3072 := by rw [← HO.out, rolled_len]
      rw [HO.out] at Hown
      have HOA : Hid (A = none ∨ ∃ g, A = some ⟨g, 0, none⟩ ∧ w2.heap.size ≤ g ∧ g < wr.heap.size) := Lib.hid (by obtain ⟨A', c', e, -, hf⟩ := Hown.out.form; injection e with e1; subst e1; exact hf)
      have Boff : Hid (Off (FlF g gB gW) A O) := Lib.hid (off_new HF2.out Hown.out.fresh)
      have Bw := Lib.hid (B2.out.trans (Hbel.out.mono B2.out.size))
      have hcO : 3072 ≤ c := by
        obtain ⟨bb, oo, rfl, -⟩ := Hown.out.bs.at_ (k := 0) (by omega)
        have h0 : oo = 0 := by
          obtain ⟨A', c', e, -, hf⟩ := Hown.out.form
          injection e with e1
          subst e1
          rcases hf with hf | ⟨g', hf, -⟩
          · cases hf
          · injection hf with hf; injection hf with _ hf
        subst h0
        exact Hown.out.cap
      -- spoiled
      have hsp := dspoil_any (HF2.out.below Hbel.out) 0 A O c Hown.out.bs (by omega) (by omega) (by have := HDL.out; omega) (by omega)
      have hdl := HDL.out
      rw [if_pos (by omega), if_pos (by omega), hOl, Int.toNat_zero, laid_all (by rw [hdl]; exact hOl)] at hsp
      have HSP := Lib.hid hsp
      clear hsp hdl
      go_wp2_with fail
      refine HSP.out.mono ?_
      rintro e w3 ⟨rfl, hf, ho⟩
      have HF3 := Lib.hid hf
      have ho' := ho.toF (g := g) (gB := gB) (gW := gW) (fun k hk => .inr (.inl hk))
      have B3 := Lib.hid (below_fl Bw.out ho' G1.out.1 G1.out.2.1 G1.out.2.2)
      have HBO3 : Hid (Bs w3 A O) := Lib.hid (Hown.out.bs.offs Boff.out ho')
      clear hf ho ho' HSP Hown
      -- armed
      have HAR := Lib.hid (darm_any HF3.out after A2 p c2 (HA2.out.below B3.out) hc2 (by omega))
      have hda : darmOf (dwithB d O) after p = ⟨O, d.worn, d.steps, false, true, after, p⟩ := by
        unfold darmOf
        rw [if_neg (by omega), List.take_of_length_le h6, ← HDS.out.2.1]
        rfl
      rw [hda] at HAR
      clear hda
      go_wp2_with fail
      refine HAR.out.mono ?_
      rintro e w4 ⟨rfl, hf, ho⟩
      have HF4 := Lib.hid hf
      have ho' := ho.toF (g := g) (gB := gB) (gW := gW) (fun k hk => .inl hk)
      have B4 := Lib.hid (below_fl B3.out ho' G1.out.1 G1.out.2.1 G1.out.2.2)
      have HBO4 : Hid (Bs w4 A O) := Lib.hid (HBO3.out.offs Boff.out ho')
      clear hf ho ho' HAR HF3 HBO3
      -- erased
      obtain ⟨ec, d5, seg, hd5, hb5, hseg, hwl5, hwa5, hyes, hno⟩ := erases_math O p d.worn d.steps after x hOl h4 HDS.out.2.2.2 h5
      have HER := derase_any HF4.out ⟨by show O.length = 1024 * d.worn.length; rw [HDS.out.2.2.2, hOl]; rfl, HOK.out.few, HOK.out.worn, HOK.out.s0, HOK.out.s1, h5, h5', h6⟩ (x : Int)
      rw [hd5] at HER
      have HER2 := Lib.hid HER
      have HB5 := Lib.hid hb5
      have HSEG := Lib.hid hseg
      have HWA5 := Lib.hid hwa5
      have HYES := Lib.hid hyes
      have HNO := Lib.hid hno
      have HL5 : Hid (d5.b.length = 3072) := Lib.hid (by rw [hb5, laid_len, hOl])
      clear HER hd5 hb5 hseg hwl5 hwa5 hyes hno
      go_wp2_with fail
      refine HER2.out.mono ?_
      rintro e w5 ⟨rfl, hf, ho⟩
      have HF5 : Hid (DevFl w5 g gB gW cB cW d5) := hf
      have B5 := Lib.hid (below_fl B4.out ho G1.out.1 G1.out.2.1 G1.out.2.2)
      have HBO5 : Hid (Bs w5 A O) := Lib.hid (HBO4.out.offs Boff.out ho)
      clear hf ho HER2 HF4 HBO4
      -- what stands
      have HSZ : Hid (Calls Try.prog 16 #[.pointer (some ⟨g, 0, none⟩)] w5 fun e w' => e = .returned (.int .i64 3072) ∧ w5 = w') := Lib.hid (by
        have := dsize_any HF5.out
        rw [HL5.out] at this
        exact this)
      have hpk := dpeek_any HF5.out 0 3072 (by omega) (by omega) (by omega) (by omega) (by have := HL5.out; omega)
      have hpe : peekOf d5 0 3072 = d5.b := by
        unfold peekOf
        rw [if_pos (by have := HL5.out; omega)]
        have e : Int.toNat 3072 = d5.b.length := by rw [HL5.out]; rfl
        rw [e]
        exact cut_self _
      rw [hpe] at hpk
      have HPK := Lib.hid hpk
      clear hpk hpe
      go_wp2_with (first
        | (go_at_call 16; refine HSZ.out.mono ?_; rintro e w6 ⟨rfl, rfl⟩)
        | (go_at_call 17; refine HPK.out.mono ?_; rintro e w6 ⟨v, rfl, ho, hb6⟩; obtain ⟨g6, c6, rfl, hbs6, hcx, -⟩ := ho.formN HL5.out (by omega); have HBS6 := Lib.hid hbs6; have B6 := Lib.hid (below_on B5.out hb6); have HF6 := Lib.hid (HF5.out.below hb6); have HBO6 : Hid (Bs w6 A O) := Lib.hid (HBO5.out.below hb6); clear ho hb6 hbs6))
      have HER6 : Hid (Calls Try.prog 14 #[.pointer (some ⟨g, 0, none⟩), .int .i64 (x : Int)] w6 fun e w' => e = .returned (.int .i64 1) ∧ w6 = w') := Lib.hid (by
        have := derases_any HF6.out (x : Int)
        rw [HWA5.out] at this
        exact this)
      obtain ⟨gO, rfl⟩ : ∃ gO, A = some ⟨gO, 0, none⟩ := by
        obtain ⟨bb, oo, rfl, -⟩ := HBO6.out.at_ (k := 0) (by omega)
        exact ⟨bb, by
          have := HOA.out
          rcases this with h | ⟨g', h, -⟩
          · cases h
          · injection h with h; injection h with h h2; rw [h2]⟩
      obtain ⟨K, hK⟩ : ∃ K : Nat, 1024 * (x : Int) = (K : Int) := ⟨1024 * x, by omega⟩
      have hK2 : K ≤ 2048 := by omega
      have HKx : Hid (K = 1024 * x) := Lib.hid (by omega)
      go_wp2_with (first
        | (go_at_call 21; refine (num2_any _ _).mono ?_; rintro e w4 ⟨rfl, rfl⟩)
        | (go_at_call 14; refine HER6.out.mono ?_; rintro e w4 ⟨rfl, rfl⟩))
      -- the others stand as they were
      obtain ⟨K1, hK1⟩ : ∃ K1 : Nat, K1 = K + 1024 := ⟨_, rfl⟩
      have hK1b : K1 ≤ 3072 := by omega
      have zK : IntKind.i64.wrap ((K : Int) + 1024) = (K1 : Int) := by rw [IntWalk.i64_in _ (by omega)]; omega
      have s1 := slice_head (some ⟨g6, 0, none⟩) 3072 c6 K (by omega)
      have s2 := slice_head (some ⟨gO, 0, none⟩) 3072 c K (by omega)
      obtain ⟨o3, ho3, s3⟩ := slice_to_end g6 K1 3072 c6 hK1b hcx
      obtain ⟨o4, ho4, s4⟩ := slice_to_end gO K1 3072 c hK1b hcO
      obtain ⟨N1, hN1⟩ : ∃ N1 : Nat, N1 = 3072 - K1 := ⟨_, rfl⟩
      have hb5K : d5.b.take K = O.take K := by rw [HB5.out, take_laid (by have := HKx.out; omega)]
      have hb5K1 : cut d5.b K1 N1 = cut O K1 N1 := by
        unfold cut
        rw [HB5.out, drop_laid (by have := HKx.out; have := HSEG.out; omega)]
      obtain ⟨sb1, Hsb1⟩ : ∃ s, Hid (strB (O.take K) = s) := ⟨_, rfl⟩
      obtain ⟨sb2, Hsb2⟩ : ∃ s, Hid (strB (cut O K1 N1) = s) := ⟨_, rfl⟩
      rw [← hN1] at s3 s4
      have k1 : ∀ n, (convert 30 9 (.slice (some ⟨g6, 0, none⟩) K c6)).run Try.prog (w6.drewN n) = .ok (.string sb1) (w6.drewN n) := fun n => conv_now (HBS6.out.take K |>.drewN n) (by rw [List.length_take, HL5.out]; omega) (by rw [hb5K]; exact Hsb1.out)
      have k2 : ∀ n, (convert 30 9 (.slice (some ⟨gO, 0, none⟩) K c)).run Try.prog (w6.drewN n) = .ok (.string sb1) (w6.drewN n) := fun n => conv_now (HBO6.out.take K |>.drewN n) (by rw [List.length_take, hOl]; omega) Hsb1.out
      have k3 : ∀ n, (convert 30 9 (.slice (some ⟨g6, o3, none⟩) N1 (c6 - K1))).run Try.prog (w6.drewN n) = .ok (.string sb2) (w6.drewN n) := fun n => conv_now ((HBS6.out.cutAt (a := K1) (n := N1) (by rw [HL5.out]; omega) (by rw [hN1]; exact ho3)).drewN n) (cut_len (by rw [HL5.out]; omega)).symm (by rw [hb5K1]; exact Hsb2.out)
      have k4 : ∀ n, (convert 30 9 (.slice (some ⟨gO, o4, none⟩) N1 (c - K1))).run Try.prog (w6.drewN n) = .ok (.string sb2) (w6.drewN n) := fun n => conv_now ((HBO6.out.cutAt (a := K1) (n := N1) (by omega) (by rw [hN1]; exact ho4)).drewN n) (cut_len (by omega)).symm Hsb2.out
      clear ho3 ho4 hb5K hb5K1 hN1
      have HK1 := Lib.hid hK1
      have hK' := Lib.hid hK
      clear hK hK1
      have B6d : Hid (∀ n, Below w.heap.size w (w6.drewN n)) := Lib.hid (fun n => below_drewN' B6.out n)
      obtain ⟨o5, ho5, s5'⟩ := slice_in g6 K 1024 c6 (by omega)
      have s7 : ∀ (u : World), (Instr.slice 30 (.slice (some ⟨g6, 0, none⟩) 3072 c6) (some (.int .i64 (K : Int))) (some (.int .i64 (K1 : Int))) none).run Try.prog u = .ok (.slice (some ⟨g6, o5, none⟩) 1024 (c6 - K)) u := fun u => by
        have := s5' 3072 u
        rw [HK1.out, Int.natCast_add]
        exact this
      have hcut : cut d5.b K 1024 = seg := by
        rw [HB5.out, HKx.out, ← HSEG.out]
        exact cut_laid (by rw [HSEG.out, hOl]; omega)
      have HX : Hid (∀ n, Bs (w6.drewN n) (some ⟨g6, o5, none⟩) seg) := Lib.hid (fun n => by rw [← hcut]; exact (HBS6.out.cutAt (a := K) (n := 1024) (by rw [HL5.out]; omega) ho5).drewN n)
      by_cases hz : 0 < after
      · obtain ⟨rfl, hall⟩ := HYES.out hz
        have Hall := Lib.hid hall
        clear hall s5' ho5 hcut
        have HIB : Hid (∀ n c, Calls Try.prog 22 #[.slice (some ⟨g6, o5, none⟩) 1024 c] (w6.drewN n) fun e w' => e = .returned (.bool true) ∧ w6.drewN n = w') := Lib.hid (fun n c => by
          have := isBlank_any (some ⟨g6, o5, none⟩) seg c (w6.drewN n) (HX.out n) (by rw [HSEG.out]; omega)
          rw [HSEG.out, Hall.out] at this
          exact this)
        go_quiet (fail)
        go_wp2_with (first
          | (go_at_call 21; refine (num2_any _ _).mono ?_; rintro e w4 ⟨rfl, rfl⟩)
          | (go_at_call 22; (with_reducible refine (HIB.out _ _).mono ?_); rintro e w4 ⟨rfl, rfl⟩))
        go_ret
        exact ⟨rfl, B6d.out _⟩
      · obtain ⟨rfl, hoff5, hcan5⟩ := HNO.out (by omega)
        have Hcan5 := Lib.hid hcan5
        have hz' : after = 0 := by omega
        subst hz'
        obtain ⟨o6, ho6, s6'⟩ := slice_in gO K 1024 c (by omega)
        have s6 : ∀ (u : World), (Instr.slice 30 (.slice (some ⟨gO, 0, none⟩) 3072 c) (some (.int .i64 (K : Int))) (some (.int .i64 (K1 : Int))) none).run Try.prog u = .ok (.slice (some ⟨gO, o6, none⟩) 1024 (c - K)) u := fun u => by
          have := s6' 3072 u
          rw [HK1.out, Int.natCast_add]
          exact this
        have HY : Hid (∀ n, Bs (w6.drewN n) (some ⟨gO, o6, none⟩) (cut O K 1024)) := Lib.hid (fun n => (HBO6.out.cutAt (a := K) (n := 1024) (by omega) ho6).drewN n)
        have HcO : Hid ((cut O K 1024).length = 1024) := Lib.hid (cut_len (by omega))
        have HRI : Hid (∀ c1 c2 n, Calls Try.prog 23 #[.slice (some ⟨gO, o6, none⟩) 1024 c1, .slice (some ⟨g6, o5, none⟩) 1024 c2] (w6.drewN n) fun e w' => e = .returned (.bool true) ∧ ∃ m, w' = (w6.drewN n).drewN m) := Lib.hid (fun c1 c2 n => by
          have := risen_any (some ⟨gO, o6, none⟩) (some ⟨g6, o5, none⟩) (cut O K 1024) seg c1 c2 (w6.drewN n) (HY.out n) (HX.out n) (by rw [HSEG.out]; omega)
          rw [HcO.out, HSEG.out, HKx.out, Hcan5.out] at this
          exact this)
        have HOF : Hid (∀ n, Calls Try.prog 12 #[.pointer (some ⟨g, 0, none⟩)] (w6.drewN n) fun e w' => e = .returned (.bool true) ∧ ∃ m, w' = (w6.drewN n).drewN m) := Lib.hid (fun n => by
          rw [← hoff5]
          exact (doff_any (HF6.out.below (below_drewN' (Below.refl _ _) n))).mono fun e w' ⟨he, hw⟩ => ⟨he, 0, hw.symm⟩)
        have HNM : Hid (∀ n, Calls Try.prog 21 #[.int .i64 5] (w6.drewN n) fun e w' => e = .returned (.int .i64 5) ∧ ∃ m, w' = (w6.drewN n).drewN m) := Lib.hid (fun n => (num2_any 5 _).mono fun e w' ⟨he, hw⟩ => ⟨he, 0, hw.symm⟩)
        clear hcan5 s5' s6' ho5 ho6 hcut hoff5
        go_quiet (fail)
        go_wp2
        go_quiet ((first
          | (go_at_call 21; exact quiet_on HNM.out _ _)
          | (go_at_call 12; exact quiet_on HOF.out _ _)
          | (go_at_call 23; exact quiet_on (HRI.out _ _) _ _)))
        go_wp2
        go_ret
        exact ⟨rfl, below_drewN' (B6d.out _) _⟩

theorem law2Erases (A1 A2 : Option Addr) (l p : List UInt8) (c1 c2 : Nat) (s after : Int) (w : World) (b1 : Bs w A1 l) (b2 : Bs w A2 p) (hc1 : l.length ≤ c1) (hc2 : p.length ≤ c2) (h5' : after ≤ 9223372036854775807) :
    Calls Try.prog 4 #[.slice A1 l.length c1, .int .i64 s, .int .i64 after, .slice A2 p.length c2] w fun e w' => e = .returned (.bool true) ∧ Below w.heap.size w w' := by
  by_cases h : EAsk l p s after
  · obtain ⟨h1, h2, h3, h4, h5, h6⟩ := h
    obtain ⟨x, rfl⟩ := Int.eq_ofNat_of_zero_le h3
    exact law2Erases_yes A1 A2 l p c1 c2 x after w b1 b2 hc1 hc2 h1 h2 (by omega) h5 h5' h6
  · exact law2Erases_no A1 A2 l p c1 c2 s after w h
end Go.Proofs.Ytlnpfndjdilfhaa
