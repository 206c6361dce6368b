/- The contracts of the reference's coder: NewCoder, stretch, Bit, Half, Tree. -/
import Derived.Test.YtlbkpmcccipfhaaRefCod
import Derived.Test.YtlbkpmcccipfhaaAppNear
namespace Go.Proofs.Ytlbkpmcccipfhaa
open Go.RowKit
set_option linter.unusedVariables false
set_option maxRecDepth 100000

/-- at block g lies the reference's coder in state c, its bytes at block gl -/
def RCo (W : World) (g gl base : Nat) (c : Cd) : Prop := c.ok ∧ RCr W g gl base c.out c.w
theorem RCo.below {W W' : World} {g gl base : Nat} {c : Cd} (h : RCo W g gl base c) (hb : Below W.heap.size W W') : RCo W' g gl base c := ⟨h.1, h.2.below hb⟩
theorem RCo.only {W W' : World} {g gl base : Nat} {c : Cd} {F : Nat → Prop} (h : RCo W g gl base c) (ho : Only F W W') (hg : ¬ F g) (hr : ¬ F gl) : RCo W' g gl base c := ⟨h.1, h.2.only ho hg hr⟩
/-- what a call on it leaves -/
def RCp (W : World) (g gl base : Nat) (c' : Cd) (w' : World) : Prop := ∃ gl', RCo w' g gl' base c' ∧ (gl' = gl ∨ W.heap.size ≤ gl') ∧ Only (fun j => j = g ∨ j = gl) W w'

set_option maxHeartbeats 1600000 in
theorem rnewcoder_any (base : Nat) (w : World) (hbase : base ≤ w.heap.size) : Calls Try.prog 10 #[] w
    fun e w' => ∃ g gl, e = .returned (.pointer (some ⟨g, 0, none⟩)) ∧ RCo w' g gl base Cd.new ∧ w.heap.size ≤ g ∧ w.heap.size ≤ gl ∧ Below w.heap.size w w' := by
  have hmk := make_bytes 4 (by omega)
  have hown := own_made w 4 5 (by omega)
  have hm4 : List.replicate 4 (0 : UInt8) = Cd.new.out := by decide
  rw [hm4] at hown
  have HOW := Lib.hid hown
  obtain ⟨M, hM⟩ : ∃ M, madeCells #[.int .u8 0] 4 = M := ⟨_, rfl⟩
  rw [hM] at HOW
  have hmk' : ∀ u : World, (Instr.makeSlice 38 (.int .i64 4) (.int .i64 4)).run Try.prog u = .ok (.slice (some ⟨u.heap.size, 0, none⟩) 4 4) (u.alloc (.cells M 5)) := fun u => by rw [← hM]; exact hmk u
  have HE : Hid (RCo ((w.alloc (.cells M 5)).alloc (.cells #[.slice (some ⟨w.heap.size, 0, none⟩) 4 4, .int .u64 4294967295] 42)) (w.heap.size + 1) w.heap.size base Cd.new ∧ Below w.heap.size w ((w.alloc (.cells M 5)).alloc (.cells #[.slice (some ⟨w.heap.size, 0, none⟩) 4 4, .int .u64 4294967295] 42))) := Lib.hid (by
    refine ⟨⟨Cd.new_ok, by omega, 4, ?_, ?_⟩, (((Below.refl _ _).alloc (Nat.le_refl _) _).alloc (by simp) _)⟩
    · have := heap_alloc_new (w.alloc (.cells M 5)) (.cells #[.slice (some ⟨w.heap.size, 0, none⟩) 4 4, .int .u64 4294967295] 42)
      rw [World.size_alloc] at this
      exact this
    · exact ((HOW.out).low hbase).below ((Below.refl _ _).alloc (Nat.le_refl _) _))
  clear hmk hown hm4 hM HOW
  go_enter Try.func10, Try.ntmps10
  go_wp2_with fail
  go_ret
  exact ⟨_, _, rfl, HE.out.1, by omega, by omega, HE.out.2⟩

theorem RCr.wide {W : World} {g gl base : Nat} {l : List UInt8} {wd : Nat} (h : RCr W g gl base l wd) (x : Nat) : RCr (W.setCell ⟨g, 1, none⟩ (.int .u64 (x : Int))) g gl base l x := by
  obtain ⟨cap, h1, h2⟩ := h.row
  refine ⟨h.ne, cap, ?_, ?_⟩
  · rw [setCell_eq_setRow W g 1 _ _ _ (.int .u64 (x : Int)) h1, setRow_heap _ _ _ _ _ _ h1]; rfl
  · exact h2.only (F := fun j => j = g) ((Only.refl (fun j => j = g) W).setCell (p := ⟨g, 1, none⟩) (.inl rfl) _) (fun k hk => by
      obtain ⟨a, e, rfl⟩ := hk
      injection e with e
      subst e
      exact fun e => h.ne e.symm)
theorem RCr.cell1 {W : World} {g gl base : Nat} {l : List UInt8} {wd : Nat} (h : RCr W g gl base l wd) : W.cell? ⟨g, 1, none⟩ = some (.int .u64 (wd : Int)) := by
  obtain ⟨cap, h1, h2⟩ := h.row
  rw [cell_of_row _ _ _ _ _ _ h1]; rfl
theorem RCr.fz {W : World} {g gl base : Nat} {l : List UInt8} {wd : Nat} (h : RCr W g gl base l wd) (k : Nat) : W.frozen? ⟨g, k, none⟩ = false := by
  obtain ⟨cap, h1, h2⟩ := h.row
  simp [World.frozen?, h1]

set_option maxHeartbeats 1600000 in
theorem rstretch15_any {W : World} {g gl base : Nat} (low wd k : Nat) (h : RCr W g gl base (Cd.mk low wd k).out wd) (hw : wd < 4294967296) (hk : k ≤ 100000) (hbase : base ≤ W.heap.size) :
    Calls Try.prog 31 #[.pointer (some ⟨g, 0, none⟩)] W
    fun e w' => e = .returned (.tuple #[]) ∧ ∃ gl', RCr w' g gl' base (Cd.str ⟨low, wd, k⟩).out (Cd.str ⟨low, wd, k⟩).w ∧ (gl' = gl ∨ W.heap.size ≤ gl') ∧ Only (fun j => j = g ∨ j = gl) W w' := by
  have c1 := h.cell1
  have f1 := h.fz 1
  by_cases hl : wd < 16777216
  · have d0 : decide ((wd : Int) < 16777216) = true := decide_eq_true (by omega)
    obtain ⟨x, hx⟩ : ∃ x, wd * 256 = x := ⟨_, rfl⟩
    have t1 : IntKind.u64.wrap ((wd : Int) * 256) = (x : Int) := by rw [IntKind.wrap_u64]; omega
    have t1' : (wd : Int) * 256 = (x : Int) := by omega
    have hout := Cd.out_str low wd k hl
    have hsw : (Cd.str ⟨low, wd, k⟩).w = x := by unfold Cd.str; rw [if_pos (show (Cd.mk low wd k).w < 16777216 from hl)]; exact hx
    obtain ⟨l, hll⟩ : ∃ l, (Cd.mk low wd k).out = l := ⟨_, rfl⟩
    have hlen : l.length = 4 + k := by rw [← hll]; exact Cd.out_len _
    rw [hll] at h hout
    rw [hout, hsw]
    have h2 := h.wide x
    obtain ⟨n, hn⟩ : ∃ n, l.length = n := ⟨_, rfl⟩
    obtain ⟨cap, hr1, hr2⟩ := h2.row
    rw [hn] at hr1 hr2
    have HR1 := Lib.hid hr1
    have HR2 := Lib.hid hr2
    have HN := Lib.hid hn
    have c0 : (W.setCell ⟨g, 1, none⟩ (.int .u64 (x : Int))).cell? ⟨g, 0, none⟩ = some (.slice (some ⟨gl, 0, none⟩) n cap) := by rw [cell_of_row _ _ _ _ _ _ hr1]; rfl
    have hne := h.ne
    have HGL : Hid (g < W.heap.size ∧ gl < W.heap.size ∧ base ≤ gl) := Lib.hid (h.lt (by rw [hlen]; omega))
    have HO1 : Hid (Only (fun j => j = g ∨ j = gl) W (W.setCell ⟨g, 1, none⟩ (.int .u64 (x : Int)))) := Lib.hid ((Only.refl _ W).setCell (p := ⟨g, 1, none⟩) (.inl (.inl rfl)) _)
    have hn1 : n ≤ 100004 := by omega
    obtain ⟨W1, hW1⟩ : ∃ V, W.setCell ⟨g, 1, none⟩ (.int .u64 (x : Int)) = V := ⟨_, rfl⟩
    have HSZ : Hid (W1.heap.size = W.heap.size) := Lib.hid (by rw [← hW1]; simp [World.setCell])
    have HW1 := Lib.hid hW1
    rw [hW1] at HR1 HR2 c0 HO1
    have HBS : Hid (Bs (W1.alloc (.cells #[.int .u8 0] 5)) (some ⟨W1.heap.size, 0, none⟩) [0]) := Lib.hid (fun _ => ⟨_, _, rfl, fun j hj => by
      have : j = 0 := by simpa using hj
      subst this
      rw [cell_of_row _ _ _ _ _ _ (heap_alloc_new _ _)]
      rfl⟩)
    have HOB2 : Hid (Ob 5 (W1.alloc (.cells #[.int .u8 0] 5)) base (.slice (some ⟨gl, 0, none⟩) n cap) l) := Lib.hid (HR2.out.below ((Below.refl _ _).alloc (Nat.le_refl _) _))
    have HB1 : Hid (base ≤ (W1.alloc (.cells #[.int .u8 0] 5)).heap.size) := Lib.hid (by rw [World.size_alloc, HSZ.out]; omega)
    have HLE : Hid (l.length + [(0 : UInt8)].length ≤ 140737488355328) := Lib.hid (by rw [hn]; simp; omega)
    have HFG : Hid (g ≠ gl) := Lib.hid hne
    have HOA : Hid (Only (fun j => j = g ∨ j = gl) W (W1.alloc (.cells #[.int .u8 0] 5))) := Lib.hid (HO1.out.alloc _)
    have HTO : Hid ((W1.alloc (.cells #[.int .u8 0] 5)).heap[g]? = some (.cells #[.slice (some ⟨gl, 0, none⟩) n cap, .int .u64 (x : Int)] 42 (0, 0))) := Lib.hid (by rw [heap_alloc_old _ _ (by rw [HSZ.out]; exact HGL.out.1)]; exact HR1.out)
    clear h h2 hr1 hr2 hn hne hlen hll hout hsw hx hW1 hn1 hw hk hbase
    go_enter Try.func31, Try.ntmps31
    go_upto_region 2 with fail
    rw [HW1.out]
    clear HW1 c1 f1
    go_wp2_with (refine wpList_append_near rfl (.tmp 19) (.tmp 20) 38 rfl base 5 Try.underlying38 info5 gl n cap l rfl HOB2.out ⟨W1.heap.size, 0, none⟩ [0] 1 _ rfl rfl HBS.out (by simp) HLE.out HB1.out ?_)
    intro gl2 cap2 w2 hob hgr hgl
    have ho2 := HOA.out.grown hgr (fun k e => by injection e with e; subst e; exact .inl (.inr rfl))
    have htop2 : w2.heap[g]? = some (.cells #[.slice (some ⟨gl, 0, none⟩) n cap, .int .u64 (x : Int)] 42 (0, 0)) := by
      have := hgr.block g (by rw [World.size_alloc, HSZ.out]; have := HGL.out.1; omega) (fun e => by injection e with e; exact HFG.out e)
      rw [this]; exact HTO.out
    have hgl2 : gl2 = gl ∨ W.heap.size ≤ gl2 := by
      rcases hgl with h | h
      · exact .inl h
      · exact .inr (by have := HSZ.out; omega)
    have hgg2 : g ≠ gl2 := by
      rcases hgl2 with h | h
      · rw [h]; exact HFG.out
      · have := HGL.out.1; omega
    have c2 : w2.cell? ⟨g, 0, none⟩ = some (.slice (some ⟨gl, 0, none⟩) n cap) := by rw [cell_of_row _ _ _ _ _ _ htop2]; rfl
    have f2 : w2.frozen? ⟨g, 0, none⟩ = false := by simp [World.frozen?, htop2]
    have HE : Hid (RCr (w2.setCell ⟨g, 0, none⟩ (.slice (some ⟨gl2, 0, none⟩) (n + 1) cap2)) g gl2 base (l ++ [0]) x ∧ (gl2 = gl ∨ W.heap.size ≤ gl2) ∧ Only (fun j => j = g ∨ j = gl) W (w2.setCell ⟨g, 0, none⟩ (.slice (some ⟨gl2, 0, none⟩) (n + 1) cap2))) := Lib.hid (by
      refine ⟨⟨hgg2, cap2, ?_, ?_⟩, hgl2, ho2.setCell (p := ⟨g, 0, none⟩) (.inl (.inl rfl)) _⟩
      · rw [setCell_eq_setRow w2 g 0 _ _ _ _ htop2, setRow_heap _ _ _ _ _ _ htop2, List.length_append, HN.out]; rfl
      · rw [List.length_append, HN.out]
        exact Ob.only hob (F := fun j => j = g) ((Only.refl (fun j => j = g) w2).setCell (p := ⟨g, 0, none⟩) (.inl rfl) _) (fun k hk => by
          obtain ⟨a, e, rfl⟩ := hk
          injection e with e
          subst e
          exact fun e => hgg2 e.symm))
    clear hob hgr hgl ho2 htop2 hgl2 hgg2 HOB2 HTO HOA HBS HB1 HLE HR1 HR2 c0 HO1
    go_wp2_with fail
    refine bodyPost_end (results_none rfl _ _ _) rfl ?_
    exact ⟨rfl, gl2, HE.out.1, HE.out.2.1, HE.out.2.2⟩
  · have d0 : decide ((wd : Int) < 16777216) = false := decide_eq_false (by omega)
    have e : Cd.str ⟨low, wd, k⟩ = ⟨low, wd, k⟩ := by unfold Cd.str; rw [if_neg (show ¬ (Cd.mk low wd k).w < 16777216 from hl)]
    rw [e]
    have HE := Lib.hid h
    clear h hl hbase
    go_enter Try.func31, Try.ntmps31
    go_wp2_with fail
    refine bodyPost_end (results_none rfl _ _ _) rfl ?_
    exact ⟨rfl, gl, HE.out, .inl rfl, Only.refl _ _⟩

theorem Only.join {F G H : Nat → Prop} {w w1 w2 : World} (h : Only F w w1) (k : Only G w1 w2) (hF : ∀ j, F j → H j) (hG : ∀ j, G j → H j) : Only H w w2 :=
  (h.mono (fun j _ hj => hF j hj)).trans (k.mono (fun j _ hj => hG j hj))

set_option maxHeartbeats 3200000 in
theorem rcbit_any {W : World} {g gl base : Nat} {c : Cd} (h : RCo W g gl base c) (hk : c.k ≤ 100000) (hbase : base ≤ W.heap.size) (p bit : Int) : Calls Try.prog 14 #[.pointer (some ⟨g, 0, none⟩), .int .i64 p, .int .i64 bit] W
    fun e w' => e = .returned (.int .i64 (adI p bit : Int)) ∧ RCp W g gl base (c.bit p (decide (bit = 0))) w' := by
  obtain ⟨hok, hr⟩ := h
  have HOLD := Lib.hid (rhold15_any p)
  have HAD := Lib.hid (radapt15_any p bit)
  have c1 := hr.cell1
  have f1 := hr.fz 1
  have hwlo := hok.lo
  have hwhi := hok.hi
  have hfit := hok.fit
  have hb1 := bnd_lo hwlo p
  have hb2 := bnd_hi c.w p
  have hhl := holdI_lo p
  have hhh := holdI_hi p
  obtain ⟨a, ha⟩ : ∃ a, c.w / 2048 = a := ⟨_, rfl⟩
  obtain ⟨b, hb⟩ : ∃ b, bnd c.w p = b := ⟨_, rfl⟩
  have hab : a * holdI p = b := by rw [← ha, ← hb]; rfl
  have hok2 := Cd.bit_ok hok p (decide (bit = 0))
  have HSTEP : Hid (∀ z, c.bit p z = Cd.str (if z then ⟨c.low, b, c.k⟩ else ⟨c.low + b, c.w - b, c.k⟩)) := Lib.hid fun z => by rw [← hb]; rfl
  rw [ha] at hb2
  rw [hb] at hb1 hb2
  obtain ⟨v, hv⟩ : ∃ v, adI p bit = v := ⟨_, rfl⟩
  obtain ⟨q, hq⟩ : ∃ q, holdI p = q := ⟨_, rfl⟩
  rw [hv] at HAD
  rw [hv]
  rw [hq] at HOLD hab hhl hhh
  obtain ⟨low, wd, k⟩ := c
  simp only at *
  have hnum : bgN (Cd.mk low wd k).out = low := Cd.out_num hok
  have hlen : (Cd.mk low wd k).out.length = 4 + k := Cd.out_len _
  have t1 : (wd : Int).tdiv 2048 = (a : Int) := by rw [Int.tdiv_eq_ediv_of_nonneg (by omega)]; omega
  have t1' : (wd : Int) / 2048 = (a : Int) := by omega
  have t0 : IntKind.u64.wrap (a : Int) = (a : Int) := by rw [IntKind.wrap_u64]; omega
  have t2 : IntKind.u64.wrap (q : Int) = (q : Int) := by rw [IntKind.wrap_u64]; omega
  have t3 : IntKind.u64.wrap ((a : Int) * (q : Int)) = (b : Int) := by
    have : (a : Int) * (q : Int) = (b : Int) := by rw [← hab]; simp
    rw [this, IntKind.wrap_u64]; omega
  have HOK2 := Lib.hid hok2
  have HLT : Hid (b < wd ∧ b + wd / 2048 * 31 ≤ wd ∧ wd < 4294967296) := Lib.hid ⟨by omega, by omega, hwhi⟩
  by_cases hz : bit = 0
  · have HZ : Hid (decide (bit = 0) = true) := Lib.hid (decide_eq_true hz)
    subst hz
    have H2 : Hid (RCr (W.drew.setCell ⟨g, 1, none⟩ (.int .u64 (b : Int))) g gl base (Cd.mk low b k).out b) := Lib.hid ((hr.below (Below.refl _ _).drew).wide b)
    have HO2 : Hid (Only (fun j => j = g) W (W.drew.setCell ⟨g, 1, none⟩ (.int .u64 (b : Int)))) := Lib.hid ((Only.refl (fun j => j = g) W).drew.setCell (p := ⟨g, 1, none⟩) (.inl rfl) _)
    have HS2 : Hid ((W.drew.setCell ⟨g, 1, none⟩ (.int .u64 (b : Int))).heap.size = W.heap.size) := Lib.hid (by simp [World.setCell])
    have c1d : W.drew.cell? ⟨g, 1, none⟩ = some (.int .u64 (wd : Int)) := c1
    have f1d : W.drew.frozen? ⟨g, 1, none⟩ = false := f1
    have HK := Lib.hid hk
    have HBASE := Lib.hid hbase
    clear hr hok hok2 hfit hwlo hwhi hb1 hb2 hab ha hb hnum hlen hq hv hk hbase hhl hhh
    go_enter Try.func14, Try.ntmps14
    go_wp2_with fail
    refine wp_region_still_tail 9 (by kernel_rfl) (by kernel_rfl) ?_
    simp only [List.take_succ_cons, List.take_zero, List.drop_succ_cons, List.drop_zero]
    iterate 6 still_step
    still_call (HOLD.out _)
    iterate 2 still_step
    refine wpStill_nil ?_
    go_wp2_with fail
    obtain ⟨W2, hW2⟩ : ∃ V, W.drew.setCell ⟨g, 1, none⟩ (.int .u64 (b : Int)) = V := ⟨_, rfl⟩
    rw [hW2] at H2 HO2 HS2
    have HW2 : Hid ((W.setCell ⟨g, 1, none⟩ (.int .u64 (b : Int))).drew = W2) := Lib.hid hW2
    clear hW2
    rw [HW2.out]
    with_reducible refine (rstretch15_any low b k H2.out (by have := HLT.out; omega) HK.out (by rw [HS2.out]; exact HBASE.out)).mono ?_
    rintro e w3 ⟨rfl, gl', h3, hgl, ho3⟩
    have HE : Hid (RCp W g gl base ((Cd.mk low wd k).bit p true) w3) := Lib.hid ⟨gl', ⟨by have := HOK2.out; rw [HZ.out] at this; exact this, by rw [HSTEP.out]; exact h3⟩, by rw [HS2.out] at hgl; exact hgl, HO2.out.join ho3 (fun j e => .inl e) (fun j e => e)⟩
    clear h3 hgl ho3 H2 HO2 HS2 HW2
    go_wp2_with fail
    with_reducible refine (HAD.out _).mono ?_
    rintro e w4 ⟨rfl, rfl⟩
    go_wp2_with fail
    go_ret
    exact ⟨rfl, HE.out⟩
  · have HZ : Hid (decide (bit = 0) = false) := Lib.hid (decide_eq_false hz)
    have hz2 : decide (bit = 0) = false := HZ.out
    have HA : Hid (∀ W' : World, RCr W' g gl base (Cd.mk low wd k).out wd → Calls Try.prog 30 #[.pointer (some ⟨g, 0, none⟩), .int .u64 (b : Int)] W' fun e w' => e = .returned (.tuple #[]) ∧ RCr w' g gl base (Cd.mk (low + b) wd k).out wd ∧ Only (fun j => j = gl) W' w') := Lib.hid fun W' h' => by
      have := radd15_any h' b (by omega) (by rw [hnum, hlen, pow4]; have := HLT.out; omega) (by rw [hlen]; omega)
      rw [hnum, hlen] at this
      exact this
    have HRD : Hid (RCr W.drew g gl base (Cd.mk low wd k).out wd) := Lib.hid (hr.below (Below.refl _ _).drew)
    have t4 : IntKind.u64.wrap ((wd : Int) - (b : Int)) = ((wd - b : Nat) : Int) := by rw [IntKind.wrap_u64]; have := HLT.out; omega
    obtain ⟨x, hx⟩ : ∃ x, wd - b = x := ⟨_, rfl⟩
    rw [hx] at t4 HSTEP
    have c1d : W.drew.cell? ⟨g, 1, none⟩ = some (.int .u64 (wd : Int)) := c1
    have hxl : x < 4294967296 := by have := HLT.out; omega
    have HX := Lib.hid hxl
    have HK := Lib.hid hk
    have HBASE := Lib.hid hbase
    clear hr hok hok2 hfit hwlo hwhi hb1 hb2 hab ha hb hnum hlen hq hv hk hbase hhl hhh hx hxl
    go_enter Try.func14, Try.ntmps14
    go_wp2_with fail
    refine wp_region_still_tail 9 (by kernel_rfl) (by kernel_rfl) ?_
    simp only [List.take_succ_cons, List.take_zero, List.drop_succ_cons, List.drop_zero]
    iterate 6 still_step
    still_call (HOLD.out _)
    iterate 2 still_step
    refine wpStill_nil ?_
    go_wp2_with fail
    with_reducible refine (HA.out _ HRD.out).mono ?_
    rintro e w2 ⟨rfl, h2, ho2⟩
    have c2 := h2.cell1
    have f2 := h2.fz 1
    have H3 : Hid (RCr (w2.setCell ⟨g, 1, none⟩ (.int .u64 (x : Int))) g gl base (Cd.mk (low + b) x k).out x) := Lib.hid (h2.wide x)
    have HO3 : Hid (Only (fun j => j = g ∨ j = gl) W (w2.setCell ⟨g, 1, none⟩ (.int .u64 (x : Int)))) := Lib.hid (((Only.refl (fun j => j = gl) W).drew.join ho2 (H := fun j => j = g ∨ j = gl) (fun j e => .inr e) (fun j e => .inr e)).setCell (p := ⟨g, 1, none⟩) (.inl (.inl rfl)) _)
    clear h2 ho2 c1 c1d HA HRD
    go_wp2_with fail
    obtain ⟨W3, hW3⟩ : ∃ V, w2.setCell ⟨g, 1, none⟩ (.int .u64 (x : Int)) = V := ⟨_, rfl⟩
    rw [hW3] at H3 HO3
    rw [hW3]
    clear hW3 c2 f2
    with_reducible refine (rstretch15_any (low + b) x k H3.out HX.out HK.out (Nat.le_trans HBASE.out HO3.out.size)).mono ?_
    rintro e w4 ⟨rfl, gl', h4, hgl, ho4⟩
    have HE : Hid (RCp W g gl base ((Cd.mk low wd k).bit p (decide (bit = 0))) w4) := Lib.hid ⟨gl', ⟨HOK2.out, by rw [HSTEP.out, HZ.out]; exact h4⟩, by rcases hgl with e | e; exact .inl e; exact .inr (Nat.le_trans HO3.out.size e), HO3.out.join ho4 (fun j e => e) (fun j e => e)⟩
    clear h4 hgl ho4 H3 HO3
    go_wp2_with fail
    with_reducible refine (HAD.out _).mono ?_
    rintro e w5 ⟨rfl, rfl⟩
    go_wp2_with fail
    go_ret
    exact ⟨rfl, HE.out⟩

set_option maxHeartbeats 3200000 in
theorem rchalf_any {W : World} {g gl base : Nat} {c : Cd} (h : RCo W g gl base c) (hk : c.k ≤ 100000) (hbase : base ≤ W.heap.size) (bit : Int) : Calls Try.prog 16 #[.pointer (some ⟨g, 0, none⟩), .int .i64 bit] W
    fun e w' => e = .returned (.tuple #[]) ∧ RCp W g gl base (c.half (decide (bit = 0))) w' := by
  obtain ⟨hok, hr⟩ := h
  have c1 := hr.cell1
  have f1 := hr.fz 1
  have hwlo := hok.lo
  have hwhi := hok.hi
  have hfit := hok.fit
  have hok2 := Cd.half_ok hok (decide (bit = 0))
  obtain ⟨b, hb⟩ : ∃ b, c.w / 2 = b := ⟨_, rfl⟩
  have HSTEP : Hid (∀ z, c.half z = Cd.str (if z then ⟨c.low, b, c.k⟩ else ⟨c.low + b, b, c.k⟩)) := Lib.hid fun z => by rw [← hb]; rfl
  obtain ⟨low, wd, k⟩ := c
  simp only at *
  have hnum : bgN (Cd.mk low wd k).out = low := Cd.out_num hok
  have hlen : (Cd.mk low wd k).out.length = 4 + k := Cd.out_len _
  have t1 : (wd : Int).tdiv 2 = (b : Int) := by rw [Int.tdiv_eq_ediv_of_nonneg (by omega)]; omega
  have t1' : (wd : Int) / 2 = (b : Int) := by omega
  have t0 : IntKind.u64.wrap (b : Int) = (b : Int) := by rw [IntKind.wrap_u64]; omega
  have HOK2 := Lib.hid hok2
  have HBL : Hid (b < 4294967296) := Lib.hid (by omega)
  have H2 : Hid (RCr (W.setCell ⟨g, 1, none⟩ (.int .u64 (b : Int))) g gl base (Cd.mk low b k).out b) := Lib.hid (hr.wide b)
  have HO2 : Hid (Only (fun j => j = g ∨ j = gl) W (W.setCell ⟨g, 1, none⟩ (.int .u64 (b : Int)))) := Lib.hid ((Only.refl (fun j => j = g ∨ j = gl) W).setCell (p := ⟨g, 1, none⟩) (.inl (.inl rfl)) _)
  have HA : Hid (∀ W' : World, RCr W' g gl base (Cd.mk low b k).out b → Calls Try.prog 30 #[.pointer (some ⟨g, 0, none⟩), .int .u64 (b : Int)] W' fun e w' => e = .returned (.tuple #[]) ∧ RCr w' g gl base (Cd.mk (low + b) b k).out b ∧ Only (fun j => j = gl) W' w') := Lib.hid fun W' h' => by
    have h2 : RCr W' g gl base (Cd.mk low wd k).out b := h'
    have := radd15_any h2 b (by omega) (by rw [hnum, hlen, pow4]; omega) (by rw [hlen]; omega)
    rw [hnum, hlen] at this
    exact this
  have HK := Lib.hid hk
  have HBASE := Lib.hid hbase
  clear hr hok hok2 hfit hwlo hwhi hb hnum hlen hk hbase
  by_cases hz : bit = 0
  · have HZ : Hid (decide (bit = 0) = true) := Lib.hid (decide_eq_true hz)
    subst hz
    go_enter Try.func16, Try.ntmps16
    go_wp2_with fail
    obtain ⟨W2, hW2⟩ : ∃ V, W.setCell ⟨g, 1, none⟩ (.int .u64 (b : Int)) = V := ⟨_, rfl⟩
    rw [hW2] at H2 HO2
    rw [hW2]
    clear hW2
    with_reducible refine (rstretch15_any low b k H2.out HBL.out HK.out (Nat.le_trans HBASE.out HO2.out.size)).mono ?_
    rintro e w3 ⟨rfl, gl', h3, hgl, ho3⟩
    have HE : Hid (RCp W g gl base ((Cd.mk low wd k).half true) w3) := Lib.hid ⟨gl', ⟨by have := HOK2.out; rw [HZ.out] at this; exact this, by rw [HSTEP.out]; exact h3⟩, by rcases hgl with e | e; exact .inl e; exact .inr (Nat.le_trans HO2.out.size e), HO2.out.join ho3 (fun j e => e) (fun j e => e)⟩
    clear h3 hgl ho3 H2 HO2
    go_wp2_with fail
    refine bodyPost_end (results_none rfl _ _ _) rfl ?_
    exact ⟨rfl, HE.out⟩
  · have HZ : Hid (decide (bit = 0) = false) := Lib.hid (decide_eq_false hz)
    have hz2 : decide (bit = 0) = false := HZ.out
    have c2 := H2.out.cell1
    go_enter Try.func16, Try.ntmps16
    go_wp2_with fail
    with_reducible refine (HA.out _ H2.out).mono ?_
    rintro e w2 ⟨rfl, h2, ho2⟩
    have H3 := Lib.hid h2
    have HO3 : Hid (Only (fun j => j = g ∨ j = gl) W w2) := Lib.hid (HO2.out.join ho2 (fun j e => e) (fun j e => .inr e))
    clear h2 ho2 H2 HO2 HA c1 f1 c2
    go_wp2_with fail
    with_reducible refine (rstretch15_any (low + b) b k H3.out HBL.out HK.out (Nat.le_trans HBASE.out HO3.out.size)).mono ?_
    rintro e w4 ⟨rfl, gl', h4, hgl, ho4⟩
    have HE : Hid (RCp W g gl base ((Cd.mk low wd k).half (decide (bit = 0))) w4) := Lib.hid ⟨gl', ⟨HOK2.out, by rw [HSTEP.out, HZ.out]; exact h4⟩, by rcases hgl with e | e; exact .inl e; exact .inr (Nat.le_trans HO3.out.size e), HO3.out.join ho4 (fun j e => e) (fun j e => e)⟩
    clear h4 hgl ho4 H3 HO3
    go_wp2_with fail
    refine bodyPost_end (results_none rfl _ _ _) rfl ?_
    exact ⟨rfl, HE.out⟩
end Go.Proofs.Ytlbkpmcccipfhaa

