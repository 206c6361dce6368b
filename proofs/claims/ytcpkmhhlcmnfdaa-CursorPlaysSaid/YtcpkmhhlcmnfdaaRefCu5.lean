/- The reference's cursor: NewCursor. -/
import Derived.Test.YtcpkmhhlcmnfdaaRefCu4
namespace Go.Proofs.Ytcpkmhhlcmnfdaa
open Go.RowKit
set_option linter.unusedVariables false
set_option maxRecDepth 100000

def RNewG (a c gf hB hW kB kW : Nat) (f : Fl) (n : Int) (w : World) (e : Ending) (w' : World) : Prop :=
  Below w.heap.size w w' ∧
  if n < 0 ∨ (c : Int) * 1024 < n then e = .returned (.tuple #[.pointer none, .int .i64 1])
  else if (rgRead f a c (n / 8 * 8) (n % 8)).2 ≠ 0 then e = .returned (.tuple #[.pointer none, .int .i64 (rgRead f a c (n / 8 * 8) (n % 8)).2])
  else ∃ q : CuAd, w.heap.size ≤ q.g ∧ w.heap.size ≤ q.r ∧ w.heap.size ≤ q.e ∧ c + 1 ≤ q.cr ∧ e = .returned (.tuple #[.pointer (some ⟨q.g, 0, none⟩), .int .i64 0]) ∧
    ∀ N F, (∀ k, F k → k < w.heap.size) → w'.heap.size ≤ N → RCuP w' q gf hB hW kB kW N a c (n.toNat / 1024) F (cfirst f n.toNat (rgRead f a c (n / 8 * 8) (n % 8)).1)

theorem infoB : (Try.prog.info? 4).map (fun i => (i.zero, i.size, i.bytes)) = some (some (.bool false), 1, 1) := by kernel_rfl
theorem make_bools (k : Nat) (hk : k ≤ 2147483648) (u : World) : (Instr.makeSlice 57 (.int .i64 (k : Int)) (.int .i64 (k : Int))).run Try.prog u =
      .ok (.slice (some ⟨u.heap.size, 0, none⟩) k k) (u.alloc (.cells (madeCells #[.bool false] k) 4)) := by
  obtain ⟨i0, hi, hz0, hz1, hz2⟩ := info_parts infoB
  have h := run_make (P := Try.prog) u 57 4 i0 (.bool false) Try.underlying57 hi hz0 .i64 .i64 (k : Int) (k : Int) (by omega) (Int.le_refl _) (by rw [hz2]; omega) (by omega)
  simpa [hz1, Value.cells] using h
theorem made_flags {w : World} {g c : Nat} (h : w.heap[g]? = some (.cells (madeCells #[.bool false] (c + 1)) 4 (0, 0))) : Flags w g c (fun _ => false) :=
  ⟨_, h, fun j hj => by
    rw [← Array.getElem?_toList, toList_madeCells_one, List.getElem?_replicate, if_pos (by omega)]⟩
theorem rgRead_len0 {f : Fl} {a c : Nat} {t n : Int} {hd : List UInt8} (h : rgRead f a c t n = (hd, 0)) : hd.length = n.toNat := by
  unfold rgRead readOf at h
  by_cases h1 : f.dark = true
  · rw [if_pos h1] at h; exact absurd (congrArg Prod.snd h) (by simp)
  · rw [if_neg h1] at h
    by_cases h2 : 0 ≤ t ∧ 0 ≤ n ∧ t + n ≤ (c : Int) * 1024
    · rw [if_pos h2, if_neg h1] at h
      by_cases h3 : 0 ≤ (a : Int) * 1024 + t ∧ 0 ≤ n ∧ (a : Int) * 1024 + t + n ≤ (f.b.length : Int)
      · rw [if_pos h3] at h
        have e := congrArg Prod.fst h
        dsimp only at e
        rw [← e]
        exact cut_len (by omega)
      · rw [if_neg h3] at h; exact absurd (congrArg Prod.snd h) (by simp)
    · rw [if_neg h2] at h; exact absurd (congrArg Prod.snd h) (by simp)

theorem ob_capN {E : TypeId} {w : World} {base n c : Nat} {A : Option Addr} {l : List UInt8} (ho : Ob E w base (.slice A n c) l) : l.length ≤ c := by
  by_cases h0 : l.length = 0
  · omega
  · have hn := ho.len
    obtain ⟨A', c', e, -, hf⟩ := ho.form
    injection e with e1 e2 e3
    subst e1
    subst e3
    rcases hf with rfl | ⟨g', rfl, -, -⟩
    · obtain ⟨bb, oo, e, -⟩ := ho.bs (by omega)
      cases e
    · have := ho.cap
      omega
theorem rnew_done {w w3 w4 : World} {gf hB hW kB kW a c n r dd base rr ee s : Nat} {f : Fl} {hd : List UInt8} {A3 : Option Addr} {c3 : Nat} {bq : Bool} (hf : ∀ N, RefFl w gf hB hW kB kW N f) (hb3 : Below w.heap.size w w3) (ho : Ob 5 w3 base (.slice A3 hd.length c3) hd) (hbase : w.heap.size ≤ base)
    (hre : (rr = w3.heap.size ∧ ee = w3.heap.size + 1) ∨ (rr = w3.heap.size + 1 ∧ ee = w3.heap.size)) (hdd : c + 1 = dd) (hdr : hd.length = r) (hs : n / 1024 = s) (hn : n ≤ c * 1024) (hbq : bq = decide (n % 1024 ≠ 0))
    (hw4 : w4 = ((w3.alloc (.cells (madeCells #[.bool false] dd) 4)).alloc (.cells (madeCells #[.bool false] dd) 4)).alloc (.cells #[.pointer (some ⟨gf, 0, none⟩), .int .i64 (a : Int), .int .i64 (c : Int), .int .i64 (n : Int), .slice A3 r c3, .int .i64 0, .slice (some ⟨rr, 0, none⟩) dd dd, .slice (some ⟨ee, 0, none⟩) dd dd] 59)) :
    w4.cell? ⟨w3.heap.size + 1 + 1, 6, none⟩ = some (.slice (some ⟨rr, 0, none⟩) dd dd) ∧ w4.cell? ⟨rr, s, none⟩ = some (.bool false) ∧ w4.frozen? ⟨rr, s, none⟩ = false ∧
    Hid (Below w.heap.size w (w4.setCell ⟨rr, s, none⟩ (.bool bq)) ∧ ∃ q : CuAd, w.heap.size ≤ q.g ∧ w.heap.size ≤ q.r ∧ w.heap.size ≤ q.e ∧ c + 1 ≤ q.cr ∧ Ending.returned (.tuple #[.pointer (some ⟨w3.heap.size + 1 + 1, 0, none⟩), .int .i64 0]) = .returned (.tuple #[.pointer (some ⟨q.g, 0, none⟩), .int .i64 0]) ∧
      ∀ N F, (∀ k, F k → k < w.heap.size) → (w4.setCell ⟨rr, s, none⟩ (.bool bq)).heap.size ≤ N → RCuP (w4.setCell ⟨rr, s, none⟩ (.bool bq)) q gf hB hW kB kW N a c (n / 1024) F (cfirst f n hd)) := by
  subst hdd
  subst hdr
  have hsz := hb3.size
  have b34 : Below w3.heap.size w3 w4 := by rw [hw4]; exact (((Below.refl _ _).alloc (Nat.le_refl _) _).alloc (by simp) _).alloc (by simp; omega) _
  have z4 : w4.heap.size = w3.heap.size + 3 := by rw [hw4]; simp
  have e0 : w4.heap[w3.heap.size]? = some (.cells (madeCells #[.bool false] (c + 1)) 4 (0, 0)) := by
    rw [hw4, Below.heap_alloc _ _ _ (by simp; omega), Below.heap_alloc _ _ _ (by simp), heap_alloc_new]
  have e1 : w4.heap[w3.heap.size + 1]? = some (.cells (madeCells #[.bool false] (c + 1)) 4 (0, 0)) := by
    have h := heap_alloc_new (w3.alloc (.cells (madeCells #[.bool false] (c + 1)) 4)) (.cells (madeCells #[.bool false] (c + 1)) 4)
    rw [hw4, Below.heap_alloc _ _ _ (by simp), ← h]
    simp
  have e2 : w4.heap[w3.heap.size + 1 + 1]? = some (.cells #[.pointer (some ⟨gf, 0, none⟩), .int .i64 (a : Int), .int .i64 (c : Int), .int .i64 (n : Int), .slice A3 hd.length c3, .int .i64 0, .slice (some ⟨rr, 0, none⟩) (c + 1) (c + 1), .slice (some ⟨ee, 0, none⟩) (c + 1) (c + 1)] 59 (0, 0)) := by
    have h := heap_alloc_new ((w3.alloc (.cells (madeCells #[.bool false] (c + 1)) 4)).alloc (.cells (madeCells #[.bool false] (c + 1)) 4)) (.cells #[.pointer (some ⟨gf, 0, none⟩), .int .i64 (a : Int), .int .i64 (c : Int), .int .i64 (n : Int), .slice A3 hd.length c3, .int .i64 0, .slice (some ⟨rr, 0, none⟩) (c + 1) (c + 1), .slice (some ⟨ee, 0, none⟩) (c + 1) (c + 1)] 59)
    rw [hw4, ← h]
    simp
  have er : w4.heap[rr]? = some (.cells (madeCells #[.bool false] (c + 1)) 4 (0, 0)) := by rcases hre with ⟨q, -⟩ | ⟨q, -⟩ <;> rw [q] <;> assumption
  have ee' : w4.heap[ee]? = some (.cells (madeCells #[.bool false] (c + 1)) 4 (0, 0)) := by rcases hre with ⟨-, q⟩ | ⟨-, q⟩ <;> rw [q] <;> assumption
  have hfr := made_flags er
  have hfe := made_flags ee'
  have o5 : Only (fun j => j = rr) w4 (w4.setCell ⟨rr, s, none⟩ (.bool bq)) := (Only.refl (fun j => j = rr) w4).own s _
  have b5 : Below w3.heap.size w3 (w4.setCell ⟨rr, s, none⟩ (.bool bq)) := b34.setCell (p := ⟨rr, s, none⟩) (by show w3.heap.size ≤ rr; omega) _
  refine ⟨by rw [cell_of_row _ _ _ _ _ _ e2]; rfl, hfr.at_ (by omega), hfr.frozen s, below_on hb3 b5, ⟨w3.heap.size + 1 + 1, rr, ee, c + 1, c + 1⟩, by dsimp only; omega, by dsimp only; omega, by dsimp only; omega, Nat.le_refl _, rfl, fun N F hF hN => ?_⟩
  have z5 := b5.size
  have z6 := o5.size
  have hb4 := ho.below b34
  refine ⟨(hf N).below (below_on hb3 b5), fun j => if j = s then bq else false, fun _ => false, ⟨⟨A3, c3, ?_, (hb4.bs).only o5 (fun k hk e => ?_), ob_capN ho, fun _ k hk => ?_⟩, hfr.set_ (by omega) bq, hfe.only o5 (fun e => ?_), ?_, ?_, ?_⟩, fun j h1 h2 => ?_, fun j h1 h2 => ?_⟩
  · rw [o5.block _ (by dsimp only; omega) (by dsimp only; omega)]; exact e2
  · have := ho.lt k hk; omega
  · have h1 := ho.fresh k hk
    have h2 := ho.lt k hk
    exact ⟨by dsimp only; omega, by dsimp only; omega, by dsimp only; omega, fun hf => by have := hF k hf; omega⟩
  · have e : ee = rr := e
    omega
  · dsimp only; omega
  · dsimp only
    exact ⟨fun hf => by have := hF _ hf; omega, fun hf => by have := hF _ hf; omega, fun hf => by have := hF _ hf; omega⟩
  · dsimp only; omega
  · show (if j = s then bq else false) = decide (j < (n + 1023) / 1024)
    by_cases q : j = s
    · rw [if_pos q, hbq]
      by_cases q2 : n % 1024 = 0
      · rw [decide_eq_false (by simpa using q2), decide_eq_false (by omega)]
      · rw [decide_eq_true q2, decide_eq_true (by omega)]
    · rw [if_neg q, decide_eq_false (by omega)]
  · show false = decide (j < n / 1024)
    rw [decide_eq_false (by omega)]

set_option maxHeartbeats 6400000 in
theorem rnewc_any (a c : Nat) (w : World) (gf hB hW kB kW : Nat) (f : Fl) (n : Int) (ha : a ≤ 65536) (hc : c ≤ 65535) (hf : ∀ N, RefFl w gf hB hW kB kW N f) (hdl : f.b.length ≤ 2147483648) (n1 : -9223372036854775808 ≤ n) (n2 : n ≤ 9223372036854775807) :
    Calls Try.prog 17 #[.agg #[.pointer (some ⟨gf, 0, none⟩), .int .i64 (a : Int), .int .i64 (c : Int)], .int .i64 n] w (RNewG a c gf hB hW kB kW f n w) := by
  have hcell := box_cells w (.pointer (some ⟨gf, 0, none⟩)) (.int .i64 (a : Int)) (.int .i64 (c : Int)) 40
  have hb0 : Below w.heap.size w (w.alloc (.cells #[.pointer (some ⟨gf, 0, none⟩), .int .i64 (a : Int), .int .i64 (c : Int)] 40)) := (Below.refl _ _).alloc (Nat.le_refl _) _
  obtain ⟨w1, Hw1⟩ : ∃ w1, Hid (w.alloc (.cells #[.pointer (some ⟨gf, 0, none⟩), .int .i64 (a : Int), .int .i64 (c : Int)] 40) = w1) := ⟨_, rfl⟩
  rw [Hw1.out] at hcell hb0
  have HCELL := Lib.hid hcell
  have HB0 := Lib.hid hb0
  have HF := Lib.hid hf
  obtain ⟨m0, m1, m2⟩ := hcell w1 (Below.refl _ _)
  clear hcell hb0
  by_cases hneg : n < 0
  · have d1 : decide (n < 0) = true := decide_eq_true hneg
    suffices h : Calls Try.prog 17 #[.agg #[.pointer (some ⟨gf, 0, none⟩), .int .i64 (a : Int), .int .i64 (c : Int)], .int .i64 n] w (fun e w' => Below w.heap.size w w' ∧ e = .returned (.tuple #[.pointer none, .int .i64 1])) from h.mono fun e w' ⟨h1, h2⟩ => by unfold RNewG; rw [if_pos (.inl hneg)]; exact ⟨h1, h2⟩
    go_enter Try.func17, Try.ntmps17
    go_wp2_with fail
    rw [Hw1.out]
    go_ret2
    exact ⟨HB0.out, rfl⟩
  · have d1 : decide (n < 0) = false := decide_eq_false hneg
    obtain ⟨n, rfl⟩ := Int.eq_ofNat_of_zero_le (by omega : 0 ≤ n)
    by_cases hbig : (c : Int) * 1024 < (n : Int)
    · have d2 : decide ((c : Int) * 1024 < (n : Int)) = true := decide_eq_true hbig
      suffices h : Calls Try.prog 17 #[.agg #[.pointer (some ⟨gf, 0, none⟩), .int .i64 (a : Int), .int .i64 (c : Int)], .int .i64 (n : Int)] w (fun e w' => Below w.heap.size w w' ∧ e = .returned (.tuple #[.pointer none, .int .i64 1])) from h.mono fun e w' ⟨h1, h2⟩ => by unfold RNewG; rw [if_pos (.inr hbig)]; exact ⟨h1, h2⟩
      go_enter Try.func17, Try.ntmps17
      go_wp2_with fail
      rw [Hw1.out]
      go_wp2_with fail
      refine (rgsize_any _ _ c _ (by omega)).mono ?_
      rintro e w2 ⟨rfl, hb2⟩
      have HB2 := Lib.hid (below_on HB0.out hb2)
      clear hb2
      go_wp2_with fail
      go_ret2
      exact ⟨HB2.out, rfl⟩
    · have d2 : decide ((c : Int) * 1024 < (n : Int)) = false := decide_eq_false hbig
      obtain ⟨r, Hr⟩ : ∃ r, Hid (n % 8 = r) := ⟨_, rfl⟩
      obtain ⟨b, Hb⟩ : ∃ b, Hid (n / 8 * 8 = b) := ⟨_, rfl⟩
      have hr8 : r < 8 := by have := Hr.out; omega
      have hbr : b + r = n := by have := Hr.out; have := Hb.out; omega
      have hq1 : (n : Int) % 8 = (r : Int) := by have := Hr.out; omega
      have hq4 : (n : Int) / 8 * 8 = (b : Int) := by have := Hb.out; omega
      have hq3 : (n : Int) - (b : Int) = (r : Int) := by omega
      obtain ⟨hd, he, Hd⟩ : ∃ hd he, Hid (rgRead f a c (b : Int) (r : Int) = (hd, he)) := ⟨_, _, rfl⟩
      have HRD : Hid (∀ W, Below w1.heap.size w1 W → Calls Try.prog 45 #[.agg #[.pointer (some ⟨gf, 0, none⟩), .int .i64 (a : Int), .int .i64 (c : Int)], .int .i64 (b : Int), .int .i64 (r : Int)] W (ReadPost W (hd, he))) := Lib.hid fun W hW => by
        rw [← Hd.out]
        exact rgread_any (N := 0) (((HF.out 0).below HB0.out).below hW) a c ha (by omega) (b : Int) (r : Int) (by omega) (by omega) (by omega) (by omega) hdl
      have HQ := Lib.hid (And.intro hq1 hq4)
      clear hq1 hf
      by_cases he0 : he = 0
      · subst he0
        suffices h : Calls Try.prog 17 #[.agg #[.pointer (some ⟨gf, 0, none⟩), .int .i64 (a : Int), .int .i64 (c : Int)], .int .i64 (n : Int)] w (fun e w' => Below w.heap.size w w' ∧ ∃ q : CuAd, w.heap.size ≤ q.g ∧ w.heap.size ≤ q.r ∧ w.heap.size ≤ q.e ∧ c + 1 ≤ q.cr ∧ e = .returned (.tuple #[.pointer (some ⟨q.g, 0, none⟩), .int .i64 0]) ∧ ∀ N F, (∀ k, F k → k < w.heap.size) → w'.heap.size ≤ N → RCuP w' q gf hB hW kB kW N a c (n / 1024) F (cfirst f n hd)) from h.mono fun e w' ⟨h1, h2⟩ => by unfold RNewG; rw [if_neg (by omega), HQ.out.1, HQ.out.2, Int.toNat_natCast, Hd.out, if_neg (by simp)]; exact ⟨h1, h2⟩
        have hdr : hd.length = r := by
          have := rgRead_len0 Hd.out
          omega
        have Hdr := Lib.hid hdr
        go_enter Try.func17, Try.ntmps17
        go_wp2_with fail
        rw [Hw1.out]
        go_wp2_with fail
        refine (rgsize_any _ _ c _ (by omega)).mono ?_
        rintro e w2 ⟨rfl, hb2⟩
        obtain ⟨k0, k1, k2⟩ := HCELL.out w2 hb2
        have HB2 := Lib.hid (below_on (Below.refl _ _) hb2)
        clear hb2
        go_wp2_with fail
        refine (HRD.out _ HB2.out).mono ?_
        rintro e w3 ⟨v, rfl, ho, hb3⟩
        obtain ⟨j0, j1, j2⟩ := HCELL.out w3 (below_on HB2.out hb3)
        obtain ⟨A3, c3, rfl, -, -⟩ := ho.form
        rw [hdr]
        have HB3 := Lib.hid (below_on HB2.out hb3)
        have HOB := Lib.hid ho
        have HBASE : Hid (w.heap.size ≤ w2.heap.size) := Lib.hid (by have := HB0.out.size; have := HB2.out.size; omega)
        obtain ⟨dd, Hdd⟩ : ∃ dd, Hid (c + 1 = dd) := ⟨_, rfl⟩
        have hdd : dd ≤ 65536 := by have := Hdd.out; omega
        have hcw1 : IntKind.i64.wrap ((c : Int) + 1) = (dd : Int) := by
          rw [show (c : Int) + 1 = (dd : Int) by have := Hdd.out; omega]
          exact IntWalk.i64_in _ (by omega)
        have hcw2 : IntKind.i64.wrap (dd : Int) = (dd : Int) := IntWalk.i64_in _ (by omega)
        have mk := make_bools dd (by omega)
        obtain ⟨s, Hss⟩ : ∃ s, Hid (n / 1024 = s) := ⟨_, rfl⟩
        have hss : s < dd := by have := Hss.out; have := Hdd.out; omega
        have hsq : (n : Int) / 1024 = (s : Int) := by have := Hss.out; omega
        have hs2 : (s : Int) < (dd : Int) := by omega
        obtain ⟨bq, Hbq⟩ : ∃ bq, Hid (bq = decide (n % 1024 ≠ 0)) := ⟨_, rfl⟩
        have hbq1 : ((n : Int) % 1024 != 0) = bq := by
          rw [Hbq.out, Bool.eq_iff_iff]
          simp
          omega
        have N0 : ∀ W, Below w3.heap.size w3 W → W.cell? ⟨w.heap.size, 0, none⟩ = some (.pointer (some ⟨gf, 0, none⟩)) := fun W hW => (HCELL.out W (below_on HB3.out hW)).1
        have N1 : ∀ W, Below w3.heap.size w3 W → W.cell? ⟨w.heap.size, 1, none⟩ = some (.int .i64 (a : Int)) := fun W hW => (HCELL.out W (below_on HB3.out hW)).2.1
        have N2 : ∀ W, Below w3.heap.size w3 W → W.cell? ⟨w.heap.size, 2, none⟩ = some (.int .i64 (c : Int)) := fun W hW => (HCELL.out W (below_on HB3.out hW)).2.2
        have hS0 : Below w3.heap.size w3 w3 := Below.refl _ _
        clear ho hb3 k0 k1 k2 m0 m1 m2 hdr
        go_wp2_with fail
        go_region_held3 (fun W => Below w3.heap.size w3 W) (first | assumption | exact Below.drew (by assumption) | exact Below.alloc (by assumption) (Below.size (by assumption)) _) (fail)
        all_goals
          first
            | (obtain ⟨w4, Hw4⟩ : ∃ w4, Hid (((w3.alloc (.cells (madeCells #[.bool false] dd) 4)).alloc (.cells (madeCells #[.bool false] dd) 4)).alloc (.cells #[.pointer (some ⟨gf, 0, none⟩), .int .i64 (a : Int), .int .i64 (c : Int), .int .i64 (n : Int), .slice A3 r c3, .int .i64 0, .slice (some ⟨w3.heap.size, 0, none⟩) dd dd, .slice (some ⟨w3.heap.size + 1, 0, none⟩) dd dd] 59) = w4) := ⟨_, rfl⟩; rw [Hw4.out]; have hst := rnew_done (a := a) (w := w) (w3 := w3) HF.out (below_on HB0.out HB3.out) HOB.out HBASE.out (.inl ⟨rfl, rfl⟩) Hdd.out Hdr.out Hss.out (by omega) Hbq.out Hw4.out.symm; obtain ⟨k6, kr, fr, HE⟩ := hst; go_wp2_with fail; go_ret2; first | exact HE.out | (obtain ⟨h1, q, h2, h3, h4, h5, h6, h7⟩ := HE.out; exact ⟨h1.drew, q, h2, h3, h4, h5, h6, fun N F hF hN => (h7 N F hF hN).below (Below.refl _ _).drew⟩))
            | (obtain ⟨w4, Hw4⟩ : ∃ w4, Hid (((w3.alloc (.cells (madeCells #[.bool false] dd) 4)).alloc (.cells (madeCells #[.bool false] dd) 4)).alloc (.cells #[.pointer (some ⟨gf, 0, none⟩), .int .i64 (a : Int), .int .i64 (c : Int), .int .i64 (n : Int), .slice A3 r c3, .int .i64 0, .slice (some ⟨w3.heap.size + 1, 0, none⟩) dd dd, .slice (some ⟨w3.heap.size, 0, none⟩) dd dd] 59) = w4) := ⟨_, rfl⟩; rw [Hw4.out]; have hst := rnew_done (a := a) (w := w) (w3 := w3) HF.out (below_on HB0.out HB3.out) HOB.out HBASE.out (.inr ⟨rfl, rfl⟩) Hdd.out Hdr.out Hss.out (by omega) Hbq.out Hw4.out.symm; obtain ⟨k6, kr, fr, HE⟩ := hst; go_wp2_with fail; go_ret2; first | exact HE.out | (obtain ⟨h1, q, h2, h3, h4, h5, h6, h7⟩ := HE.out; exact ⟨h1.drew, q, h2, h3, h4, h5, h6, fun N F hF hN => (h7 N F hF hN).below (Below.refl _ _).drew⟩))
      · have he2 : (he == 0) = false := by simpa using he0
        suffices h : Calls Try.prog 17 #[.agg #[.pointer (some ⟨gf, 0, none⟩), .int .i64 (a : Int), .int .i64 (c : Int)], .int .i64 (n : Int)] w (fun e w' => Below w.heap.size w w' ∧ e = .returned (.tuple #[.pointer none, .int .i64 he])) from h.mono fun e w' ⟨h1, h2⟩ => by unfold RNewG; rw [if_neg (by omega), HQ.out.1, HQ.out.2, Hd.out, if_pos he0]; exact ⟨h1, h2⟩
        go_enter Try.func17, Try.ntmps17
        go_wp2_with fail
        rw [Hw1.out]
        go_wp2_with fail
        refine (rgsize_any _ _ c _ (by omega)).mono ?_
        rintro e w2 ⟨rfl, hb2⟩
        obtain ⟨k0, k1, k2⟩ := HCELL.out w2 hb2
        have HB2 := Lib.hid (below_on (Below.refl _ _) hb2)
        clear hb2
        go_wp2_with fail
        refine (HRD.out _ HB2.out).mono ?_
        rintro e w3 ⟨v, rfl, ho, hb3⟩
        have HB3 := Lib.hid (below_on HB0.out (below_on HB2.out hb3))
        clear ho hb3
        go_wp2_with fail
        go_ret2
        exact ⟨HB3.out, rfl⟩
end Go.Proofs.Ytcpkmhhlcmnfdaa

