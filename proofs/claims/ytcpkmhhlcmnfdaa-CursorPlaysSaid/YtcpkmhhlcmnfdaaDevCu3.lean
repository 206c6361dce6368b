/- The contracts of the program's cursor: New; what is asked of it is so. -/
import Derived.Test.YtcpkmhhlcmnfdaaDevCu2
import Derived.Test.YtcpkmhhlcmnfdaaLaw4Full
import Derived.Deep.DeepMust
namespace Go.Proofs.Ytcpkmhhlcmnfdaa
open Go.RowKit
set_option linter.unusedVariables false
set_option maxRecDepth 100000

def CNewG (a c : Nat) (fa : FA) (d : Dl) (n : Int) (w : World) (e : Ending) (w' : World) : Prop :=
  Below w.heap.size w w' ∧
  if n < 0 ∨ (c : Int) * 1024 < n then e = .returned (.tuple #[.pointer none, .int .i64 1])
  else if (dgRead d a c (n / 8 * 8) (n % 8)).2 ≠ 0 then e = .returned (.tuple #[.pointer none, .int .i64 (dgRead d a c (n / 8 * 8) (n % 8)).2])
  else ∃ g, w.heap.size ≤ g ∧ e = .returned (.tuple #[.pointer (some ⟨g, 0, none⟩), .int .i64 0]) ∧ (∀ G, g ≤ G → CuP a c fa G g w' (cfirst d n.toNat (dgRead d a c (n / 8 * 8) (n % 8)).1) (OwnF fa g))

theorem splice_get {α : Type} {L cs : List α} {off j : Nat} (h : off + cs.length ≤ L.length) : (splice L off cs)[j]? = if off ≤ j ∧ j < off + cs.length then cs[j - off]? else L[j]? := by
  unfold splice
  simp only [List.getElem?_append, List.getElem?_take, List.getElem?_drop, List.length_take]
  have e : min off L.length = off := by omega
  rw [e]
  grind

theorem dgRead_len {d : Dl} {a c : Nat} {t n : Int} {hd : List UInt8} (h : dgRead d a c t n = (hd, 0)) : hd.length = n.toNat := by
  unfold dgRead dreadOf at h
  by_cases h1 : d.off = true
  · rw [if_pos h1] at h; exact absurd (congrArg Prod.snd h) (by simp)
  · rw [if_neg h1] at h
    by_cases h2 : 0 ≤ t ∧ 0 ≤ n ∧ t + n ≤ (c : Int) * 1024
    · rw [if_pos h2, if_neg h1] at h
      by_cases h3 : 0 ≤ (a : Int) * 1024 + t ∧ 0 ≤ n ∧ (a : Int) * 1024 + t + n ≤ (d.b.length : Int)
      · rw [if_pos h3] at h
        have e := congrArg Prod.fst h
        dsimp only at e
        rw [← e]
        exact cut_len (by omega)
      · rw [if_neg h3] at h; exact absurd (congrArg Prod.snd h) (by simp)
    · rw [if_neg h2] at h; exact absurd (congrArg Prod.snd h) (by simp)

set_option maxHeartbeats 3200000 in
theorem cnew_any (a c : Nat) (w : World) (fa : FA) (d : Dl) (n : Int) (ha : a ≤ 65536) (hc : c ≤ 65536) (hf : fa.In w d) (ok : DlOk d) (hpk : d.pick.length = 0) (hlen : (a + c) * 1024 ≤ d.b.length) (n1 : -9223372036854775808 ≤ n) (n2 : n ≤ 9223372036854775807) :
    Calls Try.prog 16 #[.agg #[.pointer (some ⟨fa.g, 0, none⟩), .int .i64 (a : Int), .int .i64 (c : Int)], .int .i64 n] w (CNewG a c fa d n w) := by
  have hdl : d.b.length ≤ 2147483648 := by have := ok.len; have := ok.few; omega
  have hcell := box_cells w (.pointer (some ⟨fa.g, 0, none⟩)) (.int .i64 (a : Int)) (.int .i64 (c : Int)) 35
  have hb0 : Below w.heap.size w (w.alloc (.cells #[.pointer (some ⟨fa.g, 0, none⟩), .int .i64 (a : Int), .int .i64 (c : Int)] 35)) := (Below.refl _ _).alloc (Nat.le_refl _) _
  obtain ⟨w1, Hw1⟩ : ∃ w1, Hid (w.alloc (.cells #[.pointer (some ⟨fa.g, 0, none⟩), .int .i64 (a : Int), .int .i64 (c : Int)] 35) = w1) := ⟨_, rfl⟩
  rw [Hw1.out] at hcell hb0
  have HCELL := Lib.hid hcell
  have HB0 := Lib.hid hb0
  have HF1 := Lib.hid (DevFl.below hf hb0)
  obtain ⟨m0, m1, m2⟩ := hcell w1 (Below.refl _ _)
  clear hcell hb0
  by_cases hneg : n < 0
  · have d1 : decide (n < 0) = true := decide_eq_true hneg
    suffices h : Calls Try.prog 16 #[.agg #[.pointer (some ⟨fa.g, 0, none⟩), .int .i64 (a : Int), .int .i64 (c : Int)], .int .i64 n] w (fun e w' => Below w.heap.size w w' ∧ e = .returned (.tuple #[.pointer none, .int .i64 1])) from h.mono fun e w' ⟨h1, h2⟩ => by unfold CNewG; rw [if_pos (.inl hneg)]; exact ⟨h1, h2⟩
    go_enter Try.func16, Try.ntmps16
    go_wp2_with fail
    rw [Hw1.out]
    go_ret2
    exact ⟨HB0.out, rfl⟩
  · have d1 : decide (n < 0) = false := decide_eq_false hneg
    obtain ⟨n, rfl⟩ := Int.eq_ofNat_of_zero_le (by omega : 0 ≤ n)
    by_cases hbig : (c : Int) * 1024 < (n : Int)
    · have d2 : decide ((c : Int) * 1024 < (n : Int)) = true := decide_eq_true hbig
      suffices h : Calls Try.prog 16 #[.agg #[.pointer (some ⟨fa.g, 0, none⟩), .int .i64 (a : Int), .int .i64 (c : Int)], .int .i64 (n : Int)] w (fun e w' => Below w.heap.size w w' ∧ e = .returned (.tuple #[.pointer none, .int .i64 1])) from h.mono fun e w' ⟨h1, h2⟩ => by unfold CNewG; rw [if_pos (.inr hbig)]; exact ⟨h1, h2⟩
      go_enter Try.func16, Try.ntmps16
      go_wp2_with fail
      rw [Hw1.out]
      go_wp2_with fail
      refine (dgsize_any _ _ c _ hc).mono ?_
      rintro e w2 ⟨rfl, hb2⟩
      have HB2 := Lib.hid (below_on HB0.out hb2)
      clear hb2
      go_wp2_with fail
      go_ret2
      exact ⟨HB2.out, rfl⟩
    · have d2 : decide ((c : Int) * 1024 < (n : Int)) = false := decide_eq_false hbig
      obtain ⟨r, Hr⟩ : ∃ r, Hid (n % 8 = r) := ⟨_, rfl⟩
      obtain ⟨b, Hb⟩ : ∃ b, Hid (n / 8 * 8 = b) := ⟨_, rfl⟩
      have hr8 : r < 8 := by have := Hr.out; omega
      have hbr : b + r = n := by have := Hr.out; have := Hb.out; omega
      have hq1 : (n : Int) % 8 = (r : Int) := by have := Hr.out; omega
      have hq2 : (n : Int) - (r : Int) = (b : Int) := by omega
      have hq3 : (n : Int) - (b : Int) = (r : Int) := by omega
      have hq4 : (n : Int) / 8 * 8 = (b : Int) := by have := Hb.out; omega
      obtain ⟨hi0, Hhi⟩ : ∃ hi0, Hid ((n + 1023) / 1024 = hi0) := ⟨_, rfl⟩
      have hq5 : ((n : Int) + 1024 - 1) / 1024 = (hi0 : Int) := by have := Hhi.out; omega
      obtain ⟨hd, he, Hd⟩ : ∃ hd he, Hid (dgRead d a c (b : Int) (r : Int) = (hd, he)) := ⟨_, _, rfl⟩
      have HRD : Hid (∀ W, Below w1.heap.size w1 W → Calls Try.prog 43 #[.agg #[.pointer (some ⟨fa.g, 0, none⟩), .int .i64 (a : Int), .int .i64 (c : Int)], .int .i64 (b : Int), .int .i64 (r : Int)] W (ReadPost W (hd, he))) := Lib.hid fun W hW => by
        rw [← Hd.out]
        exact dgread_any (HF1.out.below hW) a c ha hc (b : Int) (r : Int) (by omega) (by omega) (by omega) (by omega) hdl
      have HQ4 := Lib.hid hq4
      clear hq4
      by_cases he0 : he = 0
      · subst he0
        suffices h : Calls Try.prog 16 #[.agg #[.pointer (some ⟨fa.g, 0, none⟩), .int .i64 (a : Int), .int .i64 (c : Int)], .int .i64 (n : Int)] w (fun e w' => Below w.heap.size w w' ∧ ∃ g, w.heap.size ≤ g ∧ e = .returned (.tuple #[.pointer (some ⟨g, 0, none⟩), .int .i64 0]) ∧ (∀ G, g ≤ G → CuP a c fa G g w' (cfirst d n hd) (OwnF fa g))) from h.mono fun e w' ⟨h1, h2⟩ => by unfold CNewG; rw [if_neg (by omega), hq1, HQ4.out, Int.toNat_natCast, Hd.out, if_neg (by simp)]; exact ⟨h1, h2⟩
        go_enter Try.func16, Try.ntmps16
        go_wp2_with fail
        rw [Hw1.out]
        go_wp2_with fail
        refine (dgsize_any _ _ c _ hc).mono ?_
        rintro e w2 ⟨rfl, hb2⟩
        obtain ⟨k0, k1, k2⟩ := HCELL.out w2 hb2
        have HB2 := Lib.hid (below_on (Below.refl _ _) hb2)
        clear hb2
        go_wp2_with fail
        refine (HRD.out _ HB2.out).mono ?_
        rintro e w3 ⟨v, rfl, ho, hb3⟩
        obtain ⟨j0, j1, j2⟩ := HCELL.out w3 (below_on HB2.out hb3)
        obtain ⟨A3, c3, rfl, hbs, -⟩ := ho.form
        have HB3 := Lib.hid (below_on HB2.out hb3)
        have hdr : hd.length = r := by
          have := dgRead_len Hd.out
          omega
        rw [hdr]
        obtain ⟨cs, Hcs⟩ : ∃ cs, Hid (hd.map bval = cs) := ⟨_, rfl⟩
        have hcl : cs.length = r := by rw [← Hcs.out, List.length_map, hdr]
        have Hdr := Lib.hid hdr
        have HBS := Lib.hid hbs
        obtain ⟨cur, Hcur⟩ : ∃ cur : List Value, Hid (cur = [.pointer (some ⟨fa.g, 0, none⟩), .int .i64 (a : Int), .int .i64 (c : Int), .int .i64 (n : Int), .int .u8 0, .int .u8 0, .int .u8 0, .int .u8 0, .int .u8 0, .int .u8 0, .int .u8 0, .int .u8 0, .int .i64 0, .int .i64 (hi0 : Int), .int .i64 0]) := ⟨_, rfl⟩
        have hcz : cur.length = 15 := by rw [Hcur.out]; rfl
        have HG0 : Hid ((w3.alloc (.cells #[.pointer (some ⟨fa.g, 0, none⟩), .int .i64 (a : Int), .int .i64 (c : Int), .int .i64 (n : Int), .int .u8 0, .int .u8 0, .int .u8 0, .int .u8 0, .int .u8 0, .int .u8 0, .int .u8 0, .int .u8 0, .int .i64 0, .int .i64 (hi0 : Int), .int .i64 0] 85)).heap[w3.heap.size]? = some (.cells cur.toArray 85 (0, 0))) := Lib.hid (by rw [heap_alloc_new, Hcur.out])
        have HB4 : Hid (Below w3.heap.size w3 (w3.alloc (.cells #[.pointer (some ⟨fa.g, 0, none⟩), .int .i64 (a : Int), .int .i64 (c : Int), .int .i64 (n : Int), .int .u8 0, .int .u8 0, .int .u8 0, .int .u8 0, .int .u8 0, .int .u8 0, .int .u8 0, .int .u8 0, .int .i64 0, .int .i64 (hi0 : Int), .int .i64 0] 85))) := Lib.hid ((Below.refl _ _).alloc (Nat.le_refl _) _)
        have hpos : 0 < cs.length → (some ⟨w3.heap.size, 4, none⟩ : Option Addr) = some ⟨w3.heap.size, 4, none⟩ ∧ ∃ ad, A3 = some ad ∧ ∀ j v, cs[j]? = some v → (w3.alloc (.cells #[.pointer (some ⟨fa.g, 0, none⟩), .int .i64 (a : Int), .int .i64 (c : Int), .int .i64 (n : Int), .int .u8 0, .int .u8 0, .int .u8 0, .int .u8 0, .int .u8 0, .int .u8 0, .int .u8 0, .int .u8 0, .int .i64 0, .int .i64 (hi0 : Int), .int .i64 0] 85)).cell? (ad.add j) = some v := fun hp => by
          have hb4 := HBS.out.below HB4.out
          obtain ⟨bb, oo, e, -⟩ := hb4 (by rw [Hdr.out, ← hcl]; exact hp)
          subst e
          refine ⟨rfl, _, rfl, ?_⟩
          rw [← Hcs.out]
          exact hb4.news
        have HPOS := Lib.hid hpos
        have h1c : ∀ v ∈ cs, v.oneCell' = true := by rw [← Hcs.out]; intro v hv; obtain ⟨x, _, rfl⟩ := List.mem_map.1 hv; rfl
        have H1C := Lib.hid h1c
        clear ho hb3 hbs k0 k1 k2 m0 m1 m2 hpos h1c hdr
        obtain ⟨w4, hrun, hg4, hb4⟩ : ∃ w4, (Builtin.copy_ #[22, 22] 3 #[.slice (some ⟨w3.heap.size, 4, none⟩) 8 8, .slice A3 r c3]).run Try.prog (w3.alloc (.cells #[.pointer (some ⟨fa.g, 0, none⟩), .int .i64 (a : Int), .int .i64 (c : Int), .int .i64 (n : Int), .int .u8 0, .int .u8 0, .int .u8 0, .int .u8 0, .int .u8 0, .int .u8 0, .int .u8 0, .int .u8 0, .int .i64 0, .int .i64 (hi0 : Int), .int .i64 0] 85)) = .ok (.int .i64 (r : Int)) w4 ∧ Hid (w4.heap[w3.heap.size]? = some (.cells (splice cur 4 cs).toArray 85 (0, 0))) ∧ Below w3.heap.size w3 w4 := by
          by_cases h0 : r = 0
          · have hn : cs = [] := List.eq_nil_of_length_eq_zero (hcl.trans h0)
            subst h0
            exact ⟨_, run_copy_none (P := Try.prog) _ 22 22 3 5 _ _ 8 8 0 c3 Try.underlying22 info5s (by simp), by rw [hn]; exact (show _ = _ by simpa [splice] using HG0.out), HB4.out⟩
          · obtain ⟨-, ad, rfl, hsrc⟩ := HPOS.out (by omega)
            have hr := run_copy_row (P := Try.prog) _ 22 22 3 5 w3.heap.size 4 8 8 ad r c3 cur.toArray 85 cs Try.underlying22 info5s HG0.out (by rw [hcl]; exact (Nat.min_eq_left (by omega)).symm) hsrc (by simp; omega) H1C.out
            rw [hcl] at hr
            exact ⟨_, hr, by
              have e : splice cur 4 cs = cur.toArray.toList.take 4 ++ cs ++ cur.toArray.toList.drop (4 + r) := by unfold splice; rw [hcl]; simp
              rw [e]
              exact setRow_heap _ w3.heap.size _ _ 85 _ HG0.out, below_setRow HB4.out (Nat.le_refl _) _⟩
        have hum : CuM w4 w3.heap.size fa.g a c n hi0 (fun i => if i < r then hd.getD i 0 else 0) 0 0 := by
          have hs : ∀ j, (splice cur 4 cs).toArray[j]? = if 4 ≤ j ∧ j < 4 + r then cs[j - 4]? else cur[j]? := fun j => by
            rw [List.getElem?_toArray, splice_get (by omega), hcl]
          have hlo : ∀ j, (j < 4 ∨ 12 ≤ j) → (splice cur 4 cs).toArray[j]? = cur[j]? := fun j hj => by rw [hs, if_neg (by omega)]
          refine ⟨_, hg4.out, ?_, ?_, ?_, ?_, fun i hi => ?_, ?_, ?_, ?_⟩
          · rw [hlo _ (by omega), Hcur.out]; rfl
          · rw [hlo _ (by omega), Hcur.out]; rfl
          · rw [hlo _ (by omega), Hcur.out]; rfl
          · rw [hlo _ (by omega), Hcur.out]; rfl
          · rw [hs]
            by_cases q : i < r
            · rw [if_pos (by omega), if_pos q, Nat.add_sub_cancel_left, ← Hcs.out, List.getElem?_map, List.getElem?_eq_getElem (by rw [Hdr.out]; exact q)]
              simp [List.getD, List.getElem?_eq_getElem (show i < hd.length by rw [Hdr.out]; exact q)]
            · rw [if_neg (by omega), if_neg q, Hcur.out]
              have : i = 0 ∨ i = 1 ∨ i = 2 ∨ i = 3 ∨ i = 4 ∨ i = 5 ∨ i = 6 ∨ i = 7 := by omega
              rcases this with rfl | rfl | rfl | rfl | rfl | rfl | rfl | rfl <;> rfl
          · rw [hlo _ (by omega), Hcur.out]; rfl
          · rw [hlo _ (by omega), Hcur.out]; rfl
          · rw [hlo _ (by omega), Hcur.out]; rfl
        have k12 : w4.cell? ⟨w3.heap.size, 12, none⟩ = some (.int .i64 0) := hum.c12
        have f12 := hum.fr 12
        have HU5 := Lib.hid (hum.setH r)
        have B4 : Below w1.heap.size w1 w4 := below_on HB3.out hb4
        have B5 : Below w1.heap.size w1 (w4.setCell ⟨w3.heap.size, 12, none⟩ (.int .i64 (r : Int))) := B4.setCell (p := ⟨w3.heap.size, 12, none⟩) HB3.out.size _
        have HB5 := Lib.hid B5
        have hout : ¬ fa.F w3.heap.size := fun hx => by
          have := HF1.out.blk
          have := HB3.out.size
          rcases hx with e | e | e <;> omega
        have HE : Hid (∃ g, w.heap.size ≤ g ∧ Ending.returned (.tuple #[.pointer (some ⟨w3.heap.size, 0, none⟩), .int .i64 0]) = .returned (.tuple #[.pointer (some ⟨g, 0, none⟩), .int .i64 0]) ∧ (∀ G, g ≤ G → CuP a c fa G g (w4.setCell ⟨w3.heap.size, 12, none⟩ (.int .i64 (r : Int))) (cfirst d n hd) (OwnF fa g))) := Lib.hid
          ⟨w3.heap.size, by have := HB0.out.size; have := HB3.out.size; omega, rfl, fun G hG => ⟨fun j => Iff.rfl, ⟨_, by show CuM _ _ _ _ _ n ((n + 1023) / 1024) _ hd.length 0; rw [Hdr.out, Hhi.out]; exact HU5.out, fun i hi => by rw [if_pos (by have : i < hd.length := hi; rw [Hdr.out] at this; exact this)]; rfl⟩,
            ⟨0, HF1.out.below B5, fun h => by have : 0 < d.pick.length := h; omega⟩, hG, hout, first_n (by omega) (by rw [Hdr.out]; exact Hr.out.symm), hlen, ha, hc⟩⟩
        clear hum hb4 hg4 B4 B5 hout
        go_wp2_with fail
        go_ret2
        exact ⟨below_on HB0.out HB5.out, HE.out⟩
      · have he2 : (he == 0) = false := by simpa using he0
        suffices h : Calls Try.prog 16 #[.agg #[.pointer (some ⟨fa.g, 0, none⟩), .int .i64 (a : Int), .int .i64 (c : Int)], .int .i64 (n : Int)] w (fun e w' => Below w.heap.size w w' ∧ e = .returned (.tuple #[.pointer none, .int .i64 he])) from h.mono fun e w' ⟨h1, h2⟩ => by unfold CNewG; rw [if_neg (by omega), hq1, HQ4.out, Hd.out, if_pos he0]; exact ⟨h1, h2⟩
        go_enter Try.func16, Try.ntmps16
        go_wp2_with fail
        rw [Hw1.out]
        go_wp2_with fail
        refine (dgsize_any _ _ c _ hc).mono ?_
        rintro e w2 ⟨rfl, hb2⟩
        obtain ⟨k0, k1, k2⟩ := HCELL.out w2 hb2
        have HB2 := Lib.hid (below_on (Below.refl _ _) hb2)
        clear hb2
        go_wp2_with fail
        refine (HRD.out _ HB2.out).mono ?_
        rintro e w3 ⟨v, rfl, ho, hb3⟩
        have HB3 := Lib.hid (below_on HB0.out (below_on HB2.out hb3))
        clear ho hb3
        go_wp2_with fail
        go_ret2
        exact ⟨HB3.out, rfl⟩
end Go.Proofs.Ytcpkmhhlcmnfdaa

