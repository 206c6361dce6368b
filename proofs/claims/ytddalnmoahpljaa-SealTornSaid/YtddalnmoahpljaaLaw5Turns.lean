/- SealTurns walked. -/
import Derived.Test.YtddalnmoahpljaaLaw5Alive
import Derived.Test.YtddalnmoahpljaaRegion3
import Derived.Test.YtddalnmoahpljaaGdfl
import Derived.Test.YtddalnmoahpljaaLaw5Mixes
namespace Go.Proofs.Ytddalnmoahpljaa
open Go.RowKit
set_option linter.unusedVariables false
set_option maxRecDepth 100000

set_option maxHeartbeats 1600000 in
theorem turns_yes (k q : Int) (A : Option Addr) (l : List UInt8) (c t : Nat) (w : World) (h : Bs w A l) (hk1 : -9223372036854775808 ≤ k) (hk2 : k ≤ 9223372036854775807) (hq1 : -9223372036854775808 ≤ q) (hq2 : q ≤ 9223372036854775807)
    (hl : l.length ≤ 600) (ht : t < 8 * (putR k q l).length) (t2 : t / 8 ≠ 2) (t3 : t / 8 ≠ 3) :
    Calls Try.prog 7 #[.agg #[.int .i64 k, .int .i64 q, .slice A l.length c], .int .i64 (t : Int)] w fun e w' => e = .returned (.bool true) ∧ Below w.heap.size w w' := by
  have hok : recOk k q l.length := by
    by_cases ho : recOk k q l.length
    · exact ho
    · exfalso
      unfold putR at ht
      rw [if_neg ho] at ht
      simp at ht
  have HNO : Hid (∀ d : UInt8, d ≠ (putR k q l).getD (t / 8) 0 → ¬ isR ((putR k q l).set (t / 8) d)) := Lib.hid fun d hd => isR_turn hok (by omega) t2 t3 hd
  have hlen : (putR k q l).length ≤ 600 := by
    unfold putR
    rw [if_pos hok, encR_len]
    have := hok.2.2.2.2
    unfold sizeR
    omega
  have HPUT : Hid (∀ W, Below w.heap.size w W → Calls Try.prog 12 #[.agg #[.int .i64 k, .int .i64 q, .slice A l.length c]] W (RetOb 5 W (putR k q l))) := Lib.hid fun W hW =>
    put_any k q A l c W (h.below hW) hk1 hk2 hq1 hq2 (by omega)
  obtain ⟨P, Hp⟩ : ∃ P, Hid (putR k q l = P) := ⟨_, rfl⟩
  rw [Hp.out] at HPUT HNO hlen ht
  obtain ⟨n, hn⟩ : ∃ n, P.length = n := ⟨_, rfl⟩
  rw [hn] at hlen ht
  obtain ⟨ln, hln⟩ : ∃ n, l.length = n := ⟨_, rfl⟩
  rw [hln] at HPUT hl ⊢
  have HN := Lib.hid hn
  have hbox : Hid (Below w.heap.size w (w.alloc (.cells #[.int .i64 k, .int .i64 q, .slice A ln c] 24))) := Lib.hid ((Below.refl _ _).alloc (Nat.le_refl _) _)
  have hbc := box_cells w (.int .i64 k) (.int .i64 q) (.slice A ln c) 24
  obtain ⟨w0, Hw0⟩ : ∃ w0, Hid (w.alloc (.cells #[.int .i64 k, .int .i64 q, .slice A ln c] 24) = w0) := ⟨_, rfl⟩
  rw [Hw0.out] at hbox hbc
  have HC := Lib.hid hbc
  have h1 : decide (600 < (ln : Int)) = false := decide_eq_false (by omega)
  have HOK := Lib.hid hok
  clear hok hn hln hbc h
  have HA := Lib.hid (alive5_any w0)
  go_enter Try.func7, Try.ntmps7
  go_wp2_with fail
  rw [Hw0.out]
  with_reducible refine HA.out.mono ?_
  rintro e w1 ⟨rfl, hb1⟩
  obtain ⟨c0, c1, c2⟩ := HC.out w1 hb1
  have B1 := Lib.hid (below_on hbox.out hb1)
  have HP1 := Lib.hid (HPUT.out w1 B1.out)
  clear hb1
  go_wp2_with fail
  with_reducible refine HP1.out.mono ?_
  rintro e w2 ⟨v2, rfl, ho2, hb2⟩
  obtain ⟨g2, cp2, rfl, hbs2, hc2, -⟩ := ho2.formN HN.out (by omega)
  have D0 : w2.cell? ⟨w.heap.size, 0, none⟩ = some (.int .i64 k) := by rw [hb2.cell (World.block_lt_of_cell? _ _ c0)]; exact c0
  have D2 : w2.cell? ⟨w.heap.size, 2, none⟩ = some (.slice A ln c) := by rw [hb2.cell (World.block_lt_of_cell? _ _ c2)]; exact c2
  have B2 := Lib.hid (below_on B1.out hb2)
  clear c0 c1 c2 hb2
  have g5 : decide (8 * (n : Int) ≤ (t : Int)) = false := decide_eq_false (by omega)
  have g0 : decide ((t : Int) < 0) = false := decide_eq_false (by omega)
  have g6 : ((t : Int) / 8 == 2) = false := by simp; omega
  have g7 : ((t : Int) / 8 == 3) = false := by simp; omega
  have HBS2 := Lib.hid hbs2
  clear ho2 hbs2
  go_upto_region 5 with fail
  go_wp2_with (at_builtin; refine wpList_append_bs rfl (.const (.slice none 0 0)) (.tmp 44) 22 rfl w2.heap.size 5 Try.underlying22 info5 _ [] rfl (Ob.nil_ _ _ _) (some ⟨g2, 0, none⟩) P n cp2 rfl HN.out.symm HBS2.out (by have := HN.out; simp; omega) (Nat.le_refl _) ?_)
  intro v3 w3 ho3 hgr3
  have B3 : Hid (Below w2.heap.size w2 w3) := Lib.hid ((Below.refl _ _).grown hgr3 (Nat.le_refl _) (fun k hk => by simp [Value.ownBlock] at hk))
  obtain ⟨g3, cp3, rfl, hbs3, hc3, -⟩ := ho3.formN HN.out (by omega)
  obtain ⟨i, hi⟩ : ∃ i, t / 8 = i := ⟨_, rfl⟩
  obtain ⟨r, hr⟩ : ∃ r, t % 8 = r := ⟨_, rfl⟩
  have hin : i < n := by omega
  obtain ⟨b3, o3, e3, y3⟩ := hbs3.at_ (k := i) (by have := HN.out; omega)
  cases e3
  rw [Nat.zero_add] at y3
  have hfr := ho3.frozen i
  have HO3 := Lib.hid ho3
  have q1 : (t : Int) / 8 = (i : Int) := by omega
  have q2 : (t : Int) % 8 = (r : Int) := by omega
  have hr8 : r < 8 := by omega
  obtain ⟨x, hx⟩ : ∃ x, P.getD i 0 = x := ⟨_, rfl⟩
  rw [hx] at y3
  clear ho3 hgr3 hbs3
  obtain ⟨d, hd0, hd⟩ : ∃ d : UInt8, d ≠ 0 ∧ (2 : Int) ^ r % 256 = (d.toNat : Int) := by
    rcases (by omega : r = 0 ∨ r = 1 ∨ r = 2 ∨ r = 3 ∨ r = 4 ∨ r = 5 ∨ r = 6 ∨ r = 7) with rfl | rfl | rfl | rfl | rfl | rfl | rfl | rfl
    · exact ⟨1, by decide, by decide⟩
    · exact ⟨2, by decide, by decide⟩
    · exact ⟨4, by decide, by decide⟩
    · exact ⟨8, by decide, by decide⟩
    · exact ⟨16, by decide, by decide⟩
    · exact ⟨32, by decide, by decide⟩
    · exact ⟨64, by decide, by decide⟩
    · exact ⟨128, by decide, by decide⟩
  have hy : bits .xor .u8 (x.toNat : Int) ((2 : Int) ^ r % 256) = ((x ^^^ d).toNat : Int) := by rw [hd]; exact u8_xor' x d
  have hyx : x ^^^ d ≠ x := fun h => hd0 (by
    have h2 : x ^^^ (x ^^^ d) = x ^^^ x := by rw [h]
    rw [← UInt8.xor_assoc, UInt8.xor_self, UInt8.zero_xor] at h2
    exact h2)
  obtain ⟨y, hyy⟩ : ∃ y, x ^^^ d = y := ⟨_, rfl⟩
  rw [hyy] at hy hyx
  have Hy := Lib.hid hy
  rw [hi] at HNO
  have HNB : Hid (¬ isR (P.set i y)) := Lib.hid (HNO.out y (by rw [hx]; exact hyx))
  have HPL : Hid ((P.set i y).length = n) := Lib.hid (by rw [List.length_set]; exact HN.out)
  have HO4 : Hid (Ob 5 (w3.setCell ⟨g3, i, none⟩ (.int .u8 (y.toNat : Int))) w2.heap.size (.slice (some ⟨g3, 0, none⟩) n cp3) (P.set i y)) := Lib.hid (HO3.out.set_ i y)
  have hg3 : w2.heap.size ≤ g3 := HO3.out.fresh g3 ⟨_, rfl, rfl⟩
  have B4 : Hid (Below w.heap.size w (w3.setCell ⟨g3, i, none⟩ (.int .u8 (y.toNat : Int)))) := Lib.hid (below_on B2.out (B3.out.setCell hg3 _))
  obtain ⟨w4, Hw4⟩ : ∃ w4, Hid (w3.setCell ⟨g3, i, none⟩ (.int .u8 (y.toNat : Int)) = w4) := ⟨_, rfl⟩
  rw [Hw4.out] at HO4 B4
  have HG : Hid (Calls Try.prog 10 #[.slice (some ⟨g3, 0, none⟩) n cp3] w4 fun e w' => Below w4.heap.size w4 w' ∧ e = .returned (.tuple #[.agg #[.int .i64 0, .int .i64 0, .slice none 0 0], .int .i64 0, .bool false])) := Lib.hid
    ((get_any _ (P.set i y) n cp3 w4 HO4.out.bs HPL.out hc3 (by omega)).mono fun e w' h => getPost_no HNB.out h)
  clear hy hd hd0 hyx
  go_wp2_with fail
  rw [Hy.out, Hw4.out]
  with_reducible refine HG.out.mono ?_
  rintro e w5 ⟨hb5, rfl⟩
  have B5 := Lib.hid (below_on B4.out hb5)
  have B6 : Hid (Below w.heap.size w (w5.alloc (.cells #[.int .i64 0, .int .i64 0, .slice none 0 0] 24))) := Lib.hid (B5.out.alloc B5.out.size _)
  clear hb5
  go_wp2_with fail
  go_ret
  exact ⟨rfl, B6.out⟩

set_option maxHeartbeats 1600000 in
theorem law5Turns (k q bit : Int) (A : Option Addr) (l : List UInt8) (c : Nat) (w : World) (h : Bs w A l) (hk1 : -9223372036854775808 ≤ k) (hk2 : k ≤ 9223372036854775807) (hq1 : -9223372036854775808 ≤ q) (hq2 : q ≤ 9223372036854775807)
    (hl : l.length ≤ 9223372036854775807) (hb1 : -9223372036854775808 ≤ bit) (hb2 : bit ≤ 9223372036854775807) :
    Calls Try.prog 7 #[.agg #[.int .i64 k, .int .i64 q, .slice A l.length c], .int .i64 bit] w fun e w' => e = .returned (.bool true) ∧ Below w.heap.size w w' := by
  by_cases hall : l.length ≤ 600 ∧ 0 ≤ bit ∧ bit < 8 * ((putR k q l).length : Int) ∧ bit / 8 ≠ 2 ∧ bit / 8 ≠ 3
  · obtain ⟨a1, a2, a3, a4, a5⟩ := hall
    obtain ⟨t, rfl⟩ := Int.eq_ofNat_of_zero_le a2
    exact turns_yes k q A l c t w h hk1 hk2 hq1 hq2 a1 (by omega) (by omega) (by omega)
  have hlen : (putR k q l).length ≤ 600 := by
    unfold putR
    split
    · rename_i hok
      rw [encR_len]
      have := hok.2.2.2.2
      unfold sizeR
      omega
    · simp
  have HPUT : Hid (∀ W, Below w.heap.size w W → Calls Try.prog 12 #[.agg #[.int .i64 k, .int .i64 q, .slice A l.length c]] W (RetOb 5 W (putR k q l))) := Lib.hid fun W hW =>
    put_any k q A l c W (h.below hW) hk1 hk2 hq1 hq2 hl
  obtain ⟨P, Hp⟩ : ∃ P, Hid (putR k q l = P) := ⟨_, rfl⟩
  rw [Hp.out] at HPUT hlen hall
  obtain ⟨n, hn⟩ : ∃ n, P.length = n := ⟨_, rfl⟩
  rw [hn] at hlen hall
  obtain ⟨ln, hln⟩ : ∃ n, l.length = n := ⟨_, rfl⟩
  rw [hln] at HPUT hall ⊢
  have hlm : ln ≤ 9223372036854775807 := by omega
  have HN := Lib.hid hn
  have hbox : Hid (Below w.heap.size w (w.alloc (.cells #[.int .i64 k, .int .i64 q, .slice A ln c] 24))) := Lib.hid ((Below.refl _ _).alloc (Nat.le_refl _) _)
  have hbc := box_cells w (.int .i64 k) (.int .i64 q) (.slice A ln c) 24
  obtain ⟨w0, Hw0⟩ : ∃ w0, Hid (w.alloc (.cells #[.int .i64 k, .int .i64 q, .slice A ln c] 24) = w0) := ⟨_, rfl⟩
  rw [Hw0.out] at hbox hbc
  have HC := Lib.hid hbc
  clear hn hln hbc h hl
  have HA := Lib.hid (alive5_any w0)
  have HALL := Lib.hid hall
  clear hall
  go_enter Try.func7, Try.ntmps7
  go_wp2_with fail
  rw [Hw0.out]
  with_reducible refine HA.out.mono ?_
  rintro e w1 ⟨rfl, hb1⟩
  obtain ⟨c0, c1, c2⟩ := HC.out w1 hb1
  have B1 := Lib.hid (below_on hbox.out hb1)
  have HP1 := Lib.hid (HPUT.out w1 B1.out)
  clear hb1
  go_wp2_with fail
  with_reducible refine HP1.out.mono ?_
  rintro e w2 ⟨v2, rfl, ho2, hb2⟩
  obtain ⟨A2, cp2, rfl, -, -⟩ := ho2.form
  have D2 : w2.cell? ⟨w.heap.size, 2, none⟩ = some (.slice A ln c) := by rw [hb2.cell (World.block_lt_of_cell? _ _ c2)]; exact c2
  have B2 := Lib.hid (below_on B1.out hb2)
  rw [HN.out]
  clear c0 c1 c2 hb2 ho2
  by_cases g1 : 600 < ln
  · have d1 : decide (600 < (ln : Int)) = true := decide_eq_true (by omega)
    go_wp2_with fail
    go_ret
    exact ⟨rfl, B2.out⟩
  have d1 : decide (600 < (ln : Int)) = false := decide_eq_false (by omega)
  by_cases g2 : bit < 0
  · have d2 : decide (bit < 0) = true := decide_eq_true (by omega)
    go_wp2_with fail
    go_ret
    exact ⟨rfl, B2.out⟩
  have d2 : decide (bit < 0) = false := decide_eq_false (by omega)
  obtain ⟨t, rfl⟩ := Int.eq_ofNat_of_zero_le (show 0 ≤ bit by omega)
  by_cases g3 : 8 * n ≤ t
  · have d3 : decide (8 * (n : Int) ≤ (t : Int)) = true := decide_eq_true (by omega)
    go_wp2_with fail
    go_ret
    exact ⟨rfl, B2.out⟩
  have d3 : decide (8 * (n : Int) ≤ (t : Int)) = false := decide_eq_false (by omega)
  by_cases g4 : (t : Int) / 8 = 2
  · have d4 : ((t : Int) / 8 == 2) = true := by simpa using g4
    go_wp2_with fail
    go_ret
    exact ⟨rfl, B2.out⟩
  have d4 : ((t : Int) / 8 == 2) = false := by simpa using g4
  have g5 : (t : Int) / 8 = 3 := by have := HALL.out; omega
  have d5 : ((t : Int) / 8 == 3) = true := by simpa using g5
  go_wp2_with fail
  go_ret
  exact ⟨rfl, B2.out⟩
end Go.Proofs.Ytddalnmoahpljaa

