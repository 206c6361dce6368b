/- SealBack walked. -/
import Derived.Test.YtddalnmoahpljaaLaw5Turns
namespace Go.Proofs.Ytddalnmoahpljaa
open Go.RowKit
set_option linter.unusedVariables false
set_option maxRecDepth 100000

theorem putR_len {k q : Int} {l : List UInt8} (h : recOk k q l.length) : (putR k q l).length = sizeR l.length := by
  unfold putR
  rw [if_pos h, encR_len]

theorem putR_ok {k q : Int} {l : List UInt8} (h : 0 < (putR k q l).length) : recOk k q l.length := by
  by_cases ho : recOk k q l.length
  · exact ho
  · exfalso
    unfold putR at h
    rw [if_neg ho] at h
    simp at h

theorem putR_le (k q : Int) (l : List UInt8) : (putR k q l).length ≤ 600 := by
  unfold putR
  split
  · rename_i hok
    rw [encR_len]
    have := hok.2.2.2.2
    unfold sizeR
    omega
  · simp

theorem sizeI_nat {n : Nat} (h : n ≤ 512) : sizeI (n : Int) = ((sizeR n : Nat) : Int) := by
  unfold sizeI sizeR
  rw [if_neg (by omega)]
  omega

/-- a row appended to a row of the call's own, each in its form -/
theorem below_grow {w w' : World} {A : Option Addr} {n c base : Nat} {E : TypeId} {l : List UInt8} (h : Ob E w base (.slice A n c) l) (hb : base ≤ w.heap.size) (hg : w.grownBy w' (Value.slice A n c).ownBlock) : Below base w w' :=
  (Below.refl _ _).grown hg hb (fun k hk => h.fresh k (own_at hk))

set_option maxHeartbeats 1600000 in
theorem back_yes (k q : Int) (A A2 : Option Addr) (l m : List UInt8) (c cm t : Nat) (w : World) (h : Bs w A l) (hm : Bs w A2 m) (hk1 : -9223372036854775808 ≤ k) (hk2 : k ≤ 9223372036854775807) (hq1 : -9223372036854775808 ≤ q) (hq2 : q ≤ 9223372036854775807)
    (hl : l.length ≤ 600) (hml : m.length ≤ 100) (hpos : 0 < (putR k q l).length) :
    Calls Try.prog 6 #[.agg #[.int .i64 k, .int .i64 q, .slice A l.length c], .slice A2 m.length cm, .int .i64 (t : Int)] w fun e w' => e = .returned (.bool true) ∧ Below w.heap.size w w' := by
  have hok := putR_ok hpos
  have hlen := putR_le k q l
  have hsz := putR_len hok
  have HCUT : Hid (∀ i, i < (putR k q l).length → ¬ isR ((putR k q l).take i)) := Lib.hid fun i hi => isR_cut hok hi
  have HPUT : Hid (∀ W, Below w.heap.size w W → Calls Try.prog 12 #[.agg #[.int .i64 k, .int .i64 q, .slice A l.length c]] W (RetOb 5 W (putR k q l))) := Lib.hid fun W hW =>
    put_any k q A l c W (h.below hW) hk1 hk2 hq1 hq2 (by omega)
  have HGP : Hid (∀ w w' e, GetPost w (putR k q l ++ m) e w' → Below w.heap.size w w' ∧ ∃ A c, e = .returned (.tuple #[.agg #[.int .i64 k, .int .i64 q, .slice A l.length c], .int .i64 (sizeR l.length : Nat), .bool true]) ∧ Bs w' A l) := Lib.hid fun w w' e h => getPost_put hok h
  have HSM : Hid (∀ W A' c', Below w.heap.size w W → Bs W A' l → Calls Try.prog 14 #[.agg #[.int .i64 k, .int .i64 q, .slice A' l.length c'], .agg #[.int .i64 k, .int .i64 q, .slice A l.length c]] W (BoolIn W true)) := Lib.hid fun W A' c' hW hb => by
    have := same_any k q k q A' A l l l.length l.length c' c W hb (h.below hW) rfl rfl
    rwa [show decide (k = k ∧ q = q ∧ l = l) = true by simp] at this
  have HSZ : Hid (∀ W, Calls Try.prog 15 #[.int .i64 (l.length : Int)] W fun e w' => e = .returned (.int .i64 (sizeR l.length : Nat)) ∧ w' = W) := Lib.hid fun W => by
    have := size_any (l.length : Int) W (by omega) (by omega)
    rwa [sizeI_nat hok.2.2.2.2] at this
  obtain ⟨n, hn⟩ : ∃ n, sizeR l.length = n := ⟨_, rfl⟩
  rw [hn] at hsz HGP HSZ
  obtain ⟨P, Hp⟩ : ∃ P, Hid (putR k q l = P) := ⟨_, rfl⟩
  rw [Hp.out] at HPUT HCUT HGP hlen hpos hsz
  rw [hsz] at hlen hpos HCUT
  obtain ⟨ln, hln⟩ : ∃ n, l.length = n := ⟨_, rfl⟩
  rw [hln] at HPUT HGP HSM HSZ hl ⊢
  obtain ⟨nm, hnm⟩ : ∃ n, m.length = n := ⟨_, rfl⟩
  rw [hnm] at hml ⊢
  have HN := Lib.hid hsz
  have HM := Lib.hid hnm
  have HBM := Lib.hid hm
  have hbox : Hid (Below w.heap.size w (w.alloc (.cells #[.int .i64 k, .int .i64 q, .slice A ln c] 24))) := Lib.hid ((Below.refl _ _).alloc (Nat.le_refl _) _)
  have hbc := box_cells w (.int .i64 k) (.int .i64 q) (.slice A ln c) 24
  obtain ⟨w0, Hw0⟩ : ∃ w0, Hid (w.alloc (.cells #[.int .i64 k, .int .i64 q, .slice A ln c] 24) = w0) := ⟨_, rfl⟩
  rw [Hw0.out] at hbox hbc
  have HC := Lib.hid hbc
  have d1 : decide (600 < (ln : Int)) = false := decide_eq_false (by omega)
  have d2 : decide (100 < (nm : Int)) = false := decide_eq_false (by omega)
  have d3 : ((n : Int) == 0) = false := by simp; omega
  have d4 : decide ((t : Int) < 0) = false := decide_eq_false (by omega)
  clear hok hn hln hbc h hm hsz hnm
  have HA := Lib.hid (alive5_any w0)
  go_enter Try.func6, Try.ntmps6
  go_wp2_with fail
  rw [Hw0.out]
  with_reducible refine HA.out.mono ?_
  rintro e w1 ⟨rfl, hb1⟩
  obtain ⟨c0, c1, c2⟩ := HC.out w1 hb1
  have B1 := Lib.hid (below_on hbox.out hb1)
  have HP1 := Lib.hid (HPUT.out w1 B1.out)
  have HR1 : Hid (Below w0.heap.size w0 w1) := Lib.hid hb1
  clear hb1
  go_wp2_with fail
  with_reducible refine HP1.out.mono ?_
  rintro e w2 ⟨v2, rfl, ho2, hb2⟩
  obtain ⟨g2, cp2, rfl, hbs2, hc2, -⟩ := ho2.formN HN.out (by omega)
  have HR2 : Hid (Below w0.heap.size w0 w2) := Lib.hid (below_on HR1.out hb2)
  obtain ⟨e0, e1, e2⟩ := HC.out w2 HR2.out
  have B2 := Lib.hid (below_on B1.out hb2)
  have HBS2 := Lib.hid hbs2
  clear c0 c1 c2 hb2 ho2 hbs2
  go_upto_region 5 with fail
  go_wp2_with (at_builtin; refine wpList_append_bs rfl (.const (.slice none 0 0)) (.tmp 42) 22 rfl w2.heap.size 5 Try.underlying22 info5 _ [] rfl (Ob.nil_ _ _ _) (some ⟨g2, 0, none⟩) P n cp2 rfl HN.out.symm HBS2.out (by have := HN.out; simp; omega) (Nat.le_refl _) ?_)
  intro v3 w3 ho3 hgr3
  have B3 : Hid (Below w2.heap.size w2 w3) := Lib.hid ((Below.refl _ _).grown hgr3 (Nat.le_refl _) (fun k hk => by simp [Value.ownBlock] at hk))
  obtain ⟨g3, cp3, rfl, -, -, -⟩ := ho3.formN HN.out (by omega)
  have HO3 := Lib.hid ho3
  have HBM3 : Hid (Bs w3 A2 m) := Lib.hid (HBM.out.below (below_on B2.out B3.out))
  clear ho3 hgr3
  go_wp2_with (at_builtin; refine wpList_append_bs rfl (.tmp 43) (.tmp 44) 22 rfl w2.heap.size 5 Try.underlying22 info5 _ P rfl HO3.out A2 m nm cm rfl HM.out.symm HBM3.out (by have := HN.out; have := HM.out; omega) B3.out.size ?_)
  intro v4 w4 ho4 hgr4
  have B4 : Hid (Below w2.heap.size w2 w4) := Lib.hid (B3.out.trans (below_grow HO3.out B3.out.size hgr4))
  obtain ⟨n4, hn4⟩ : ∃ x, (P ++ m).length = x := ⟨_, rfl⟩
  have h4 : Hid (n4 = n + nm) := Lib.hid (by rw [← hn4, List.length_append, HN.out, HM.out])
  obtain ⟨g4, cp4, rfl, hbs4, hc4, -⟩ := ho4.formN hn4 (by have := h4.out; omega)
  have B4w := Lib.hid (below_on B2.out B4.out)
  have HG4 : Hid (Calls Try.prog 10 #[.slice (some ⟨g4, 0, none⟩) n4 cp4] w4 fun e w' => Below w4.heap.size w4 w' ∧ ∃ A c, e = .returned (.tuple #[.agg #[.int .i64 k, .int .i64 q, .slice A ln c], .int .i64 (n : Int), .bool true]) ∧ Bs w' A l) := Lib.hid
    ((get_any _ (P ++ m) n4 cp4 w4 hbs4 hn4 hc4 (by have := h4.out; omega)).mono fun e w' h => HGP.out w4 w' e h)
  clear ho4 hgr4 hbs4 hn4
  go_wp2_with fail
  with_reducible refine HG4.out.mono ?_
  rintro e w5 ⟨hb5, A5, c5, rfl, hbs5⟩
  have B5 := Lib.hid (below_on B4w.out hb5)
  have HR5 : Hid (Below w0.heap.size w0 w5) := Lib.hid (below_on (below_on HR2.out B4.out) hb5)
  have B6 : Hid (Below w.heap.size w (w5.alloc (.cells #[.int .i64 k, .int .i64 q, .slice A5 ln c5] 24))) := Lib.hid (B5.out.alloc B5.out.size _)
  have HR6 : Hid (Below w0.heap.size w0 (w5.alloc (.cells #[.int .i64 k, .int .i64 q, .slice A5 ln c5] 24))) := Lib.hid (HR5.out.alloc HR5.out.size _)
  have B6s : Hid (Below w2.heap.size w2 (w5.alloc (.cells #[.int .i64 k, .int .i64 q, .slice A5 ln c5] 24))) := Lib.hid ((below_on B4.out hb5).alloc (below_on B4.out hb5).size _)
  have B65 : Hid (Below w5.heap.size w5 (w5.alloc (.cells #[.int .i64 k, .int .i64 q, .slice A5 ln c5] 24))) := Lib.hid ((Below.refl _ _).alloc (Nat.le_refl _) _)
  have HC6 := Lib.hid (box_cells w5 (.int .i64 k) (.int .i64 q) (.slice A5 ln c5) 24)
  obtain ⟨w6, Hw6⟩ : ∃ w6, Hid (w5.alloc (.cells #[.int .i64 k, .int .i64 q, .slice A5 ln c5] 24) = w6) := ⟨_, rfl⟩
  rw [Hw6.out] at B6 HR6 HC6 B6s B65
  have HBS5 := Lib.hid hbs5
  clear hb5 e0 e1 e2 hbs5
  go_upto_region 6 with fail
  rw [Hw6.out]
  obtain ⟨i, hi⟩ : ∃ i, t % n = i := ⟨_, rfl⟩
  have hin : i < n := by rw [← hi]; exact Nat.mod_lt _ hpos
  have q1 : (t : Int) % (n : Int) = (i : Int) := by omega
  have sl := slice_head (some ⟨g2, 0, none⟩) n cp2 i (by omega)
  have HG6 : Hid (Calls Try.prog 10 #[.slice (some ⟨g2, 0, none⟩) i cp2] w6 fun e w' => Below w6.heap.size w6 w' ∧ e = .returned (.tuple #[.agg #[.int .i64 0, .int .i64 0, .slice none 0 0], .int .i64 0, .bool false])) := Lib.hid
    ((get_any _ (P.take i) i cp2 w6 ((HBS2.out.below B6s.out).take i) (by rw [List.length_take, HN.out]; omega) (by omega) (by omega)).mono fun e w' h => getPost_no (HCUT.out i hin) h)
  clear hi
  go_wp2_with fail
  with_reducible refine HG6.out.mono ?_
  rintro e w7 ⟨hb7, rfl⟩
  have B7 := Lib.hid (below_on B6.out hb7)
  have B8 : Hid (Below w.heap.size w (w7.alloc (.cells #[.int .i64 0, .int .i64 0, .slice none 0 0] 24))) := Lib.hid (B7.out.alloc B7.out.size _)
  have HR8 : Hid (Below w0.heap.size w0 (w7.alloc (.cells #[.int .i64 0, .int .i64 0, .slice none 0 0] 24))) := Lib.hid ((below_on HR6.out hb7).alloc (below_on HR6.out hb7).size _)
  have B86 : Hid (Below w6.heap.size w6 (w7.alloc (.cells #[.int .i64 0, .int .i64 0, .slice none 0 0] 24))) := Lib.hid (hb7.alloc hb7.size _)
  obtain ⟨w8, Hw8⟩ : ∃ w8, Hid (w7.alloc (.cells #[.int .i64 0, .int .i64 0, .slice none 0 0] 24) = w8) := ⟨_, rfl⟩
  rw [Hw8.out] at B8 HR8 B86
  obtain ⟨e0, e1, e2⟩ := HC.out w8 HR8.out
  obtain ⟨f0, f1, f2⟩ := HC6.out w8 B86.out
  have HSM8 := Lib.hid (HSM.out w8 A5 c5 B8.out (HBS5.out.below (below_on B65.out B86.out)))
  clear hb7
  go_upto_region 7 with fail
  rw [Hw8.out]
  go_wp2_with fail
  with_reducible refine (HSZ.out w8).mono ?_
  rintro e w9 ⟨rfl, rfl⟩
  go_wp2_with fail
  with_reducible refine HSM8.out.mono ?_
  rintro e w10 ⟨rfl, hb10⟩
  have B10 := Lib.hid (below_on B8.out hb10)
  clear hb10
  go_wp2_with fail
  go_ret
  exact ⟨rfl, B10.out⟩

set_option maxHeartbeats 1600000 in
theorem law5Back (k q cut : Int) (A A2 : Option Addr) (l m : List UInt8) (c cm : Nat) (w : World) (h : Bs w A l) (hm : Bs w A2 m) (hk1 : -9223372036854775808 ≤ k) (hk2 : k ≤ 9223372036854775807) (hq1 : -9223372036854775808 ≤ q) (hq2 : q ≤ 9223372036854775807)
    (hl : l.length ≤ 9223372036854775807) (hml : m.length ≤ 9223372036854775807) :
    Calls Try.prog 6 #[.agg #[.int .i64 k, .int .i64 q, .slice A l.length c], .slice A2 m.length cm, .int .i64 cut] w fun e w' => e = .returned (.bool true) ∧ Below w.heap.size w w' := by
  by_cases hall : l.length ≤ 600 ∧ m.length ≤ 100 ∧ 0 < (putR k q l).length ∧ 0 ≤ cut
  · obtain ⟨a1, a2, a3, a4⟩ := hall
    obtain ⟨t, rfl⟩ := Int.eq_ofNat_of_zero_le a4
    exact back_yes k q A A2 l m c cm t w h hm hk1 hk2 hq1 hq2 a1 a2 a3
  have hlen := putR_le k q l
  have HPUT : Hid (∀ W, Below w.heap.size w W → Calls Try.prog 12 #[.agg #[.int .i64 k, .int .i64 q, .slice A l.length c]] W (RetOb 5 W (putR k q l))) := Lib.hid fun W hW =>
    put_any k q A l c W (h.below hW) hk1 hk2 hq1 hq2 hl
  obtain ⟨P, Hp⟩ : ∃ P, Hid (putR k q l = P) := ⟨_, rfl⟩
  rw [Hp.out] at HPUT hlen hall
  obtain ⟨n, hn⟩ : ∃ n, P.length = n := ⟨_, rfl⟩
  rw [hn] at hlen hall
  obtain ⟨ln, hln⟩ : ∃ n, l.length = n := ⟨_, rfl⟩
  rw [hln] at HPUT hall ⊢
  obtain ⟨nm, hnm⟩ : ∃ n, m.length = n := ⟨_, rfl⟩
  rw [hnm] at hall hml ⊢
  have hlm : ln ≤ 9223372036854775807 := by omega
  have HN := Lib.hid hn
  have hbox : Hid (Below w.heap.size w (w.alloc (.cells #[.int .i64 k, .int .i64 q, .slice A ln c] 24))) := Lib.hid ((Below.refl _ _).alloc (Nat.le_refl _) _)
  have hbc := box_cells w (.int .i64 k) (.int .i64 q) (.slice A ln c) 24
  obtain ⟨w0, Hw0⟩ : ∃ w0, Hid (w.alloc (.cells #[.int .i64 k, .int .i64 q, .slice A ln c] 24) = w0) := ⟨_, rfl⟩
  rw [Hw0.out] at hbox hbc
  have HC := Lib.hid hbc
  clear hn hln hbc h hm hl hnm
  have HA := Lib.hid (alive5_any w0)
  have HALL := Lib.hid hall
  clear hall
  go_enter Try.func6, Try.ntmps6
  go_wp2_with fail
  rw [Hw0.out]
  with_reducible refine HA.out.mono ?_
  rintro e w1 ⟨rfl, hb1⟩
  obtain ⟨c0, c1, c2⟩ := HC.out w1 hb1
  have B1 := Lib.hid (below_on hbox.out hb1)
  have HP1 := Lib.hid (HPUT.out w1 B1.out)
  clear hb1
  go_wp2_with fail
  with_reducible refine HP1.out.mono ?_
  rintro e w2 ⟨v2, rfl, ho2, hb2⟩
  obtain ⟨A3, cp2, rfl, -, -⟩ := ho2.form
  have D2 : w2.cell? ⟨w.heap.size, 2, none⟩ = some (.slice A ln c) := by rw [hb2.cell (World.block_lt_of_cell? _ _ c2)]; exact c2
  have B2 := Lib.hid (below_on B1.out hb2)
  rw [HN.out]
  clear c0 c1 c2 hb2 ho2
  by_cases g1 : 600 < ln
  · have d1 : decide (600 < (ln : Int)) = true := decide_eq_true (by omega)
    go_wp2_with fail
    go_ret
    exact ⟨rfl, B2.out⟩
  have d1 : decide (600 < (ln : Int)) = false := decide_eq_false (by omega)
  by_cases g2 : 100 < nm
  · have d2 : decide (100 < (nm : Int)) = true := decide_eq_true (by omega)
    go_wp2_with fail
    go_ret
    exact ⟨rfl, B2.out⟩
  have d2 : decide (100 < (nm : Int)) = false := decide_eq_false (by omega)
  by_cases g3 : n = 0
  · subst g3
    go_wp2_with fail
    go_ret
    exact ⟨rfl, B2.out⟩
  have d3 : ((n : Int) == 0) = false := by simpa using g3
  have g4 : cut < 0 := by have := HALL.out; omega
  have d4 : decide (cut < 0) = true := decide_eq_true g4
  go_wp2_with fail
  go_ret
  exact ⟨rfl, B2.out⟩
end Go.Proofs.Ytddalnmoahpljaa

