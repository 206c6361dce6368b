/- The contract of the reference's Program. -/
import Derived.Test.YtlnpfndjdilfhaaRefErase
import Derived.Test.YtlnpfndjdilfhaaRefTorn
import Derived.Test.YtlnpfndjdilfhaaRefCan
import Derived.Test.YtlnpfndjdilfhaaDevProg
namespace Go.Proofs.Ytlnpfndjdilfhaa
open Go.RowKit
set_option linter.unusedVariables false

/-- one word -/
def rwordOf (d : Fl) (a : Nat) (m : List UInt8) : Int × Fl :=
  match stepOf d with
  | (true, f) => (5, ⟨laid f.b a (tornB (cut f.b a 8) m f.pick), f.worn, f.steps, f.left, [], f.dark⟩)
  | (false, f) => (0, withB f (laid f.b a m))
def rprogTo (d : Fl) (a : Nat) (m : List UInt8) : Nat → Int × Fl
  | 0 => (0, d)
  | k + 1 => if (rprogTo d a m k).1 = 0 then rwordOf (rprogTo d a m k).2 (a + 8 * k) (cut m (8 * k) 8) else rprogTo d a m k
def rprogOf (d : Fl) (s : Int) (m : List UInt8) : Int × Fl :=
  if d.dark then (5, d) else if ¬ (0 ≤ s ∧ s + m.length ≤ d.b.length) then (2, d) else if s.toNat % 8 ≠ 0 ∨ m.length % 8 ≠ 0 then (3, d)
  else if canB (cut d.b s.toNat m.length) m = false then (4, d) else rprogTo d s.toNat m (m.length / 8)

theorem stepOf_num (d : Fl) (ok : FlOk d) (h : d.steps + 1 ≤ 4611686018427387904) : FlOk (stepOf d).2 ∧ (stepOf d).2.steps = d.steps + 1 := by
  unfold stepOf
  have := ok.s0
  have := ok.l0
  have := ok.l1
  split
  · exact ⟨⟨ok.len, ok.few, ok.worn, by simp; omega, h, ok.l0, ok.l1, ok.p⟩, rfl⟩
  · split
    · exact ⟨⟨ok.len, ok.few, ok.worn, by simp; omega, h, by simp; omega, by simp; omega, ok.p⟩, rfl⟩
    · exact ⟨⟨ok.len, ok.few, ok.worn, by simp; omega, h, by simp; omega, by simp; omega, ok.p⟩, rfl⟩
theorem FlOk.withB {d : Fl} (ok : FlOk d) {b : List UInt8} (h : b.length = d.b.length) : FlOk (Ytlnpfndjdilfhaa.withB d b) := ⟨h.trans ok.len, ok.few, ok.worn, ok.s0, ok.s1, ok.l0, ok.l1, ok.p⟩

structure RWordFact (d : Fl) (a : Nat) (r : Int × Fl) : Prop where
  ok : FlOk r.2
  steps : r.2.steps = d.steps + 1
  worn : r.2.worn = d.worn
  len : r.2.b.length = d.b.length
  rest : ∀ i, i < d.b.length → (i < a ∨ a + 8 ≤ i) → r.2.b.getD i 0 = d.b.getD i 0
  code : r.1 = 0 ∨ r.1 = 5
theorem rwordOf_fact (d : Fl) (ok : FlOk d) (h : d.steps + 1 ≤ 4611686018427387904) (a : Nat) (m : List UInt8) (hm : m.length = 8) : RWordFact d a (rwordOf d a m) := by
  obtain ⟨h1, h2⟩ := stepOf_num d ok h
  obtain ⟨e1, e2, e3⟩ := stepOf_b d
  unfold rwordOf
  obtain ⟨t, f, hf⟩ : ∃ t f, stepOf d = (t, f) := ⟨_, _, rfl⟩
  rw [hf] at h1 h2 e1 e2 ⊢
  simp only at h1 h2 e1 e2
  cases t with
  | false => exact ⟨h1.withB (laid_len _ _ _), h2, e2, by show (laid _ _ _).length = _; rw [laid_len, e1], fun i hi ho => by
      show (laid f.b a m).getD i 0 = _
      rw [laid_get (by rw [e1]; exact hi), if_neg (by rw [hm]; omega), e1], .inl rfl⟩
  | true => exact ⟨⟨(laid_len _ _ _).trans h1.len, h1.few, h1.worn, h1.s0, h1.s1, h1.l0, h1.l1, by simp⟩, h2, e2, by show (laid _ _ _).length = _; rw [laid_len, e1], fun i hi ho => by
      show (laid f.b a _).getD i 0 = _
      rw [laid_get (by rw [e1]; exact hi), if_neg (by rw [tornB_len, hm]; omega), e1], .inr rfl⟩

structure RProgFact (d : Fl) (a k : Nat) (r : Int × Fl) : Prop where
  ok : FlOk r.2
  steps : r.2.steps ≤ d.steps + k
  worn : r.2.worn = d.worn
  len : r.2.b.length = d.b.length
  rest : ∀ i, i < d.b.length → (i < a ∨ a + 8 * k ≤ i) → r.2.b.getD i 0 = d.b.getD i 0
  code : r.1 = 0 ∨ r.1 = 5
theorem rprogTo_fact (d : Fl) (ok : FlOk d) (a : Nat) (m : List UInt8) (n : Nat) (hm : 8 * n ≤ m.length) (h : d.steps + n ≤ 4611686018427387904) : ∀ k, k ≤ n → RProgFact d a k (rprogTo d a m k)
  | 0, _ => ⟨ok, by simp [rprogTo], rfl, rfl, fun _ _ _ => rfl, .inl rfl⟩
  | k + 1, hk => by
    have ih := rprogTo_fact d ok a m n hm h k (by omega)
    unfold rprogTo
    by_cases h0 : (rprogTo d a m k).1 = 0
    · rw [if_pos h0]
      have hs := ih.steps
      have w := rwordOf_fact (rprogTo d a m k).2 ih.ok (by omega) (a + 8 * k) (cut m (8 * k) 8) (cut_len (by omega))
      exact ⟨w.ok, by rw [w.steps]; omega, by rw [w.worn, ih.worn], by rw [w.len, ih.len], fun i hi ho => by rw [w.rest i (by rw [ih.len]; exact hi) (by omega), ih.rest i hi (by omega)], w.code⟩
    · rw [if_neg h0]
      exact ⟨ih.ok, by have := ih.steps; omega, ih.worn, ih.len, fun i hi ho => ih.rest i hi (by omega), ih.code⟩
theorem rprogTo_stop {d : Fl} {a : Nat} {m : List UInt8} {k : Nat} (h : (rprogTo d a m k).1 ≠ 0) : ∀ n, k ≤ n → rprogTo d a m n = rprogTo d a m k := by
  intro n hn
  induction n with
  | zero => obtain rfl : k = 0 := by omega
            rfl
  | succ n ih =>
    by_cases e : k = n + 1
    · rw [e]
    · have := ih (by omega)
      rw [rprogTo, if_neg (by rw [this]; exact h), this]

set_option maxRecDepth 100000 in
set_option maxHeartbeats 3200000 in
theorem rprog_in {g gB gW cB cW N : Nat} {d : Fl} {w : World} (h : RefFl w g gB gW cB cW N d) (ok : FlOk d) (a : Nat) (A : Option Addr) (m : List UInt8) (c : Nat) (hm : Bs w A m) (hA : Off (FlF g gB gW) A m) (hc : m.length ≤ c) (hd : d.dark = false) (hfit : a + m.length ≤ d.b.length)
    (hal : a % 8 = 0 ∧ m.length % 8 = 0) (hcan : Hid (canB (cut d.b a m.length) m = true)) (hst : d.steps + m.length ≤ 4611686018427387904) :
    Calls Try.prog 31 #[.pointer (some ⟨g, 0, none⟩), .int .i64 (a : Int), .slice A m.length c] w (ErasePost w g gB gW cB cW N (rprogTo d a m (m.length / 8))) := by
  obtain ⟨AP, cP, hg, -, -⟩ := h.cells
  have c0 : w.cell? ⟨g, 0, none⟩ = some (.slice (some ⟨gB, 0, none⟩) d.b.length cB) := by rw [cell_of_row _ _ _ _ _ _ hg]; rfl
  have c5 : w.cell? ⟨g, 5, none⟩ = some (.bool false) := by rw [cell_of_row _ _ _ _ _ _ hg, ← hd]; rfl
  have hlb : d.b.length ≤ 67108864 := by have := ok.len; have := ok.few; omega
  have hcap : d.b.length ≤ cB := h.bytes.cap
  have hwi : Hid (decide (0 ≤ (a : Int) ∧ 0 ≤ (m.length : Int) ∧ (a : Int) + (m.length : Int) ≤ (d.b.length : Int)) = true) := Lib.hid (decide_eq_true ⟨by omega, by omega, by omega⟩)
  obtain ⟨n, hn⟩ : ∃ n, m.length = 8 * n := ⟨m.length / 8, by omega⟩
  have hn8 : m.length / 8 = n := by omega
  rw [hn8]
  have al1 : (a : Int) % 8 = 0 := by omega
  have al2 : (m.length : Int) % 8 = 0 := by omega
  obtain ⟨o, ho, zs0⟩ := slice_in gB a m.length cB (by omega)
  have zs : ∀ (u : World), (Instr.slice 30 (.slice (some ⟨gB, 0, none⟩) d.b.length cB) (some (.int .i64 (a : Int))) (some (.int .i64 ((a : Int) + (m.length : Int)))) none).run Try.prog u = .ok (.slice (some ⟨gB, o, none⟩) m.length (cB - a)) u := fun u => zs0 d.b.length u
  have hcl : Hid ((cut d.b a m.length).length = m.length) := Lib.hid (cut_len hfit)
  have HCan : Hid (∀ k1, Calls Try.prog 46 #[.slice (some ⟨gB, o, none⟩) m.length k1, .slice A m.length c] w fun e w' => e = .returned (.bool true) ∧ ∃ n, w' = w.drewN n) := Lib.hid (fun k1 => by
    have := rcan_is (A1 := some ⟨gB, o, none⟩) (A2 := A) (l := cut d.b a m.length) (m := m) (c1 := k1) (c2 := c) hcan (h.bytes.bs.cutAt hfit ho) hm (by rw [hcl.out]; omega)
    rw [hcl.out] at this
    exact this)
  have HF := Lib.hid (fun k => rprogTo_fact d ok a m n (by omega) (by omega) k)
  have HH := Lib.hid h
  have HM := Lib.hid hm
  have HA := Lib.hid hA
  have Hn := Lib.hid hn
  have Hfit := Lib.hid hfit
  have Hho := Lib.hid ho
  have hmz : m.length ≤ 67108864 := by omega
  have haz : a ≤ 67108864 := by omega
  have Hst := Lib.hid hst
  have Hhd := Lib.hid hd
  obtain ⟨n1, n2, n3⟩ := h.ne
  clear hg h hm hA hn hn8 hfit ho zs0 ok hst hal hd
  go_enter Try.func31, Try.ntmps31
  go_wp2_with (first
    | (go_at_call 45; (with_reducible refine (within_is hwi (by omega) (by omega) (by omega) (by omega) (by omega) (by omega)).mono ?_); rintro e w' ⟨rfl, rfl⟩)
    | (go_at_call 46; (with_reducible refine (HCan.out _).mono ?_); rintro e w' ⟨rfl, nd, rfl⟩))
  go_loopw [7] (fun i wr => ∃ k y : Nat, k ≤ n ∧ Hid (y = 8 * k) ∧ y ≤ m.length ∧ i = .int .i64 (y : Int) ∧ Hid ((rprogTo d a m k).1 = 0) ∧ Hid (RefFl wr g gB gW cB cW N (rprogTo d a m k).2) ∧ Hid (Only (FlF g gB gW) w wr)) (fun i _ => m.length - (intOf i).toNat)
  case atStart => exact ⟨0, 0, Nat.zero_le _, rfl, Nat.zero_le _, rfl, rfl, by show Hid (RefFl (w.drewN nd) g gB gW cB cW N d); exact Lib.hid (HH.out.below (below_drewN' (Below.refl _ _) nd)), (Only.refl _ _).drewN nd⟩
  case round =>
    obtain ⟨k, y, hk, Hy, hy, rfl, H0, HD, HO⟩ := hrel
    by_cases hlt : y < m.length
    · have hkn : k < n := by have := Hy.out; have := Hn.out; omega
      have hy8 : y + 8 ≤ m.length := by have := Hy.out; have := Hn.out; omega
      have fact := HF.out k hk
      obtain ⟨z, f, Hf⟩ : ∃ z f, Hid (rprogTo d a m k = (z, f)) := ⟨_, _, rfl⟩
      rw [Hf.out] at fact HD H0
      replace HD : Hid (RefFl wr g gB gW cB cW N f) := HD
      replace H0 : Hid (z = 0) := H0
      have hfs : f.steps ≤ d.steps + k := fact.steps
      have hfo : FlOk f := fact.ok
      have hfl : f.b.length = d.b.length := fact.len
      obtain ⟨A', hbs', hat', zs1⟩ := slice_any A wr m (HM.out.offs HA.out HO.out) c hc y 8 (by omega) hy8
      have zw : ∀ (u : World), (Instr.slice 30 (.slice A m.length c) (some (.int .i64 (y : Int))) (some (.int .i64 ((y : Int) + 8))) none).run Try.prog u = .ok (.slice A' 8 (c - y)) u := zs1
      obtain ⟨AP2, cP2, hg2, -, -⟩ := HD.out.cells
      have r0 : wr.cell? ⟨g, 0, none⟩ = some (.slice (some ⟨gB, 0, none⟩) d.b.length cB) := by rw [cell_of_row _ _ _ _ _ _ hg2, ← hfl]; rfl
      obtain ⟨o2, ho2, zs2⟩ := slice_in gB (a + y) 8 cB (by have := Hfit.out; omega)
      have zo : ∀ (u : World), (Instr.slice 30 (.slice (some ⟨gB, 0, none⟩) d.b.length cB) (some (.int .i64 ((a : Int) + (y : Int)))) (some (.int .i64 ((a : Int) + (y : Int) + 8))) none).run Try.prog u = .ok (.slice (some ⟨gB, o2, none⟩) 8 (cB - (a + y))) u := fun u => by
        have := zs2 d.b.length u
        rwa [Int.natCast_add] at this
      have hstp : f.steps + 1 ≤ 4611686018427387904 := by have := Hst.out; have := Hn.out; omega
      have hw2 := rwordOf_fact f hfo hstp (a + y) (cut m y 8) (cut_len hy8)
      have hcanw : Hid (canB (cut f.b (a + y) 8) (cut m y 8) = true) := Lib.hid (by rw [Hy.out]; exact canB_part Hfit.out hcan.out (by have := Hy.out; omega) fact.len fact.rest)
      have Hnext : Hid (rprogTo d a m (k + 1) = rwordOf f (a + y) (cut m y 8)) := Lib.hid (by rw [rprogTo, Hf.out, if_pos H0.out, Hy.out])
      obtain ⟨t, f1, Hst1⟩ : ∃ t f1, Hid (stepOf f = (t, f1)) := ⟨_, _, rfl⟩
      have hsb := stepOf_b f
      rw [Hst1.out] at hsb
      obtain ⟨q1, -, q3⟩ := hsb
      replace q1 : f1.b = f.b := q1
      replace q3 : f1.pick = f.pick := q3
      have Hq1 := Lib.hid q1
      have k1 := hfo.s0
      have k2 := hfo.s1
      have k3 := hfo.l0
      have k4 := hfo.l1
      have hpk : f1.pick.length ≤ 2147483648 := by rw [q3]; exact hfo.p
      have hf1l : f1.b.length = d.b.length := by rw [q1, hfl]
      have Hbw := Lib.hid hbs'
      have Hoffw : Hid (∀ j, At A' j → ¬ FlF g gB gW j) := Lib.hid (fun j hj => HA.out (by omega) j (hat' j hj))
      have Hho2 := Lib.hid ho2
      have Hfl := Lib.hid hfl
      have Hf1l := Lib.hid hf1l
      have Hcutl : Hid ((cut m y 8).length = 8) := Lib.hid (cut_len hy8)
      obtain ⟨mw, Hmw⟩ : ∃ mw, Hid (cut m y 8 = mw) := ⟨_, rfl⟩
      rw [Hmw.out] at Hcutl Hbw hcanw Hnext hw2
      have hal2 : a + y + 8 ≤ d.b.length := by have := Hfit.out; omega
      have Hw2code := Lib.hid hw2.code
      clear hbs' hat' zs1 fact hw2 hstp zs hfs hfo hfl ho2 zs2 hg2 q1 q3 hf1l
      cases t with
      | false =>
        have Hr : Hid (rwordOf f (a + y) mw = (0, withB f1 (laid f1.b (a + y) mw))) := Lib.hid (by unfold rwordOf; rw [Hst1.out])
        rw [Hr.out] at Hnext
        go_wp2_with (go_at_call 47; refine (rstep_is HD.out Hst1 k1 k2 k3 k4).mono ?_; rintro e w1 ⟨rfl, hr1, ho1⟩; have HR1 := Lib.hid hr1; have HO1 := Lib.hid (ho1.toF (g := g) (gB := gB) (gW := gW) (fun k hk => .inl hk)); clear hr1 ho1)
        have HSET : Hid (∀ c1, Calls Try.prog 48 #[.pointer (some ⟨g, 0, none⟩), .int .i64 ((a : Int) + (y : Int)), .slice A' 8 c1] w1 (SetPost w1 g gB gW cB cW N f1 (a + y) mw)) := Lib.hid (fun c1 => by
          have := rset_any HR1.out (a + y) A' mw c1 (Hbw.out.offs (fun _ => Hoffw.out) HO1.out) (fun _ j hj e => Hoffw.out j hj (.inr (.inl e))) (by rw [Hcutl.out, Hf1l.out]; exact hal2) (by rw [Hf1l.out]; omega)
          rwa [Hcutl.out, Int.natCast_add] at this)
        go_wp2_with (go_at_call 48; (with_reducible refine (HSET.out _).mono ?_); rintro e w2 ⟨rfl, hr2, ho2⟩; have HR2 := Lib.hid hr2; have HO2 := Lib.hid (ho2.toF (g := g) (gB := gB) (gW := gW) (fun k hk => .inr (.inl hk))); clear hr2 ho2)
        go_roundw
        case rel => exact ⟨k + 1, y + 8, by omega, Lib.hid (by have := Hy.out; omega), hy8, by go_num, by rw [Hnext.out]; exact Lib.hid rfl, by rw [Hnext.out]; exact HR2, Lib.hid ((HO.out.trans HO1.out).trans HO2.out)⟩
        case measure => simp [intOf]; omega
      | true =>
        have Hr : Hid (rwordOf f (a + y) mw = (5, ⟨laid f1.b (a + y) (tornB (cut f1.b (a + y) 8) mw f1.pick), f1.worn, f1.steps, f1.left, [], f1.dark⟩)) := Lib.hid (by unfold rwordOf; rw [Hst1.out])
        rw [Hr.out] at Hnext
        obtain ⟨hv, HV⟩ : ∃ l, Hid (tornB (cut f1.b (a + y) 8) mw f1.pick = l) := ⟨_, rfl⟩
        have hhl : Hid (hv.length = 8) := Lib.hid (by rw [← HV.out, tornB_len, Hcutl.out])
        rw [HV.out] at Hnext
        have Hend : Hid (rprogTo d a m n = _) := Lib.hid (by rw [rprogTo_stop (k := k + 1) (by rw [Hnext.out]; simp) n (by omega), Hnext.out])
        go_wp2_with (go_at_call 47; refine (rstep_is HD.out Hst1 k1 k2 k3 k4).mono ?_; rintro e w1 ⟨rfl, hr1, ho1⟩; have HR1 := Lib.hid hr1; have HO1 := Lib.hid (ho1.toF (g := g) (gB := gB) (gW := gW) (fun k hk => .inl hk)); obtain ⟨AP3, cP3, hg3, hbp3, -⟩ := hr1.cells; have c4 : w1.cell? ⟨g, 4, none⟩ = some (.slice AP3 f1.pick.length cP3) := (by rw [cell_of_row _ _ _ _ _ _ hg3]; rfl); have HBP := Lib.hid hbp3; clear hr1 ho1 hg3 hbp3)
        have HTf : Hid (∀ W c1 c2, W = w1 → Calls Try.prog 49 #[.slice (some ⟨gB, o2, none⟩) 8 c1, .slice A' 8 c2, .slice AP3 f1.pick.length cP3] W (RetOb 5 W hv)) := Lib.hid (fun W c1 c2 hW => by
          subst hW
          have hcl8 : (cut f1.b (a + y) 8).length = 8 := cut_len (by rw [Hf1l.out]; exact hal2)
          have := rtorn_yes (some ⟨gB, o2, none⟩) A' AP3 (cut f1.b (a + y) 8) mw f1.pick c1 c2 cP3 W (Lib.hid (by rw [Hq1.out]; exact hcanw.out)) (HR1.out.bytes.bs.cutAt (by rw [Hf1l.out]; exact hal2) Hho2.out) (Hbw.out.offs (fun _ => Hoffw.out) HO1.out) HBP.out (by rw [hcl8]; omega) (by rw [Hcutl.out]; omega) hpk
          rw [hcl8, Hcutl.out, HV.out] at this
          exact this)
        go_wp2_with (go_at_call 49; refine (HTf.out _ _ _ rfl).mono ?_; rintro e w2 ⟨v2, rfl, ho2, kb2⟩; obtain ⟨A2, c2, rfl, hbs2, -⟩ := ho2.form; have HB2 := Lib.hid hbs2; have KB := Lib.hid kb2; have HFr := Lib.hid ho2.fresh; clear hbs2 kb2 ho2)
        have HSET : Hid (Calls Try.prog 48 #[.pointer (some ⟨g, 0, none⟩), .int .i64 ((a : Int) + (y : Int)), .slice A2 hv.length c2] w2 (SetPost w2 g gB gW cB cW N f1 (a + y) hv)) := Lib.hid (by
          have := rset_any (HR1.out.below KB.out) (a + y) A2 hv c2 HB2.out (fun _ j hj e => by have := HFr.out j hj; have := HR1.out.blk.2.1; omega) (by rw [hhl.out, Hf1l.out]; exact hal2) (by rw [Hf1l.out]; omega)
          rwa [Int.natCast_add] at this)
        go_wp2_with (go_at_call 48; refine HSET.out.mono ?_; rintro e w3 ⟨rfl, hr3, ho3⟩; have HR3 := Lib.hid hr3; have HO3 := Lib.hid (ho3.toF (g := g) (gB := gB) (gW := gW) (fun k hk => .inr (.inl hk))); obtain ⟨AP5, cP5, hg5, -, -⟩ := hr3.cells; have HG5 := Lib.hid hg5; have c45 : w3.cell? ⟨g, 4, none⟩ = some (.slice AP5 f1.pick.length cP5) := (by rw [cell_of_row _ _ _ _ _ _ hg5]; rfl); have f45 : w3.frozen? ⟨g, 4, none⟩ = false := frozen_of_row w3 g 4 _ _ hg5; clear hr3 ho3 hg5)
        go_ret
        rw [Hend.out]
        have o6 : Only (fun k => k = g) w3 (w3.setCell ⟨g, 4, none⟩ (.slice none 0 0)) := Only.setCell (p := ⟨g, 4, none⟩) (Only.refl (fun k => k = g) w3) (.inl rfl) _
        exact ⟨rfl, HR3.out.upd (AP := none) (cP := 0) (p := []) o6 (Bs.nil_ _ _) (by rintro k ⟨a, e, _⟩; cases e) (heap_setCell_same _ _ _ _ _ _ HG5.out), (((HO.out.trans HO1.out).trans (Only.of_below KB.out)).trans HO3.out).trans (o6.toF (fun k hk => .inl hk))⟩
    · have hkn : k = n := by have := Hy.out; have := Hn.out; omega
      subst hkn
      go_wp2
      go_ret
      exact ⟨by rw [H0.out]; rfl, HD.out, HO.out⟩
end Go.Proofs.Ytlnpfndjdilfhaa
