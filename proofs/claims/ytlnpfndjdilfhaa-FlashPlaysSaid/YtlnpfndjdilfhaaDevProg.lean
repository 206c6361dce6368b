/- The contract of the program's Program. -/
import Derived.Test.YtlnpfndjdilfhaaDevNew
namespace Go.Proofs.Ytlnpfndjdilfhaa
open Go.RowKit
set_option linter.unusedVariables false

/-- k words -/
def dprogTo (d : Dl) (a : Nat) (m : List UInt8) : Nat → Int × Dl
  | 0 => (0, d)
  | k + 1 => if (dprogTo d a m k).1 = 0 then dwordOf (dprogTo d a m k).2 (a + 8 * k) (cut m (8 * k) 8) else dprogTo d a m k
def dprogOf (d : Dl) (s : Int) (m : List UInt8) : Int × Dl :=
  if d.off then (5, d) else if ¬ (0 ≤ s ∧ s + m.length ≤ d.b.length) then (2, d) else if s.toNat % 8 ≠ 0 ∨ m.length % 8 ≠ 0 then (3, d)
  else if canB (cut d.b s.toNat m.length) m = false then (4, d) else dprogTo d s.toNat m (m.length / 8)

theorem laid_get {l : List UInt8} {a : Nat} {s : List UInt8} {i : Nat} (h : i < l.length) : (laid l a s).getD i 0 = if a ≤ i ∧ i < a + s.length then s.getD (i - a) 0 else l.getD i 0 := laidTo_get h

theorem dstepOf_num (d : Dl) (ok : DlOk d) (h : d.steps + 1 ≤ 4611686018427387904) : DlOk (dstepOf d).2 ∧ (dstepOf d).2.steps = d.steps + 1 := by
  unfold dstepOf
  have := ok.s0
  have := ok.l0
  have := ok.l1
  split
  · split
    · exact ⟨⟨ok.len, ok.few, ok.worn, by simp; omega, h, by simp; omega, by simp; omega, ok.p⟩, rfl⟩
    · exact ⟨⟨ok.len, ok.few, ok.worn, by simp; omega, h, by simp, by simp, by simp⟩, rfl⟩
  · exact ⟨⟨ok.len, ok.few, ok.worn, by simp; omega, h, ok.l0, ok.l1, ok.p⟩, rfl⟩
theorem DlOk.withB {d : Dl} (ok : DlOk d) {b : List UInt8} (h : b.length = d.b.length) : DlOk (dwithB d b) := ⟨h.trans ok.len, ok.few, ok.worn, ok.s0, ok.s1, ok.l0, ok.l1, ok.p⟩

structure WordFact (d : Dl) (a : Nat) (r : Int × Dl) : Prop where
  ok : DlOk r.2
  steps : r.2.steps = d.steps + 1
  worn : r.2.worn = d.worn
  len : r.2.b.length = d.b.length
  rest : ∀ i, i < d.b.length → (i < a ∨ a + 8 ≤ i) → r.2.b.getD i 0 = d.b.getD i 0
  code : r.1 = 0 ∨ r.1 = 5
theorem dwordOf_fact (d : Dl) (ok : DlOk d) (h : d.steps + 1 ≤ 4611686018427387904) (a : Nat) (m : List UInt8) (hm : m.length = 8) : WordFact d a (dwordOf d a m) := by
  obtain ⟨h1, h2⟩ := dstepOf_num d ok h
  obtain ⟨e1, e2, e3⟩ := dstepOf_b d
  unfold dwordOf
  obtain ⟨t, f, hf⟩ : ∃ t f, dstepOf d = (t, f) := ⟨_, _, rfl⟩
  rw [hf] at h1 h2 e1 e2 ⊢
  simp only at h1 h2 e1 e2
  cases t with
  | none => exact ⟨h1.withB (laid_len _ _ _), h2, e2, by show (laid _ _ _).length = _; rw [laid_len, e1], fun i hi ho => by
      show (laid f.b a m).getD i 0 = _
      rw [laid_get (by rw [e1]; exact hi), if_neg (by rw [hm]; omega), e1], .inl rfl⟩
  | some p => exact ⟨h1.withB (laid_len _ _ _), h2, e2, by show (laid _ _ _).length = _; rw [laid_len, e1], fun i hi ho => by
      show (laid f.b a _).getD i 0 = _
      rw [laid_get (by rw [e1]; exact hi), if_neg (by rw [tornB_len, hm]; omega), e1], .inr rfl⟩

structure ProgFact (d : Dl) (a k : Nat) (r : Int × Dl) : Prop where
  ok : DlOk r.2
  steps : r.2.steps ≤ d.steps + k
  worn : r.2.worn = d.worn
  len : r.2.b.length = d.b.length
  rest : ∀ i, i < d.b.length → (i < a ∨ a + 8 * k ≤ i) → r.2.b.getD i 0 = d.b.getD i 0
  code : r.1 = 0 ∨ r.1 = 5
theorem dprogTo_fact (d : Dl) (ok : DlOk d) (a : Nat) (m : List UInt8) (n : Nat) (hm : 8 * n ≤ m.length) (h : d.steps + n ≤ 4611686018427387904) : ∀ k, k ≤ n → ProgFact d a k (dprogTo d a m k)
  | 0, _ => ⟨ok, by simp [dprogTo], rfl, rfl, fun _ _ _ => rfl, .inl rfl⟩
  | k + 1, hk => by
    have ih := dprogTo_fact d ok a m n hm h k (by omega)
    unfold dprogTo
    by_cases h0 : (dprogTo d a m k).1 = 0
    · rw [if_pos h0]
      have hs := ih.steps
      have w := dwordOf_fact (dprogTo d a m k).2 ih.ok (by omega) (a + 8 * k) (cut m (8 * k) 8) (cut_len (by omega))
      exact ⟨w.ok, by rw [w.steps]; omega, by rw [w.worn, ih.worn], by rw [w.len, ih.len], fun i hi ho => by rw [w.rest i (by rw [ih.len]; exact hi) (by omega), ih.rest i hi (by omega)], w.code⟩
    · rw [if_neg h0]
      exact ⟨ih.ok, by have := ih.steps; omega, ih.worn, ih.len, fun i hi ho => ih.rest i hi (by omega), ih.code⟩
theorem dprogTo_stop {d : Dl} {a : Nat} {m : List UInt8} {k : Nat} (h : (dprogTo d a m k).1 ≠ 0) : ∀ n, k ≤ n → dprogTo d a m n = dprogTo d a m k := by
  intro n hn
  induction n with
  | zero => obtain rfl : k = 0 := by omega
            rfl
  | succ n ih =>
    by_cases e : k = n + 1
    · rw [e]
    · have := ih (by omega)
      rw [dprogTo, if_neg (by rw [this]; exact h), this]

theorem canB_part {l m : List UInt8} {a k : Nat} {f : List UInt8} (hl : a + m.length ≤ l.length) (hc : canB (cut l a m.length) m = true) (hk : 8 * k + 8 ≤ m.length) (hf : f.length = l.length) (hr : ∀ i, i < l.length → (i < a ∨ a + 8 * k ≤ i) → f.getD i 0 = l.getD i 0) :
    canB (cut f (a + 8 * k) 8) (cut m (8 * k) 8) = true := by
  have h1 := canB_iff.1 hc
  refine canB_true (by rw [cut_len (by omega), cut_len (by omega)]) fun i hi => ?_
  rw [cut_len (by omega)] at hi
  rw [cut_get hi, cut_get hi, hr _ (by omega) (by omega)]
  have := h1.2 (8 * k + i) (by rw [cut_len hl]; omega)
  rwa [cut_get (by omega), ← Nat.add_assoc] at this

/-- a row that holds something lies off the blocks of F -/
def Off (F : Nat → Prop) (A : Option Addr) (l : List UInt8) : Prop := 0 < l.length → ∀ k, At A k → ¬ F k
theorem Bs.offs {F : Nat → Prop} {w w' : World} {A : Option Addr} {l : List UInt8} (h : Bs w A l) (hA : Off F A l) (ho : Only F w w') : Bs w' A l := fun hl => h.only ho (hA hl) hl

theorem slice_any (A : Option Addr) (w : World) (m : List UInt8) (hm : Bs w A m) (c : Nat) (hc : m.length ≤ c) (y n : Nat) (hn : 0 < n) (h : y + n ≤ m.length) : ∃ A', Bs w A' (cut m y n) ∧ (∀ k, At A' k → At A k) ∧ ∀ (u : World),
    (Instr.slice 30 (.slice A m.length c) (some (.int .i64 (y : Int))) (some (.int .i64 ((y : Int) + (n : Int)))) none).run Try.prog u = .ok (.slice A' n (c - y)) u := by
  obtain ⟨b, o, rfl, hcell⟩ := hm (by omega)
  refine ⟨some ⟨b, o + y, none⟩, fun hl => ⟨b, o + y, rfl, fun j hj => ?_⟩, ?_, fun u => ?_⟩
  · rw [cut_len h] at hj
    rw [cut_get hj, Nat.add_assoc]
    exact hcell (y + j) (by omega)
  · rintro k ⟨a, e, rfl⟩
    injection e with e
    subst e
    exact ⟨_, rfl, rfl⟩
  · rw [run_slice_lh u _ _ _ _ under_bs _ _ _ _ (by omega) (by omega) (by omega), sizeOf_u8]
    simp only [Result.andThen, sliced, Int.toNat_natCast, Option.map_some, Nat.mul_one]
    rw [if_neg (by omega)]
    have e : ((y : Int) + (n : Int)).toNat - y = n := by omega
    rw [e]
    congr 3
    unfold Addr.add
    split <;> simp_all

set_option maxRecDepth 100000 in
set_option maxHeartbeats 3200000 in
theorem dprog_in {g gB gW cB cW N : Nat} {d : Dl} {w : World} (h : DevFl w g gB gW cB cW N d) (ok : DlOk d) (a : Nat) (A : Option Addr) (m : List UInt8) (c : Nat) (hm : Bs w A m) (hA : Off (FlF g gB gW) A m) (hc : m.length ≤ c) (hd : d.off = false) (hfit : a + m.length ≤ d.b.length)
    (hal : a % 8 = 0 ∧ m.length % 8 = 0) (hcan : Hid (canB (cut d.b a m.length) m = true)) (hst : d.steps + m.length ≤ 4611686018427387904) :
    Calls Try.prog 24 #[.pointer (some ⟨g, 0, none⟩), .int .i64 (a : Int), .slice A m.length c] w (DErasePost w g gB gW cB cW N (dprogTo d a m (m.length / 8))) := by
  obtain ⟨AP, cP, hg, -, -⟩ := h.cells
  have c0 : w.cell? ⟨g, 0, none⟩ = some (.slice (some ⟨gB, 0, none⟩) d.b.length cB) := by rw [cell_of_row _ _ _ _ _ _ hg]; rfl
  have hlb : d.b.length ≤ 67108864 := by have := ok.len; have := ok.few; omega
  have hcap : d.b.length ≤ cB := h.bytes.cap
  have hpw : Calls Try.prog 40 #[.pointer (some ⟨g, 0, none⟩)] w fun e w' => e = .returned (.bool true) ∧ w = w' := by
    have := dpowered_any h
    rwa [hd] at this
  have hho := dholds_is (a := (a : Int)) (n := (m.length : Int)) (b := true) h (Lib.hid (decide_eq_true ⟨by omega, by omega, by omega⟩)) (by omega) (by omega) (by omega) (by omega) (by omega)
  obtain ⟨n, hn⟩ : ∃ n, m.length = 8 * n := ⟨m.length / 8, by omega⟩
  have hn8 : m.length / 8 = n := by omega
  rw [hn8]
  have al1 : (a : Int) % 8 = 0 := by omega
  have al2 : (m.length : Int) % 8 = 0 := by omega
  obtain ⟨o, ho, zs0⟩ := slice_in gB a m.length cB (by omega)
  have zs : ∀ (u : World), (Instr.slice 30 (.slice (some ⟨gB, 0, none⟩) d.b.length cB) (some (.int .i64 (a : Int))) (some (.int .i64 ((a : Int) + (m.length : Int)))) none).run Try.prog u = .ok (.slice (some ⟨gB, o, none⟩) m.length (cB - a)) u := fun u => zs0 d.b.length u
  have hcl : Hid ((cut d.b a m.length).length = m.length) := Lib.hid (cut_len hfit)
  have HCan : Hid (∀ k1, Calls Try.prog 43 #[.slice (some ⟨gB, o, none⟩) m.length k1, .slice A m.length c] w fun e w' => e = .returned (.bool true) ∧ ∃ n, w' = w.drewN n) := Lib.hid (fun k1 => by
    have := can_is (A1 := some ⟨gB, o, none⟩) (A2 := A) (l := cut d.b a m.length) (m := m) (c1 := k1) (c2 := c) hcan (h.bytes.bs.cutAt hfit ho) hm (by rw [hcl.out]; omega)
    rw [hcl.out] at this
    exact this)
  have HF := Lib.hid (fun k => dprogTo_fact d ok a m n (by omega) (by omega) k)
  have HH := Lib.hid h
  have HM := Lib.hid hm
  have HA := Lib.hid hA
  have Hn := Lib.hid hn
  have Hfit := Lib.hid hfit
  have Hho := Lib.hid ho
  have hmz : m.length ≤ 67108864 := by omega
  have haz : a ≤ 67108864 := by omega
  have Hst := Lib.hid hst
  clear hg h hm hA hn hn8 hfit ho zs0 ok hst hal
  go_enter Try.func24, Try.ntmps24
  go_wp2_with (first
    | (go_at_call 40; refine hpw.mono ?_; rintro e w' ⟨rfl, rfl⟩)
    | (go_at_call 38; refine hho.mono ?_; rintro e w' ⟨rfl, rfl⟩)
    | (go_at_call 43; refine (HCan.out _).mono ?_; rintro e w' ⟨rfl, nd, rfl⟩))
  go_loopw [7] (fun i wr => ∃ k y : Nat, k ≤ n ∧ Hid (y = 8 * k) ∧ y ≤ m.length ∧ i = .int .i64 (y : Int) ∧ Hid ((dprogTo d a m k).1 = 0) ∧ Hid (DevFl wr g gB gW cB cW N (dprogTo d a m k).2) ∧ Hid (Only (FlF g gB gW) w wr)) (fun i _ => m.length - (intOf i).toNat)
  case atStart => exact ⟨0, 0, Nat.zero_le _, rfl, Nat.zero_le _, rfl, rfl, by show Hid (DevFl (w.drewN nd) g gB gW cB cW N d); exact Lib.hid (HH.out.below (below_drewN' (Below.refl _ _) nd)), (Only.refl _ _).drewN nd⟩
  case round =>
    obtain ⟨k, y, hk, Hy, hy, rfl, H0, HD, HO⟩ := hrel
    by_cases hlt : y < m.length
    · have hkn : k < n := by have := Hy.out; have := Hn.out; omega
      have hy8 : y + 8 ≤ m.length := by have := Hy.out; have := Hn.out; omega
      have fact := HF.out k hk
      obtain ⟨z, f, Hf⟩ : ∃ z f, Hid (dprogTo d a m k = (z, f)) := ⟨_, _, rfl⟩
      rw [Hf.out] at fact HD H0
      replace HD : Hid (DevFl wr g gB gW cB cW N f) := HD
      replace H0 : Hid (z = 0) := H0
      have hfs : f.steps ≤ d.steps + k := fact.steps
      have hfo : DlOk f := fact.ok
      have hfl : f.b.length = d.b.length := fact.len
      obtain ⟨A', hbs', hat', zs1⟩ := slice_any A wr m (HM.out.offs HA.out HO.out) c hc y 8 (by omega) hy8
      have zw : ∀ (u : World), (Instr.slice 30 (.slice A m.length c) (some (.int .i64 (y : Int))) (some (.int .i64 ((y : Int) + 8))) none).run Try.prog u = .ok (.slice A' 8 (c - y)) u := zs1
      have hstp : f.steps + 1 ≤ 4611686018427387904 := by have := Hst.out; have := Hn.out; omega
      have hw2 := dwordOf_fact f hfo hstp (a + y) (cut m y 8) (cut_len hy8)
      have HW : Hid (∀ c1, Calls Try.prog 44 #[.pointer (some ⟨g, 0, none⟩), .int .i64 ((a : Int) + (y : Int)), .slice A' 8 c1] wr (DErasePost wr g gB gW cB cW N (dwordOf f (a + y) (cut m y 8)))) := Lib.hid (fun c1 => by
        rw [← Int.natCast_add]
        exact dword_any HD.out hfo (a + y) A' (cut m y 8) c1 hbs' (cut_len hy8) (by have := Hfit.out; omega) (by rw [Hy.out]; exact canB_part Hfit.out hcan.out (by have := Hy.out; omega) fact.len fact.rest))
      have Hnext : Hid (dprogTo d a m (k + 1) = dwordOf f (a + y) (cut m y 8)) := Lib.hid (by rw [dprogTo, Hf.out, if_pos H0.out, Hy.out])
      obtain ⟨r, f2, Hr⟩ : ∃ r f2, Hid (dwordOf f (a + y) (cut m y 8) = (r, f2)) := ⟨_, _, rfl⟩
      rw [Hr.out] at HW Hnext hw2
      have hr05 : r = 0 ∨ r = 5 := hw2.code
      clear hbs' hat' zs1 fact hw2 hstp zs hfs hfo hfl
      rcases hr05 with rfl | rfl
      · go_wp2_with (go_at_call 44; refine (HW.out _).mono ?_; rintro e w2 ⟨rfl, hr2, ho2⟩; have HR2 := Lib.hid hr2; have HO2 := Lib.hid ho2; clear hr2 ho2)
        go_roundw
        case rel => exact ⟨k + 1, y + 8, by omega, Lib.hid (by have := Hy.out; omega), hy8, by go_num, by rw [Hnext.out]; exact Lib.hid rfl, by rw [Hnext.out]; exact HR2, Lib.hid (HO.out.trans (HO2.out))⟩
        case measure => simp [intOf]; omega
      · have Hend : Hid (dprogTo d a m n = (5, f2)) := Lib.hid (by rw [dprogTo_stop (k := k + 1) (by rw [Hnext.out]; simp) n (by omega), Hnext.out])
        go_wp2_with (go_at_call 44; refine (HW.out _).mono ?_; rintro e w2 ⟨rfl, hr2, ho2⟩; have HR2 := Lib.hid hr2; have HO2 := Lib.hid ho2; clear hr2 ho2)
        go_ret
        rw [Hend.out]
        exact ⟨rfl, HR2.out, HO.out.trans HO2.out⟩
    · have hkn : k = n := by have := Hy.out; have := Hn.out; omega
      subst hkn
      go_wp2
      go_ret
      exact ⟨by rw [H0.out]; rfl, HD.out, HO.out⟩

set_option maxHeartbeats 800000 in
theorem dprog_any {g gB gW cB cW N : Nat} {d : Dl} {w : World} (h : DevFl w g gB gW cB cW N d) (ok : DlOk d) (s : Int) (A : Option Addr) (m : List UInt8) (c : Nat) (hm : Bs w A m) (hA : Off (FlF g gB gW) A m) (hc : m.length ≤ c) (hs1 : -9223372036854775808 ≤ s) (hs2 : s ≤ 9223372036854775807) (hmz : m.length ≤ 2147483648) (hst : d.steps + m.length ≤ 4611686018427387904) :
    Calls Try.prog 24 #[.pointer (some ⟨g, 0, none⟩), .int .i64 s, .slice A m.length c] w (DErasePost w g gB gW cB cW N (dprogOf d s m)) := by
  have hlb : d.b.length ≤ 67108864 := by have := ok.len; have := ok.few; omega
  have hpw := dpowered_any h
  unfold dprogOf
  cases hd : d.off with
  | true =>
    rw [hd] at hpw
    rw [if_pos rfl]
    clear hd
    go_enter Try.func24, Try.ntmps24
    go_wp2_with (go_at_call 40; refine hpw.mono ?_; rintro e w' ⟨rfl, rfl⟩)
    go_ret
    exact ⟨rfl, h, Only.refl _ _⟩
  | false =>
    rw [hd] at hpw
    rw [if_neg (by simp)]
    by_cases hin : 0 ≤ s ∧ s + m.length ≤ d.b.length
    · rw [if_neg (not_not_intro hin)]
      obtain ⟨a, rfl⟩ := Int.eq_ofNat_of_zero_le hin.1
      rw [Int.toNat_natCast]
      have hfit : a + m.length ≤ d.b.length := by omega
      have hho := dholds_is (a := (a : Int)) (n := (m.length : Int)) (b := true) h (Lib.hid (decide_eq_true ⟨by omega, by omega, by omega⟩)) (by omega) (by omega) (by omega) (by omega) (by omega)
      by_cases hal : a % 8 ≠ 0 ∨ m.length % 8 ≠ 0
      · rw [if_pos hal]
        have HH := Lib.hid h
        clear hin hd h hm hA
        by_cases h1 : a % 8 ≠ 0
        · have al1 : ((a : Int) % 8 != 0) = true := by simp; omega
          have al3 : ¬ (a : Int) % 8 = 0 := by omega
          have al4 : decide ((a : Int) % 8 = 0) = false := by simp; omega
          clear hal h1
          go_enter Try.func24, Try.ntmps24
          go_wp2_with (first
            | (go_at_call 40; refine hpw.mono ?_; rintro e w' ⟨rfl, rfl⟩)
            | (go_at_call 38; refine hho.mono ?_; rintro e w' ⟨rfl, rfl⟩))
          go_ret
          exact ⟨rfl, HH.out, Only.refl _ _⟩
        · have al1 : (a : Int) % 8 = 0 := by omega
          have al2 : ((m.length : Int) % 8 != 0) = true := by simp; omega
          clear hal h1
          go_enter Try.func24, Try.ntmps24
          go_wp2_with (first
            | (go_at_call 40; refine hpw.mono ?_; rintro e w' ⟨rfl, rfl⟩)
            | (go_at_call 38; refine hho.mono ?_; rintro e w' ⟨rfl, rfl⟩))
          go_ret
          exact ⟨rfl, HH.out, Only.refl _ _⟩
      · rw [if_neg hal]
        cases hcan : canB (cut d.b a m.length) m with
        | true =>
          rw [if_neg (by simp)]
          exact dprog_in h ok a A m c hm hA hc hd hfit (by omega) hcan hst
        | false =>
          rw [if_pos rfl]
          have hcap : d.b.length ≤ cB := h.bytes.cap
          have al1 : (a : Int) % 8 = 0 := by omega
          have al2 : (m.length : Int) % 8 = 0 := by omega
          obtain ⟨AP, cP, hg, -, -⟩ := h.cells
          have c0 : w.cell? ⟨g, 0, none⟩ = some (.slice (some ⟨gB, 0, none⟩) d.b.length cB) := by rw [cell_of_row _ _ _ _ _ _ hg]; rfl
          obtain ⟨o, ho, zs0⟩ := slice_in gB a m.length cB (by omega)
          have zs : ∀ (u : World), (Instr.slice 30 (.slice (some ⟨gB, 0, none⟩) d.b.length cB) (some (.int .i64 (a : Int))) (some (.int .i64 ((a : Int) + (m.length : Int)))) none).run Try.prog u = .ok (.slice (some ⟨gB, o, none⟩) m.length (cB - a)) u := fun u => zs0 d.b.length u
          have hcl : Hid ((cut d.b a m.length).length = m.length) := Lib.hid (cut_len hfit)
          have HCan : Hid (∀ k1, Calls Try.prog 43 #[.slice (some ⟨gB, o, none⟩) m.length k1, .slice A m.length c] w fun e w' => e = .returned (.bool false) ∧ ∃ n, w' = w.drewN n) := Lib.hid (fun k1 => by
            have := can_is (A1 := some ⟨gB, o, none⟩) (A2 := A) (l := cut d.b a m.length) (m := m) (c1 := k1) (c2 := c) hcan (h.bytes.bs.cutAt hfit ho) hm (by rw [hcl.out]; omega)
            rw [hcl.out] at this
            exact this)
          have HH := Lib.hid h
          have Hho := Lib.hid ho
          have haz : a ≤ 67108864 := by omega
          clear hin hd h hm hA hg ho zs0 hal hcan hfit
          go_enter Try.func24, Try.ntmps24
          go_wp2_with (first
            | (go_at_call 40; refine hpw.mono ?_; rintro e w' ⟨rfl, rfl⟩)
            | (go_at_call 38; refine hho.mono ?_; rintro e w' ⟨rfl, rfl⟩)
            | (go_at_call 43; refine (HCan.out _).mono ?_; rintro e w' ⟨rfl, nd, rfl⟩))
          go_ret
          exact ⟨rfl, HH.out.below (below_drewN' (Below.refl _ _) nd), (Only.refl _ _).drewN nd⟩
    · rw [if_pos hin]
      have hho := dholds_is (a := s) (n := (m.length : Int)) (b := false) h (Lib.hid (decide_eq_false (by rintro ⟨q1, -, q3⟩; exact hin ⟨q1, q3⟩))) (by omega) (by omega) (by omega) (by omega) (by omega)
      clear hin hd
      go_enter Try.func24, Try.ntmps24
      go_wp2_with (first
        | (go_at_call 40; refine hpw.mono ?_; rintro e w' ⟨rfl, rfl⟩)
        | (go_at_call 38; refine hho.mono ?_; rintro e w' ⟨rfl, rfl⟩))
      go_ret
      exact ⟨rfl, h, Only.refl _ _⟩
end Go.Proofs.Ytlnpfndjdilfhaa
