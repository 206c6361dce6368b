/- bits, CoderLength, CoderNone walked, over whatever the program's coder is. -/
import Derived.Test.YtlbkpmcccipfhaaTwo
import Derived.Test.YtlbkpmcccipfhaaLaw16Spec
import Derived.Test.YtlbkpmcccipfhaaCod2
import Derived.Test.YtlbkpmcccipfhaaRowsArg
namespace Go.Proofs.Ytlbkpmcccipfhaa
open Go.RowKit
set_option linter.unusedVariables false
set_option maxRecDepth 100000

/-- bits with their chances -/
def zipB (L : List Bool) (P : List Int) : List (Int × Bool) := (List.range L.length).map fun i => (P.getD i 0, !L.getD i false)
theorem zipB_len (L : List Bool) (P : List Int) : (zipB L P).length = L.length := by simp [zipB]
theorem puts_succ (c : Cd) (l : List (Int × Bool)) (k : Nat) (h : k < l.length) : c.puts (l.take (k + 1)) = (c.puts (l.take k)).put l[k].1 l[k].2 := by
  rw [List.take_succ_eq_append_getElem h, Cd.puts_append]; rfl
theorem zipB_succ (L : List Bool) (P : List Int) (k : Nat) (h : k < L.length) : Cd.new.puts ((zipB L P).take (k + 1)) = (Cd.new.puts ((zipB L P).take k)).put (P.getD k 0) (!L.getD k false) := by
  rw [puts_succ _ _ _ (by rw [zipB_len]; exact h)]
  simp [zipB]
theorem Cd.put_k (c : Cd) (p : Int) (z : Bool) : (c.put p z).k ≤ c.k + 1 := by
  rw [Cd.put_step]; exact Cd.step_k _ _ _ _
theorem puts_k : ∀ (l : List (Int × Bool)) (c : Cd), (c.puts l).k ≤ c.k + l.length
  | [], _ => Nat.le_refl _
  | x :: l, c => by
    have h1 := puts_k l (c.put x.1 x.2)
    have h2 := Cd.put_k c x.1 x.2
    rw [Cd.puts, List.length_cons]
    omega
theorem zipB_k (L : List Bool) (P : List Int) (k : Nat) (h : k ≤ 1000) : (Cd.new.puts ((zipB L P).take k)).k ≤ 1000 := by
  have := puts_k ((zipB L P).take k) Cd.new
  rw [List.length_take] at this
  have e : Cd.new.k = 0 := rfl
  omega

set_option maxHeartbeats 3200000 in
theorem bits16_any {C : CoP} {T : TrP} (D : Cd16 C T) (A B : Option Addr) (L : List Bool) (P : List Int) (n m c c' : Nat) (hn : L.length = n) (hm : P.length = m) (hnm : n ≤ m) (h1000 : n ≤ 1000) (w : World) (hL : BoolRow w A L) (hP : IntRow w B P) :
    Calls Try.prog 22 #[.slice A n c, .slice B m c'] w (RetOb 5 w (Cd.new.puts (zipB L P)).out) := by
  have HL := Lib.hid hL
  have HP := Lib.hid hP
  have HN := Lib.hid hn
  have HM := Lib.hid hm
  clear hL hP hn hm
  go_enter Try.func22, Try.ntmps22
  go_wp2_with fail
  with_reducible refine (D.new _).mono ?_
  rintro e v1 ⟨g, F, rfl, hc1, hF1, hb1⟩
  have HI : Hid (C v1 g (Cd.new.puts ((zipB L P).take 0)) F ∧ (∀ j, F j → w.heap.size ≤ j) ∧ Below w.heap.size w v1) := Lib.hid ⟨by rw [List.take_zero]; exact hc1, hF1, hb1⟩
  clear hc1 hF1 hb1
  go_wp2_with fail
  go_loopw [6] (fun i_ wr => ∃ (k : Nat) (F : Nat → Prop), k ≤ n ∧ i_ = .int .i64 (k : Int) ∧ Hid (C wr g (Cd.new.puts ((zipB L P).take k)) F ∧ (∀ j, F j → w.heap.size ≤ j) ∧ Below w.heap.size w wr)) (fun i_ _ => n - (intOf i_).toNat)
  case atStart => exact ⟨0, F, by omega, rfl, HI⟩
  case round =>
    clear HI
    obtain ⟨k, F, hk, rfl, HI⟩ := hrel
    by_cases hlt : k < n
    · have d1 : decide ((k : Int) < (n : Int)) = true := decide_eq_true (by omega)
      obtain ⟨ba, oa, rfl, hcs⟩ := HL.out.below HI.out.2.2 (by rw [HN.out]; omega)
      have hcl := hcs k (by rw [HN.out]; exact hlt)
      obtain ⟨bb, ob, rfl, hds⟩ := HP.out.below HI.out.2.2 (by rw [HM.out]; omega)
      have hcp := (hds k (by rw [HM.out]; omega)).1
      have hr := (hds k (by rw [HM.out]; omega)).2
      clear hcs hds
      have hst := zipB_succ L P k (by rw [HN.out]; exact hlt)
      have hck : (Cd.new.puts ((zipB L P).take k)).k ≤ 80000 := Nat.le_trans (zipB_k L P k (by omega)) (by decide)
      obtain ⟨p, hp⟩ : ∃ p, P.getD k 0 = p := ⟨_, rfl⟩
      rw [hp] at hcp hr hst
      have b1 : 0 ≤ (k : Int) := by omega
      have b2 : (k : Int) < (n : Int) := by omega
      have b3 : (k : Int) < (m : Int) := by omega
      have HK := Lib.hid hlt
      have HNX : ∀ w2 : World, CoPost C wr g (Cd.new.puts ((zipB L P).take (k + 1))) F w2 → ∃ F', Hid (C w2 g (Cd.new.puts ((zipB L P).take (k + 1))) F' ∧ (∀ j, F' j → w.heap.size ≤ j) ∧ Below w.heap.size w w2) := fun w2 h => by
        obtain ⟨F', h1, h2, h3⟩ := h
        refine ⟨F', Lib.hid ⟨h1, fun j hj => ?_, Only.low HI.out.2.2 h3 HI.out.2.1⟩⟩
        rcases h2 j hj with a | a
        · exact HI.out.2.1 j a
        · exact Nat.le_trans HI.out.2.2.size a
      have HNX := Lib.hid HNX
      by_cases hp0 : p = 0
      · subst hp0
        cases hz : L.getD k false
        · rw [hz] at hcl hst
          have HH : Hid (Calls Try.prog 15 #[.pointer (some ⟨g, 0, none⟩), .int .i64 0] wr fun e w' => e = .returned (.tuple #[]) ∧ CoPost C wr g (Cd.new.puts ((zipB L P).take (k + 1))) F w') := Lib.hid (by rw [hst]; exact D.half HI.out.1 hck 0 (by omega) (by omega))
          clear hst hck hr hp hz hlt hk
          go_wp2_with fail
          with_reducible refine HH.out.mono ?_
          rintro e w2 ⟨rfl, hp2⟩
          obtain ⟨F2, HI2⟩ := HNX.out _ hp2
          clear hp2 HH HNX HI
          go_wp2_with fail
          go_roundw
          case rel => exact ⟨k + 1, F2, by have := HK.out; omega, by go_num, HI2⟩
          case measure => have := HK.out; simp [intOf]; omega
        · rw [hz] at hcl hst
          have HH : Hid (Calls Try.prog 15 #[.pointer (some ⟨g, 0, none⟩), .int .i64 1] wr fun e w' => e = .returned (.tuple #[]) ∧ CoPost C wr g (Cd.new.puts ((zipB L P).take (k + 1))) F w') := Lib.hid (by rw [hst]; exact D.half HI.out.1 hck 1 (by omega) (by omega))
          clear hst hck hr hp hz hlt hk
          go_wp2_with fail
          with_reducible refine HH.out.mono ?_
          rintro e w2 ⟨rfl, hp2⟩
          obtain ⟨F2, HI2⟩ := HNX.out _ hp2
          clear hp2 HH HNX HI
          go_wp2_with fail
          go_roundw
          case rel => exact ⟨k + 1, F2, by have := HK.out; omega, by go_num, HI2⟩
          case measure => have := HK.out; simp [intOf]; omega
      · have e0 : decide (p = 0) = false := decide_eq_false hp0
        have e0' : (p == 0) = false := by simpa using hp0
        cases hz : L.getD k false
        · rw [hz] at hcl hst
          have HH : Hid (Calls Try.prog 13 #[.pointer (some ⟨g, 0, none⟩), .int .i64 p, .int .i64 0] wr fun e w' => e = .returned (.int .i64 (adI p 0 : Int)) ∧ CoPost C wr g (Cd.new.puts ((zipB L P).take (k + 1))) F w') := Lib.hid (by
            rw [hst]
            unfold Cd.put
            rw [if_neg hp0]
            exact D.bit HI.out.1 hck p 0 hr.1 hr.2 (by omega) (by omega))
          clear hst hck hr hp hz hlt hk hp0
          go_wp2_with fail
          with_reducible refine HH.out.mono ?_
          rintro e w2 ⟨rfl, hp2⟩
          obtain ⟨F2, HI2⟩ := HNX.out _ hp2
          clear hp2 HH HNX HI
          go_wp2_with fail
          go_roundw
          case rel => exact ⟨k + 1, F2, by have := HK.out; omega, by go_num, HI2⟩
          case measure => have := HK.out; simp [intOf]; omega
        · rw [hz] at hcl hst
          have HH : Hid (Calls Try.prog 13 #[.pointer (some ⟨g, 0, none⟩), .int .i64 p, .int .i64 1] wr fun e w' => e = .returned (.int .i64 (adI p 1 : Int)) ∧ CoPost C wr g (Cd.new.puts ((zipB L P).take (k + 1))) F w') := Lib.hid (by
            rw [hst]
            unfold Cd.put
            rw [if_neg hp0]
            exact D.bit HI.out.1 hck p 1 hr.1 hr.2 (by omega) (by omega))
          clear hst hck hr hp hz hlt hk hp0
          go_wp2_with fail
          with_reducible refine HH.out.mono ?_
          rintro e w2 ⟨rfl, hp2⟩
          obtain ⟨F2, HI2⟩ := HNX.out _ hp2
          clear hp2 HH HNX HI
          go_wp2_with fail
          go_roundw
          case rel => exact ⟨k + 1, F2, by have := HK.out; omega, by go_num, HI2⟩
          case measure => have := HK.out; simp [intOf]; omega
    · have d1 : decide ((k : Int) < (n : Int)) = false := decide_eq_false (by omega)
      have d1' : decide (k < n) = false := decide_eq_false hlt
      have hkn : k = n := by omega
      rw [hkn, show (zipB L P).take n = zipB L P by rw [List.take_of_length_le (by rw [zipB_len, HN.out]; exact Nat.le_refl _)]] at HI
      have HDN := Lib.hid (D.done HI.out.1 (by
        have := zipB_k L P n h1000
        rw [List.take_of_length_le (by rw [zipB_len, HN.out]; exact Nat.le_refl _)] at this
        omega))
      obtain ⟨lo, hlo⟩ : ∃ l, (Cd.new.puts (zipB L P)).out = l := ⟨_, rfl⟩
      rw [hlo] at HDN
      have HLO := Lib.hid hlo
      clear hlo hkn hlt
      go_wp2_with fail
      with_reducible refine HDN.out.mono ?_
      rintro e w2 ⟨x2, rfl, ho2, hb2⟩
      have HE : Hid (Ob 5 w2 w.heap.size x2 lo ∧ Below w.heap.size w w2) := Lib.hid ⟨ho2.low HI.out.2.2.size, below_then HI.out.2.2 hb2⟩
      clear ho2 hb2 HDN HI
      go_wp2_with fail
      go_ret
      exact ⟨x2, rfl, by rw [HLO.out]; exact HE.out.1, HE.out.2⟩
/-- bits without a chance -/
theorem half_row (L : List Bool) (n : Nat) (hn : L.length = n) : ∀ k, k ≤ n → (Cd.new.puts ((zipB L (List.replicate n 0)).take k)).w = lenW (k / 8) (k % 8) ∧ (Cd.new.puts ((zipB L (List.replicate n 0)).take k)).k = k / 8
  | 0, _ => by rw [List.take_zero]; exact len_start
  | k + 1, hk => by
    obtain ⟨h1, h2⟩ := half_row L n hn k (by omega)
    rw [zipB_succ L _ k (by omega)]
    have e : (List.replicate n (0 : Int)).getD k 0 = 0 := by rw [List.getD_eq_getElem?_getD, List.getElem?_replicate]; split <;> rfl
    rw [e]
    unfold Cd.put
    rw [if_pos rfl]
    exact len_step _ k h1 h2

set_option maxHeartbeats 1600000 in
theorem law16Length {C : CoP} {T : TrP} (D : Cd16 C T) (w : World) (A : Option Addr) (L : List Bool) (n c : Nat) (hn : L.length = n) (hL : BoolRow w A L) : Calls Try.prog 5 #[.slice A n c] w fun e w' => e = .returned (.bool true) ∧ Below w.heap.size w w' := by
  have HAL := Lib.hid (fun W : World => alive16_any D W)
  have HL := Lib.hid hL
  have HN := Lib.hid hn
  clear hL hn
  go_enter Try.func5, Try.ntmps5
  go_wp2_with fail
  with_reducible refine (HAL.out _).mono ?_
  rintro e v1 ⟨rfl, hb1⟩
  have HB1 := Lib.hid hb1
  clear hb1
  by_cases h4 : 400 < n
  · have d1 : decide ((400 : Int) < (n : Int)) = true := decide_eq_true (by omega)
    go_wp2_with fail
    go_ret
    exact ⟨rfl, HB1.out⟩
  · have d1 : decide ((400 : Int) < (n : Int)) = false := decide_eq_false (by omega)
    have hmk : ∀ u : World, (Instr.makeSlice 46 (.int .i64 (n : Int)) (.int .i64 (n : Int))).run Try.prog u = .ok (.slice (some ⟨u.heap.size, 0, none⟩) n n) (u.alloc (.cells (tabI (List.replicate n 0)) 3)) := fun u => by
      rw [← madeI]; exact make_intsM n (by omega) u
    obtain ⟨R1, hR1⟩ : ∃ R, tabI (List.replicate n 0) = R := ⟨_, rfl⟩
    rw [hR1] at hmk
    have HIR : Hid (IntRow (v1.alloc (.cells R1 3)) (some ⟨v1.heap.size, 0, none⟩) (List.replicate n 0)) := Lib.hid (fun _ => ⟨_, _, rfl, fun j hj => by
      have hj2 : j < n := by simpa using hj
      have e : (List.replicate n (0 : Int)).getD j 0 = 0 := by rw [List.getD_eq_getElem?_getD, List.getElem?_replicate]; split <;> rfl
      rw [e, Nat.zero_add, cell_of_row _ _ _ _ _ _ (heap_alloc_new _ _), ← hR1, tabI_get _ _ hj]
      refine ⟨?_, by omega, by omega⟩
      unfold gI
      rw [e]⟩)
    have HBI := Lib.hid (bits16_any D A (some ⟨v1.heap.size, 0, none⟩) L (List.replicate n 0) n n c n HN.out (by simp) (Nat.le_refl _) (by omega) (v1.alloc (.cells R1 3)) (HL.out.below (below_then HB1.out ((Below.refl _ _).alloc (Nat.le_refl _) _))) HIR.out)
    have hlen : (Cd.new.puts (zipB L (List.replicate n 0))).out.length = 4 + n / 8 := by
      have h := (half_row L n HN.out n (Nat.le_refl _)).2
      rw [List.take_of_length_le (by rw [zipB_len, HN.out]; exact Nat.le_refl _)] at h
      rw [Cd.out_len, h]
    obtain ⟨lo, hlo⟩ : ∃ l, (Cd.new.puts (zipB L (List.replicate n 0))).out = l := ⟨_, rfl⟩
    rw [hlo] at HBI hlen
    have HB2 : Hid (Below w.heap.size w (v1.alloc (.cells R1 3))) := Lib.hid (below_then HB1.out ((Below.refl _ _).alloc (Nat.le_refl _) _))
    obtain ⟨q, hq⟩ : ∃ q, n / 8 = q := ⟨_, rfl⟩
    rw [hq] at hlen
    obtain ⟨s, hs⟩ : ∃ s, 4 + q = s := ⟨_, rfl⟩
    rw [hs] at hlen
    have HLN := Lib.hid hlen
    have t1 : (n : Int).tdiv 8 = (q : Int) := by rw [Int.tdiv_eq_ediv_of_nonneg (by omega)]; omega
    have t1' : (n : Int) / 8 = (q : Int) := by omega
    have t2 : IntKind.i64.wrap ((4 : Int) + (q : Int)) = (s : Int) := by rw [IntKind.wrap_i64]; omega
    have t0 : IntKind.i64.wrap (q : Int) = (q : Int) := by rw [IntKind.wrap_i64]; omega
    have t3 : (4 : Int) + (q : Int) = (s : Int) := by omega
    have t4 : wrap64 (s : Int) = (s : Int) := by unfold wrap64; omega
    clear hlo hlen hq hs h4 hR1 HIR
    go_wp2_with fail
    with_reducible refine HBI.out.mono ?_
    rintro e v2 ⟨x2, rfl, ho2, hb2⟩
    obtain ⟨A2, c2, rfl, -⟩ := ho2.form16 HLN.out
    have HE := Lib.hid (below_then HB2.out hb2)
    clear ho2 hb2 HBI
    go_wp2_with fail
    go_ret
    exact ⟨rfl, HE.out⟩

set_option maxHeartbeats 3200000 in
theorem law16None {C : CoP} {T : TrP} (D : Cd16 C T) (p bit v : Int) (p1 : -9223372036854775808 ≤ p) (p2 : p ≤ 9223372036854775807) (b1 : -9223372036854775808 ≤ bit) (b2 : bit ≤ 9223372036854775807) (v1' : -9223372036854775808 ≤ v) (v2' : v ≤ 9223372036854775807) (w : World) :
    Calls Try.prog 7 #[.int .i64 p, .int .i64 bit, .int .i64 v] w fun e w' => e = .returned (.bool true) ∧ Below w.heap.size w w' := by
  have HAL := Lib.hid (fun W : World => alive16_any D W)
  have HHN := Lib.hid (fun W : World => D.halfNo bit W b1 b2)
  have HBN := Lib.hid (fun W : World => D.bitNo p bit W p1 p2 b1 b2)
  have HV : Hid (-9223372036854775808 ≤ v ∧ v ≤ 9223372036854775807) := Lib.hid ⟨v1', v2'⟩
  clear p1 p2 b1 b2 v1' v2'
  go_enter Try.func7, Try.ntmps7
  go_wp2_with fail
  with_reducible refine (HAL.out _).mono ?_
  rintro e v1 ⟨rfl, hb1⟩
  have HB1 := Lib.hid hb1
  clear hb1
  go_wp2_with fail
  with_reducible refine (HHN.out _).mono ?_
  rintro e v2 ⟨rfl, hb2⟩
  have HB2 := Lib.hid (below_then HB1.out hb2)
  clear hb2 HB1
  go_wp2_with fail
  with_reducible refine (D.tnew 3 (by omega) (by omega) _).mono ?_
  rintro e v3 ⟨tg, G, rfl, ht3, -, hb3⟩
  have HT3 := Lib.hid ht3
  have HB3 := Lib.hid (below_then HB2.out hb3)
  clear ht3 hb3 HB2
  go_wp2_with fail
  with_reducible refine (D.treeNo HT3.out v HV.out.1 HV.out.2).mono ?_
  rintro e v4 ⟨rfl, hb4⟩
  have HB4 := Lib.hid (below_then HB3.out hb4)
  clear hb4 HB3 HT3
  go_wp2_with fail
  with_reducible refine (D.new _).mono ?_
  rintro e v5 ⟨g, F, rfl, hc5, hF5, hb5⟩
  have HC5 := Lib.hid hc5
  have HB5 := Lib.hid (below_then HB4.out hb5)
  have HF5 : Hid (∀ j, F j → w.heap.size ≤ j) := Lib.hid fun j h => Nat.le_trans HB4.out.size (hF5 j h)
  clear hc5 hF5 hb5 HB4
  go_wp2_with fail
  with_reducible refine (D.tnew 3 (by omega) (by omega) _).mono ?_
  rintro e v6 ⟨ug, H, rfl, ht6, hH6, hb6⟩
  have HT6 := Lib.hid ht6
  have HC6 := Lib.hid (D.base.below HC5.out hb6)
  have HB6 := Lib.hid (below_then HB5.out hb6)
  have HD6 : Hid (∀ j, F j → ¬ H j) := Lib.hid fun j a b => by have := D.base.lt HC5.out j a; have := hH6 j b; omega
  have HH6 : Hid (∀ j, H j → w.heap.size ≤ j) := Lib.hid fun j h => Nat.le_trans HB5.out.size (hH6 j h)
  clear ht6 hH6 hb6 HC5 HB5
  go_wp2_with fail
  with_reducible refine (HBN.out _).mono ?_
  rintro e v7 ⟨rfl, hb7⟩
  have HT7 := Lib.hid (D.tb.below HT6.out hb7)
  have HC7 := Lib.hid (D.base.below HC6.out hb7)
  have HB7 := Lib.hid (below_then HB6.out hb7)
  clear hb7 HT6 HC6 HB6
  go_wp2_with fail
  with_reducible refine (D.doneNo _).mono ?_
  rintro e v8 ⟨x8, rfl, ho8, hb8⟩
  obtain ⟨A8, c8, rfl, -⟩ := ho8.form16 (n := 0) rfl
  have HT8 := Lib.hid (D.tb.below HT7.out hb8)
  have HC8 := Lib.hid (D.base.below HC7.out hb8)
  have HB8 := Lib.hid (below_then HB7.out hb8)
  clear ho8 hb8 HT7 HC7 HB7
  go_wp2_with fail
  with_reducible refine (D.treeNil HC8.out v HV.out.1 HV.out.2).mono ?_
  rintro e v9 ⟨rfl, hb9⟩
  have HT9 := Lib.hid (D.tb.below HT8.out hb9)
  have HC9 := Lib.hid (D.base.below HC8.out hb9)
  have HB9 := Lib.hid (below_then HB8.out hb9)
  clear hb9 HT8 HC8 HB8
  have HEND : ∀ {W : World} {F H : Nat → Prop}, C W g Cd.new F → T W ug (Tm.new 3) H → ∃ X, Calls Try.prog 19 #[.pointer (some ⟨g, 0, none⟩)] W X := fun {W F H} _ _ => ⟨_, (D.done ‹_› (by decide))⟩
  clear HEND
  by_cases hv : v < 0 ∨ 7 < v
  · have htr : ∀ c : Cd, c.tree (Tm.new 3) v = (c, Tm.new 3) := fun c => by
      unfold Cd.tree
      rw [if_neg (by show ¬ (0 ≤ v ∧ v < ((2 ^ capT 3 : Nat) : Int)); rw [show (2 ^ capT 3 : Nat) = 8 by decide]; omega)]
    have HTR := Lib.hid (D.tree HC9.out HT9.out HD6.out (by decide) v HV.out.1 HV.out.2)
    rw [htr] at HTR
    rcases Int.lt_or_le v 0 with h0 | h0
    · have d0 : decide (v < 0) = true := decide_eq_true h0
      go_wp2_with fail
      with_reducible refine HTR.out.mono ?_
      rintro e w2 ⟨rfl, F2, H2, q1, q2, q3, q4, q5, q6⟩
      have HC2 := Lib.hid q1
      have HT2 := Lib.hid q2
      have HB2 : Hid (Below w.heap.size w w2) := Lib.hid (Only.low HB9.out q6 (fun j a => by rcases a with a | a; exact HF5.out j a; exact HH6.out j a))
      clear q1 q2 q3 q4 q5 q6 HTR HC9 HT9
      go_wp2_with fail
      have HDN := Lib.hid (D.done HC2.out (by decide))
      rw [new_out] at HDN
      with_reducible refine HDN.out.mono ?_
      rintro e w3 ⟨x3, rfl, ho3, hb3⟩
      obtain ⟨A3, c3, rfl, hbs3⟩ := ho3.form16 (n := 4) rfl
      have cv3 : (convert 38 9 (.slice A3 4 c3)).run Try.prog w3 = .ok (.string { data := #[0, 0, 0, 0] }) w3 := conv16 hbs3 rfl
      have HT3 := Lib.hid (D.tb.below HT2.out hb3)
      have HB3 := Lib.hid (below_then HB2.out hb3)
      clear ho3 hb3 hbs3 HDN HC2 HT2 HB2
      go_wp2_with fail
      have HAT : Hid (Calls Try.prog 20 #[.pointer (some ⟨ug, 0, none⟩), .int .i64 1] w3 (RetV w3 (.int .i64 1024))) := Lib.hid (D.tat HT3.out 1 (by omega) (by omega))
      with_reducible refine HAT.out.mono ?_
      rintro e w4 ⟨rfl, hb4⟩
      have HB4 := Lib.hid (below_then HB3.out hb4)
      clear hb4 HAT HT3 HB3 cv3
      go_wp2_with fail
      go_ret
      exact ⟨rfl, HB4.out⟩
    · have d0 : decide (v < 0) = false := decide_eq_false (by omega)
      have d1 : decide (7 < v) = true := decide_eq_true (by omega)
      go_wp2_with fail
      with_reducible refine HTR.out.mono ?_
      rintro e w2 ⟨rfl, F2, H2, q1, q2, q3, q4, q5, q6⟩
      have HC2 := Lib.hid q1
      have HT2 := Lib.hid q2
      have HB2 : Hid (Below w.heap.size w w2) := Lib.hid (Only.low HB9.out q6 (fun j a => by rcases a with a | a; exact HF5.out j a; exact HH6.out j a))
      clear q1 q2 q3 q4 q5 q6 HTR HC9 HT9
      go_wp2_with fail
      have HDN := Lib.hid (D.done HC2.out (by decide))
      rw [new_out] at HDN
      with_reducible refine HDN.out.mono ?_
      rintro e w3 ⟨x3, rfl, ho3, hb3⟩
      obtain ⟨A3, c3, rfl, hbs3⟩ := ho3.form16 (n := 4) rfl
      have cv3 : (convert 38 9 (.slice A3 4 c3)).run Try.prog w3 = .ok (.string { data := #[0, 0, 0, 0] }) w3 := conv16 hbs3 rfl
      have HT3 := Lib.hid (D.tb.below HT2.out hb3)
      have HB3 := Lib.hid (below_then HB2.out hb3)
      clear ho3 hb3 hbs3 HDN HC2 HT2 HB2
      go_wp2_with fail
      have HAT : Hid (Calls Try.prog 20 #[.pointer (some ⟨ug, 0, none⟩), .int .i64 1] w3 (RetV w3 (.int .i64 1024))) := Lib.hid (D.tat HT3.out 1 (by omega) (by omega))
      with_reducible refine HAT.out.mono ?_
      rintro e w4 ⟨rfl, hb4⟩
      have HB4 := Lib.hid (below_then HB3.out hb4)
      clear hb4 HAT HT3 HB3 cv3
      go_wp2_with fail
      go_ret
      exact ⟨rfl, HB4.out⟩
  · have d0 : decide (v < 0) = false := decide_eq_false (by omega)
    have d1 : decide (7 < v) = false := decide_eq_false (by omega)
    go_wp2_with fail
    have HDN := Lib.hid (D.done HC9.out (by decide))
    rw [new_out] at HDN
    with_reducible refine HDN.out.mono ?_
    rintro e w3 ⟨x3, rfl, ho3, hb3⟩
    obtain ⟨A3, c3, rfl, hbs3⟩ := ho3.form16 (n := 4) rfl
    have cv3 : (convert 38 9 (.slice A3 4 c3)).run Try.prog w3 = .ok (.string { data := #[0, 0, 0, 0] }) w3 := conv16 hbs3 rfl
    have HT3 := Lib.hid (D.tb.below HT9.out hb3)
    have HB3 := Lib.hid (below_then HB9.out hb3)
    clear ho3 hb3 hbs3 HDN HC9 HT9
    go_wp2_with fail
    have HAT : Hid (Calls Try.prog 20 #[.pointer (some ⟨ug, 0, none⟩), .int .i64 1] w3 (RetV w3 (.int .i64 1024))) := Lib.hid (D.tat HT3.out 1 (by omega) (by omega))
    with_reducible refine HAT.out.mono ?_
    rintro e w4 ⟨rfl, hb4⟩
    have HB4 := Lib.hid (below_then HB3.out hb4)
    clear hb4 HAT HT3 HB3 cv3
    go_wp2_with fail
    go_ret
    exact ⟨rfl, HB4.out⟩
end Go.Proofs.Ytlbkpmcccipfhaa

