/- ModelLearns, ModelHolds walked, over whatever the program's tree is. -/
import Derived.Test.YtigkomioegkdeaaLaw15Spec
import Derived.Test.YtigkomioegkdeaaRowsArg
namespace Go.Proofs.Ytigkomioegkdeaa
open Go.RowKit
set_option linter.unusedVariables false
set_option maxRecDepth 100000

set_option maxHeartbeats 1600000 in
theorem law15Learns {T : TrP} (D : MdC T) (p : Int) (hp1 : -9223372036854775808 ≤ p) (hp2 : p ≤ 9223372036854775807) (bit : Bool) (w : World) : Calls Try.prog 5 #[.int .i64 p, .bool bit] w fun e w' => e = .returned (.bool true) ∧ Below w.heap.size w w' := by
  have HAL := Lib.hid (fun W : World => alive15_any D W)
  have lo := holdI_lo p
  have hi := holdI_hi p
  have HLE := Lib.hid (adK_learn lo hi)
  -- the chance behind k bits
  obtain ⟨qK, hqK⟩ : ∃ f : Nat → Int, (fun k => if k = 0 then p else (adK (!bit) k (holdI p) : Int)) = f := ⟨_, rfl⟩
  have HQ0 : Hid (qK 0 = p) := Lib.hid (by rw [← hqK]; rfl)
  obtain ⟨bI, hbI⟩ : ∃ b : Int, (if bit then 1 else 0 : Int) = b := ⟨_, rfl⟩
  have hbr : -9223372036854775808 ≤ bI ∧ bI ≤ 9223372036854775807 ∧ decide (bI = 0) = !bit := by rw [← hbI]; cases bit <;> simp
  have HST : Hid (∀ k, adI (qK k) bI = adK (!bit) (k + 1) (holdI p)) := Lib.hid fun k => by
    unfold adI
    rw [hbr.2.2, adK, ← hqK]
    by_cases h : k = 0
    · subst h; rfl
    · simp only [if_neg h]
      rw [holdI_id (adK_lo _ lo hi k).1 (adK_lo _ lo hi k).2]
  have HQS : Hid (∀ k, qK (k + 1) = (adK (!bit) (k + 1) (holdI p) : Int)) := Lib.hid fun k => by rw [← hqK]; simp
  have HQR : Hid (∀ k, -9223372036854775808 ≤ qK k ∧ qK k ≤ 9223372036854775807) := Lib.hid fun k => by
    rw [← hqK]
    by_cases h : k = 0
    · subst h; exact ⟨hp1, hp2⟩
    · simp only [if_neg h]
      have := (adK_lo (!bit) lo hi k).2
      exact ⟨by omega, by omega⟩
  have HAD : Hid (∀ (k : Nat) (W : World), Calls Try.prog 14 #[.int .i64 (qK k), .int .i64 bI] W (RetV W (.int .i64 (qK (k + 1))))) := Lib.hid fun k W => by
    have h := D.adapt (qK k) bI (HQR.out k).1 (HQR.out k).2 hbr.1 hbr.2.1 W
    rw [HST.out k, ← HQS.out k] at h
    exact h
  have HE : Hid (qK 300 = if bit then 31 else 2017) := Lib.hid (by
    have h := HQS.out 299
    rw [h]
    cases bit
    · rw [show adK (!false) (299 + 1) (holdI p) = 2017 from HLE.out.1]; rfl
    · rw [show adK (!true) (299 + 1) (holdI p) = 31 from HLE.out.2]; rfl)
  have HE2 : Hid (qK 301 = if bit then 31 else 2017) := Lib.hid (by
    have h := HQS.out 300
    have h2 := HE.out
    rw [HQS.out 299] at h2
    have e : adK (!bit) (300 + 1) (holdI p) = adN (adK (!bit) (299 + 1) (holdI p)) (!bit) := rfl
    rw [h, e]
    cases bit
    · rw [show adK (!false) (299 + 1) (holdI p) = 2017 from HLE.out.1]; decide
    · rw [show adK (!true) (299 + 1) (holdI p) = 31 from HLE.out.2]; decide)
  have HPP : Hid (∀ W : World, Calls Try.prog 6 #[] W fun e w' => e = .returned (.bool true) ∧ Below W.heap.size W w') := HAL
  rw [← HQ0.out]
  clear HQ0 hqK HST HQS HQR lo hi hp1 hp2 hbr HLE HAL
  cases bit
  · simp only [Bool.false_eq_true, if_false] at hbI HE HE2
    subst hbI
    go_enter Try.func5, Try.ntmps5
    go_wp2_with fail
    with_reducible refine (HPP.out _).mono ?_
    rintro e v1 ⟨rfl, hb1⟩
    have HB1 := Lib.hid hb1
    clear hb1
    go_wp2_with fail
    go_loopw [0, 8] (fun p_ i_ wr => ∃ k : Nat, k ≤ 300 ∧ p_ = .int .i64 (qK k) ∧ i_ = .int .i64 (k : Int) ∧ Hid (Below w.heap.size w wr)) (fun _ i_ _ => 300 - (intOf i_).toNat)
    case atStart => exact ⟨0, by omega, rfl, rfl, HB1⟩
    case round =>
      clear HB1
      obtain ⟨k, hk, rfl, rfl, HB⟩ := hrel
      by_cases hlt : k < 300
      · have d1 : decide ((k : Int) < 300) = true := decide_eq_true (by omega)
        go_wp2_with fail
        with_reducible refine (HAD.out k _).mono ?_
        rintro e v2 ⟨rfl, hb2⟩
        have HB2 := Lib.hid (below_then HB.out hb2)
        clear hb2 HB
        go_wp2_with fail
        go_roundw
        case rel => exact ⟨k + 1, by omega, rfl, by go_num, HB2⟩
        case measure => simp [intOf]; omega
      · obtain rfl : k = 300 := by omega
        have H3 := Lib.hid (fun W : World => HAD.out 300 W)
        rw [HE.out, show 300 + 1 = 301 from rfl, HE2.out] at H3
        rw [HE.out]
        go_wp2_with fail
        with_reducible refine (H3.out _).mono ?_
        rintro e v2 ⟨rfl, hb2⟩
        have HB2 := Lib.hid (below_then HB.out hb2)
        clear hb2 HB
        go_wp2_with fail
        go_ret
        exact ⟨rfl, HB2.out⟩
  · simp only [if_true] at hbI HE HE2
    subst hbI
    go_enter Try.func5, Try.ntmps5
    go_wp2_with fail
    with_reducible refine (HPP.out _).mono ?_
    rintro e v1 ⟨rfl, hb1⟩
    have HB1 := Lib.hid hb1
    clear hb1
    go_wp2_with fail
    go_loopw [0, 8] (fun p_ i_ wr => ∃ k : Nat, k ≤ 300 ∧ p_ = .int .i64 (qK k) ∧ i_ = .int .i64 (k : Int) ∧ Hid (Below w.heap.size w wr)) (fun _ i_ _ => 300 - (intOf i_).toNat)
    case atStart => exact ⟨0, by omega, rfl, rfl, HB1⟩
    case round =>
      clear HB1
      obtain ⟨k, hk, rfl, rfl, HB⟩ := hrel
      by_cases hlt : k < 300
      · have d1 : decide ((k : Int) < 300) = true := decide_eq_true (by omega)
        go_wp2_with fail
        with_reducible refine (HAD.out k _).mono ?_
        rintro e v2 ⟨rfl, hb2⟩
        have HB2 := Lib.hid (below_then HB.out hb2)
        clear hb2 HB
        go_wp2_with fail
        go_roundw
        case rel => exact ⟨k + 1, by omega, rfl, by go_num, HB2⟩
        case measure => simp [intOf]; omega
      · obtain rfl : k = 300 := by omega
        have H3 := Lib.hid (fun W : World => HAD.out 300 W)
        rw [HE.out, show 300 + 1 = 301 from rfl, HE2.out] at H3
        rw [HE.out]
        go_wp2_with fail
        with_reducible refine (H3.out _).mono ?_
        rintro e v2 ⟨rfl, hb2⟩
        have HB2 := Lib.hid (below_then HB.out hb2)
        clear hb2 HB
        go_wp2_with fail
        go_ret
        exact ⟨rfl, HB2.out⟩

set_option maxHeartbeats 3200000 in
theorem law15Holds {T : TrP} (D : MdC T) (w : World) (p : Int) (hp1 : -9223372036854775808 ≤ p) (hp2 : p ≤ 9223372036854775807) (A : Option Addr) (L : List Bool) (n c : Nat) (hn : L.length = n) (hL : BoolRow w A L) : Calls Try.prog 4 #[.int .i64 p, .slice A n c] w fun e w' => e = .returned (.bool true) ∧ Below w.heap.size w w' := by
  have HAL := Lib.hid (fun W : World => alive15_any D W)
  have lo := holdI_lo p
  have hi := holdI_hi p
  have HH := Lib.hid (fun W : World => D.hold p hp1 hp2 W)
  have HAD : Hid (∀ (q : Nat) (z : Bool) (W : World), 31 ≤ q → q ≤ 2017 → Calls Try.prog 14 #[.int .i64 (q : Int), .int .i64 (if z then 0 else 1)] W (RetV W (.int .i64 (adN q z : Int)))) := Lib.hid fun q z W h1 h2 => by
    have h := D.adapt (q : Int) (if z then 0 else 1) (by omega) (by omega) (by split <;> omega) (by split <;> omega) W
    unfold adI at h
    rw [holdI_id h1 h2] at h
    cases z
    · exact h
    · exact h
  have HHO : Hid (∀ (q : Nat) (W : World), 31 ≤ q → q ≤ 2017 → Calls Try.prog 13 #[.int .i64 (q : Int)] W (RetV W (.int .i64 (q : Int)))) := Lib.hid fun q W h1 h2 => by
    have h := D.hold (q : Int) (by omega) (by omega) W
    rwa [holdI_id h1 h2] at h
  have HL := Lib.hid hL
  have HN := Lib.hid hn
  generalize holdI p = q0 at *
  clear hL hn hp1 hp2
  go_enter Try.func4, Try.ntmps4
  go_wp2_with fail
  with_reducible refine (HAL.out _).mono ?_
  rintro e v1 ⟨rfl, hb1⟩
  have HB1 := Lib.hid hb1
  clear hb1
  by_cases h4 : 400 < n
  · have d1 : decide ((400 : Int) < (n : Int)) = true := decide_eq_true (by omega)
    go_wp2_with fail
    go_ret
    exact ⟨rfl, HB1.out⟩
  · have d1 : decide ((400 : Int) < (n : Int)) = false := decide_eq_false (by omega)
    have HLO := Lib.hid lo
    have HHI := Lib.hid hi
    clear lo hi
    go_wp2_with fail
    with_reducible refine (HH.out _).mono ?_
    rintro e v2 ⟨rfl, hb2⟩
    have HB2 := Lib.hid (below_then HB1.out hb2)
    clear hb2 HB1
    go_wp2_with fail
    go_loopw [6, 7] (fun q_ i_ wr => ∃ q k : Nat, k ≤ n ∧ q_ = .int .i64 (q : Int) ∧ i_ = .int .i64 (k : Int) ∧ Hid (31 ≤ q) ∧ Hid (q ≤ 2017) ∧ Hid (Below w.heap.size w wr)) (fun _ i_ _ => n - (intOf i_).toNat)
    case atStart => exact ⟨q0, 0, by omega, rfl, rfl, HLO, HHI, HB2⟩
    case round =>
      clear HB2 HLO HHI
      obtain ⟨q, k, hk, rfl, rfl, HLO, HHI, HB⟩ := hrel
      by_cases hlt : k < n
      · have d2 : decide ((k : Int) < (n : Int)) = true := decide_eq_true (by omega)
        obtain ⟨bb, oo, rfl, hcs⟩ := HL.out.below HB.out (by rw [HN.out]; omega)
        have hcell := hcs k (by rw [HN.out]; exact hlt)
        have hcell' : wr.cell? ⟨bb, oo + k, none⟩ = some (.bool (L.getD k false)) := by simpa using hcell
        clear hcs hcell
        have b1 : 0 ≤ (k : Int) := by omega
        have b2 : (k : Int) < (n : Int) := by omega
        cases hz : L.getD k false
        · rw [hz] at hcell'
          have h1 := adN_lo true HLO.out HHI.out
          have h2 := adN_hi true HLO.out HHI.out
          have h3 := adN_up (q := q)
          have HC := Lib.hid fun W : World => HAD.out q true W HLO.out HHI.out
          obtain ⟨x, hx⟩ : ∃ x, adN q true = x := ⟨_, rfl⟩
          rw [hx] at h1 h2 h3 HC
          simp only [if_true] at HC
          have HC2 := Lib.hid fun W : World => HHO.out x W h1 h2
          have e1 : decide ((x : Int) < 31) = false := decide_eq_false (by omega)
          have e2 : decide ((2017 : Int) < (x : Int)) = false := decide_eq_false (by omega)
          have e3 : decide ((x : Int) < (q : Int)) = false := decide_eq_false (by omega)
          have e3' : decide (x < q) = false := decide_eq_false (by omega)
          have HX1 := Lib.hid h1
          have HX2 := Lib.hid h2
          clear h1 h2 h3 hx hz
          go_wp2_with fail
          with_reducible refine (HC.out _).mono ?_
          rintro e v3 ⟨rfl, hb3⟩
          have HB3 := Lib.hid (below_then HB.out hb3)
          clear hb3 HB
          go_wp2_with fail
          with_reducible refine (HC2.out _).mono ?_
          rintro e v4 ⟨rfl, hb4⟩
          have HB4 := Lib.hid (below_then HB3.out hb4)
          clear hb4 HB3
          go_wp2_with fail
          go_roundw
          case rel => exact ⟨x, k + 1, by omega, rfl, by go_num, HX1, HX2, HB4⟩
          case measure => simp [intOf]; omega
        · rw [hz] at hcell'
          have h1 := adN_lo false HLO.out HHI.out
          have h2 := adN_hi false HLO.out HHI.out
          have h3 := adN_down (q := q)
          have HC := Lib.hid fun W : World => HAD.out q false W HLO.out HHI.out
          obtain ⟨x, hx⟩ : ∃ x, adN q false = x := ⟨_, rfl⟩
          rw [hx] at h1 h2 h3 HC
          simp only [Bool.false_eq_true, if_false] at HC
          have HC2 := Lib.hid fun W : World => HHO.out x W h1 h2
          have e1 : decide ((x : Int) < 31) = false := decide_eq_false (by omega)
          have e2 : decide ((2017 : Int) < (x : Int)) = false := decide_eq_false (by omega)
          have e3 : decide ((q : Int) < (x : Int)) = false := decide_eq_false (by omega)
          have e3' : decide (q < x) = false := decide_eq_false (by omega)
          have HX1 := Lib.hid h1
          have HX2 := Lib.hid h2
          clear h1 h2 h3 hx hz
          go_wp2_with fail
          with_reducible refine (HC.out _).mono ?_
          rintro e v3 ⟨rfl, hb3⟩
          have HB3 := Lib.hid (below_then HB.out hb3)
          clear hb3 HB
          go_wp2_with fail
          with_reducible refine (HC2.out _).mono ?_
          rintro e v4 ⟨rfl, hb4⟩
          have HB4 := Lib.hid (below_then HB3.out hb4)
          clear hb4 HB3
          go_wp2_with fail
          go_roundw
          case rel => exact ⟨x, k + 1, by omega, rfl, by go_num, HX1, HX2, HB4⟩
          case measure => simp [intOf]; omega
      · have d2 : decide ((k : Int) < (n : Int)) = false := decide_eq_false (by omega)
        go_wp2_with fail
        go_ret
        exact ⟨rfl, HB.out⟩
end Go.Proofs.Ytigkomioegkdeaa

