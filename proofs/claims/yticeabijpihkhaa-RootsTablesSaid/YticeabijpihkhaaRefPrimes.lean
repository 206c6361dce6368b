/- The contract of the reference's Primes. -/
import Derived.Test.YticeabijpihkhaaPrimes
namespace Go.Proofs.Yticeabijpihkhaa
open Go.RowKit
set_option linter.unusedVariables false
set_option maxRecDepth 100000

/-- no number below e, from 2 on, divides y -/
def isPto (y e : Nat) : Bool := (List.range e).all (fun d => Nat.ble d 1 || !(Nat.beq (y % d) 0))
theorem isPto_two (y : Nat) : isPto y 2 = true := rfl
theorem isPto_succ (y e : Nat) (h : 2 ≤ e) : isPto y (e + 1) = (isPto y e && !(Nat.beq (y % e) 0)) := by
  have h1 : Nat.ble e 1 = false := by
    cases hb : Nat.ble e 1
    · rfl
    · rw [Nat.ble_eq] at hb; omega
  unfold isPto
  rw [List.range_succ, List.all_append]
  simp [h1]

def NInt (N : Int) (w : World) (s : Value) (w' : World) : Prop := s = .int .i64 N ∧ w' = w

set_option maxHeartbeats 3200000 in
theorem rprimes_any (n : Int) (h1 : -9223372036854775808 ≤ n) (h2 : n ≤ 9223372036854775807) (w : World) :
    Calls Try.prog 14 #[.int .i64 n] w fun e w' => ∃ v, e = .returned v ∧ Uo 22 w' w.heap.size v (P100.take (clampN n)) ∧ Below w.heap.size w w' := by
  obtain ⟨K, hK⟩ : ∃ K, clampN n = K := ⟨_, rfl⟩
  have hK2 : K ≤ 100 := by rw [← hK]; unfold clampN; omega
  rw [hK]
  obtain ⟨N, hN⟩ : ∃ N, min n 100 = N := ⟨_, rfl⟩
  have hKN : K = N.toNat := by rw [← hK, ← hN]; unfold clampN; omega
  have hN1 : -9223372036854775808 ≤ N ∧ N ≤ 100 := by omega
  have HN := Lib.hid hN
  have HKN := Lib.hid hKN
  clear hK hN hKN
  go_enter Try.func14, Try.ntmps14
  go_upto_if 8 with fail
  go_cut [0] (NInt N w)
  case first =>
    go_wp2_with fail
    all_goals go_meet
    all_goals
      refine ⟨?_, rfl⟩
      have h0 := HN.out
      congr 1
      omega
  case rest =>
    obtain ⟨rfl, rfl⟩ := hcut
    go_wp2_with fail
    go_loopw [3, 4] (fun sl x wr => ∃ (y : Nat) (A : Option Addr) (c : Nat) (l : List Nat), Hid (2 ≤ y) ∧ y ≤ 542 ∧ x = .int .u64 (y : Int) ∧ Hid (l = pl y) ∧ l.length ≤ K ∧ sl = .slice A l.length c ∧ Hid (Uo 22 wr wc.heap.size (.slice A l.length c) l) ∧ Hid (Below wc.heap.size wc wr)) (fun _ x _ => 543 - (intOf x).toNat)
    case atStart => exact ⟨2, _, _, [], Lib.hid (by omega), by omega, rfl, Lib.hid (by rw [pl_two]), by simp, rfl, Lib.hid (Uo.nil_ _ _ _), Lib.hid (Below.refl _ _)⟩
    case round =>
      obtain ⟨y, A, c, l, hy2, hy, rfl, hl, hlK, rfl, Hown, Hbel⟩ := hrel
      by_cases hlt : l.length < K
      · have hltN : (l.length : Int) < N := by have := HKN.out; omega
        have hy1 : y < 542 := by
          rcases Nat.lt_or_ge y 542 with g | g
          · exact g
          · have e : y = 542 := by omega
            have := hl.out
            rw [e, pl_all] at this
            rw [this, P100_len] at hlt
            omega
        go_wp2_with fail
        go_loop [5, 6] (fun b d => ∃ e : Nat, Hid (2 ≤ e) ∧ e ≤ y ∧ d = .int .u64 (e : Int) ∧ b = .bool (isPto y e)) (fun _ d => y - (intOf d).toNat)
        case atStart => exact ⟨2, Lib.hid (by omega), hy2.out, rfl, by rw [isPto_two]⟩
        case round =>
          obtain ⟨e, he2, hey, rfl, rfl⟩ := hrel
          by_cases hel : e < y
          · have he0 : 0 < e := by have := he2.out; omega
            have hs := Lib.hid (isPto_succ y e he2.out)
            have he2' : Hid (2 ≤ e + 1) := Lib.hid (by omega)
            by_cases hm : y % e = 0
            · have hd' : (y : Int) % (e : Int) = 0 := by omega
              have hn : Hid (isPto y (e + 1) = false) := Lib.hid (by rw [hs.out, hm]; simp)
              rcases hb : isPto y e with _ | _
              · clear hm hs
                go_wp2_with fail
                go_round
                case rel => exact ⟨e + 1, he2', by omega, by go_num, by rw [hn.out]⟩
                case measure => simp [intOf]; omega
              · clear hm hs
                go_wp2_with fail
                go_round
                case rel => exact ⟨e + 1, he2', by omega, by go_num, by rw [hn.out]⟩
                case measure => simp [intOf]; omega
            · have hd' : ((y : Int) % (e : Int) != 0) = true := by simp; omega
              have hn : Hid (isPto y (e + 1) = isPto y e) := Lib.hid (by
                rw [hs.out]
                have : Nat.beq (y % e) 0 = false := by
                  cases hb : Nat.beq (y % e) 0
                  · rfl
                  · exact absurd (Nat.eq_of_beq_eq_true hb) hm
                rw [this]; simp)
              rcases hb : isPto y e with _ | _
              · clear hm hs
                rw [hb] at hn
                go_wp2_with fail
                go_round
                case rel => exact ⟨e + 1, he2', by omega, by go_num, by rw [hn.out]⟩
                case measure => simp [intOf]; omega
              · clear hm hs
                rw [hb] at hn
                go_wp2_with fail
                go_round
                case rel => exact ⟨e + 1, he2', by omega, by go_num, by rw [hn.out]⟩
                case measure => simp [intOf]; omega
          · obtain rfl : e = y := by omega
            have hz : wc.heap.size ≤ wr.heap.size := Hbel.out.size
            have HY2 : Hid (2 ≤ e + 1) := Lib.hid (by have := he2.out; omega)
            rcases hb : isPto e e with _ | _
            · have hl2 : Hid (l = pl (e + 1)) := Lib.hid (by rw [pl_succ e hy2.out, show isP e = false from hb]; exact hl.out)
              clear hl hy2 he2
              go_wp2_with fail
              go_roundw
              case rel => exact ⟨e + 1, A, c, l, HY2, by omega, by go_num, hl2, hlK, rfl, Hown, Hbel⟩
              case measure => simp [intOf]; omega
            · have hl2 : Hid (l ++ [e] = pl (e + 1)) := Lib.hid (by rw [pl_succ e hy2.out, show isP e = true from hb, hl.out]; rfl)
              have HU1 : Hid (Us (wr.alloc (.cells #[.int .u64 (e : Int)] 22)) (some ⟨wr.heap.size, 0, none⟩) [e]) := Lib.hid (us_lit1 wr _ e)
              have HO1 : Hid (Uo 22 (wr.alloc (.cells #[.int .u64 (e : Int)] 22)) wc.heap.size (.slice A l.length c) l) := Lib.hid (Hown.out.below ((Below.refl _ _).alloc (Nat.le_refl _) _))
              clear hl hy2 he2
              go_wp2_with (at_builtin; refine wpList_append_us rfl (.tmp 28) (.tmp 30) 26 rfl wc.heap.size 22 Try.underlying26 info64 (.slice A l.length c) l rfl HO1.out (some ⟨wr.heap.size, 0, none⟩) [e] 1 1 rfl rfl HU1.out (by simp; omega) (by simp; omega) ?_)
              intro v5 w5 ho5 hgr5
              obtain ⟨A5, c5, rfl, -, -⟩ := ho5.form
              have B5 : Hid (Below wc.heap.size wc w5) := Lib.hid ((Hbel.out.alloc hz _).grown hgr5 (by simp; omega) Hown.out.fresh)
              have hl5 : (l ++ [e]).length = l.length + 1 := by simp
              have HO5 := Lib.hid ho5
              clear ho5 hgr5 HU1 HO1 Hown Hbel
              go_wp2_with fail
              go_roundw
              case rel => exact ⟨e + 1, A5, c5, l ++ [e], HY2, by omega, by go_num, hl2, by omega, by first | rfl | rw [hl5], HO5, B5⟩
              case measure => simp [intOf]; omega
      · obtain rfl : K = l.length := by omega
        have hltN : ¬ (l.length : Int) < N := by have := HKN.out; omega
        have HF : Hid (l = P100.take l.length) := Lib.hid (by have := pl_take hy; rw [← hl.out] at this; exact this)
        clear hl hy2
        go_wp2
        go_ret
        exact ⟨_, rfl, by rw [← HF.out]; exact Hown.out, Hbel.out⟩
end Go.Proofs.Yticeabijpihkhaa

