/- The contracts of seal.padding, Size, valid, appendNumber and number. -/
import Derived.Test.YtddalnmoahpljaaSealSum
import Derived.Test.YtddalnmoahpljaaRefPut2
import Derived.Test.YtddalnmoahpljaaZeros
namespace Go.Proofs.Ytddalnmoahpljaa
open Go.RowKit
set_option linter.unusedVariables false
set_option maxRecDepth 100000

theorem pad_any (n : Nat) (w : World) (hn : n ≤ 4611686018427387904) :
    Calls Try.prog 29 #[.int .i64 (n : Int)] w fun e w' => e = .returned (.int .i64 (frontR.n8 n : Nat)) ∧ w' = w := by
  have e : (8 - (n : Int) % 8) % 8 = ((frontR.n8 n : Nat) : Int) := by unfold frontR.n8; omega
  generalize frontR.n8 n = s at *
  go_enter Try.func29, Try.ntmps29
  go_wp2
  go_ret
  exact ⟨by first | rfl | (congr 2; omega) | go_num, rfl⟩

theorem size_any (n : Int) (w : World) (hn1 : -9223372036854775808 ≤ n) (hn2 : n ≤ 9223372036854775807) :
    Calls Try.prog 15 #[.int .i64 n] w fun e w' => e = .returned (.int .i64 (sizeI n)) ∧ w' = w := by
  by_cases h : n < 0 ∨ 512 < n
  · have e : sizeI n = 0 := if_pos h
    rw [e]
    by_cases h1 : n < 0
    · have d1 : decide (n < 0) = true := decide_eq_true h1
      clear h e
      go_enter Try.func15, Try.ntmps15
      go_wp2
      go_ret
      exact ⟨rfl, rfl⟩
    · have h2 : 512 < n := by omega
      have d1 : decide (n < 0) = false := decide_eq_false h1
      have d2 : decide (512 < n) = true := decide_eq_true h2
      clear h e
      go_enter Try.func15, Try.ntmps15
      go_wp2
      go_ret
      exact ⟨rfl, rfl⟩
  · obtain ⟨m, rfl⟩ : ∃ m : Nat, n = (m : Int) := ⟨n.toNat, by omega⟩
    have d1 : decide ((m : Int) < 0) = false := decide_eq_false (by omega)
    have d2 : decide (512 < (m : Int)) = false := decide_eq_false (by omega)
    have e : 8 + (m : Int) + ((frontR.n8 m : Nat) : Int) + 8 = sizeI (m : Int) := by
      unfold sizeI
      rw [if_neg h]
      unfold sizeR frontR.n8
      omega
    have hm : m ≤ 512 := by omega
    have hs : frontR.n8 m ≤ 7 := by unfold frontR.n8; omega
    have HP : Hid (∀ W : World, Calls Try.prog 29 #[.int .i64 (m : Int)] W fun e w' => e = .returned (.int .i64 (frontR.n8 m : Nat)) ∧ w' = W) := Lib.hid fun W => pad_any m W (by omega)
    clear h
    generalize sizeI (m : Int) = s at *
    generalize frontR.n8 m = T at *
    go_enter Try.func15, Try.ntmps15
    go_wp2_with fail
    refine (HP.out _).mono ?_
    rintro e w' ⟨rfl, rfl⟩
    go_wp2_with fail
    go_ret
    exact ⟨by first | rfl | (congr 2; omega) | go_num, rfl⟩

set_option maxHeartbeats 1600000 in
theorem valid_any (k q : Int) (A : Option Addr) (n c : Nat) (w : World) (hk1 : -9223372036854775808 ≤ k) (hk2 : k ≤ 9223372036854775807) (hq1 : -9223372036854775808 ≤ q) (hq2 : q ≤ 9223372036854775807)
    (hl : n ≤ 9223372036854775807) :
    Calls Try.prog 27 #[.agg #[.int .i64 k, .int .i64 q, .slice A n c]] w (BoolIn w (decide (recOk k q n))) := by
  have hcell := box_cells w (.int .i64 k) (.int .i64 q) (.slice A n c) 24
  obtain ⟨w1, Hw1⟩ : ∃ w1, Hid (w.alloc (.cells #[.int .i64 k, .int .i64 q, .slice A n c] 24) = w1) := ⟨_, rfl⟩
  have Hb1 : Hid (Below w.heap.size w w1) := Lib.hid (by rw [← Hw1.out]; exact (Below.refl _ _).alloc (Nat.le_refl _) _)
  rw [Hw1.out] at hcell
  obtain ⟨c0, c1, c2⟩ := hcell w1 (Below.refl _ _)
  clear hcell
  by_cases e1 : 1 ≤ k
  · by_cases e2 : k ≤ 250
    · by_cases e3 : 0 ≤ q
      · by_cases e4 : q ≤ 4294967295
        · by_cases e5 : n ≤ 512
          · have hb : decide (recOk k q n) = true := decide_eq_true ⟨e1, e2, e3, e4, e5⟩
            rw [hb]
            have d1 : decide (1 ≤ k) = true := decide_eq_true e1
            have d2 : decide (k ≤ 250) = true := decide_eq_true e2
            have d3 : decide (0 ≤ q) = true := decide_eq_true e3
            have d4 : decide (q ≤ 4294967295) = true := decide_eq_true e4
            have d5 : decide ((n : Int) ≤ 512) = true := decide_eq_true (by omega)
            clear hb
            go_enter Try.func27, Try.ntmps27
            go_upto_region 1 with fail
            rw [Hw1.out]
            go_wp2
            go_ret
            exact ⟨rfl, Hb1.out⟩
          · have hb : decide (recOk k q n) = false := decide_eq_false (fun h => e5 h.2.2.2.2)
            rw [hb]
            have d1 : decide (1 ≤ k) = true := decide_eq_true e1
            have d2 : decide (k ≤ 250) = true := decide_eq_true e2
            have d3 : decide (0 ≤ q) = true := decide_eq_true e3
            have d4 : decide (q ≤ 4294967295) = true := decide_eq_true e4
            have d5 : decide ((n : Int) ≤ 512) = false := decide_eq_false (by omega)
            clear hb
            go_enter Try.func27, Try.ntmps27
            go_upto_region 1 with fail
            rw [Hw1.out]
            go_wp2
            go_ret
            exact ⟨rfl, Hb1.out⟩
        · have hb : decide (recOk k q n) = false := decide_eq_false (fun h => e4 h.2.2.2.1)
          rw [hb]
          have d1 : decide (1 ≤ k) = true := decide_eq_true e1
          have d2 : decide (k ≤ 250) = true := decide_eq_true e2
          have d3 : decide (0 ≤ q) = true := decide_eq_true e3
          have d4 : decide (q ≤ 4294967295) = false := decide_eq_false e4
          clear hb
          go_enter Try.func27, Try.ntmps27
          go_upto_region 1 with fail
          rw [Hw1.out]
          go_wp2
          go_ret
          exact ⟨rfl, Hb1.out⟩
      · have hb : decide (recOk k q n) = false := decide_eq_false (fun h => e3 h.2.2.1)
        rw [hb]
        have d1 : decide (1 ≤ k) = true := decide_eq_true e1
        have d2 : decide (k ≤ 250) = true := decide_eq_true e2
        have d3 : decide (0 ≤ q) = false := decide_eq_false e3
        clear hb
        go_enter Try.func27, Try.ntmps27
        go_upto_region 1 with fail
        rw [Hw1.out]
        go_wp2
        go_ret
        exact ⟨rfl, Hb1.out⟩
    · have hb : decide (recOk k q n) = false := decide_eq_false (fun h => e2 h.2.1)
      rw [hb]
      have d1 : decide (1 ≤ k) = true := decide_eq_true e1
      have d2 : decide (k ≤ 250) = false := decide_eq_false e2
      clear hb
      go_enter Try.func27, Try.ntmps27
      go_upto_region 1 with fail
      rw [Hw1.out]
      go_wp2
      go_ret
      exact ⟨rfl, Hb1.out⟩
  · have hb : decide (recOk k q n) = false := decide_eq_false (fun h => e1 h.1)
    rw [hb]
    have d1 : decide (1 ≤ k) = false := decide_eq_false e1
    clear hb
    go_enter Try.func27, Try.ntmps27
    go_upto_region 1 with fail
    rw [Hw1.out]
    go_wp2
    go_ret
    exact ⟨rfl, Hb1.out⟩

/-- four bytes as they are laid out -/
theorem ob_lit4 (w : World) (a b c d : UInt8) : Ob 5 (w.alloc (.cells #[bval a, bval b, bval c, bval d] 5)) w.heap.size (.slice (some ⟨w.heap.size, 0, none⟩) 4 4) [a, b, c, d] := by
  have h := World.ownsRow_lit (base := w.heap.size) (e := 5) (size := 1) w #[bval a, bval b, bval c, bval d] 4 (Nat.le_refl _) (by unfold maxLen; omega) (by simp)
  unfold Ob
  simpa using h

theorem low4 (x : Nat) : lowB 4 x = [UInt8.ofNat x, UInt8.ofNat (x / 256), UInt8.ofNat (x / 65536), UInt8.ofNat (x / 16777216)] := by
  simp [lowB, Nat.div_div_eq_div_mul]

theorem low4_bs (w : World) (x : Nat) (hx : x < 4294967296) : Bs (w.alloc (.cells #[.int .u8 ((x : Int) % 256), .int .u8 ((x : Int) / 256 % 256), .int .u8 ((x : Int) / 65536 % 256), .int .u8 ((x : Int) / 16777216)] 5)) (some ⟨w.heap.size, 0, none⟩) (lowB 4 x) := by
  have h := (ob_lit4 w (UInt8.ofNat x) (UInt8.ofNat (x / 256)) (UInt8.ofNat (x / 65536)) (UInt8.ofNat (x / 16777216))).bs
  rw [low4]
  have e : ∀ y : Nat, bval (UInt8.ofNat y) = .int .u8 ((y : Int) % 256) := fun y => by simp [bval]
  simp only [e] at h
  rw [show (x : Int) / 16777216 = ((x / 16777216 : Nat) : Int) % 256 by omega]
  simpa using h

set_option maxHeartbeats 800000 in
theorem appnum_any (g m c x : Nat) (l : List UInt8) (base : Nat) (w : World) (ho : Ob 5 w base (.slice (some ⟨g, 0, none⟩) m c) l) (hm : m ≤ 65536) (hbase : base ≤ w.heap.size) (hx : x < 4294967296) :
    Calls Try.prog 28 #[.slice (some ⟨g, 0, none⟩) m c, .int .u32 (x : Int)] w fun e w' => ∃ v, e = .returned v ∧ Ob 5 w' base v (l ++ lowB 4 x) ∧ w.grownBy w' (some g) := by
  have hlm := ho.len
  have hbs := low4_bs w x hx
  have O := Lib.hid (ho.below ((Below.refl _ _).alloc (Nat.le_refl _) (.cells #[.int .u8 ((x : Int) % 256), .int .u8 ((x : Int) / 256 % 256), .int .u8 ((x : Int) / 65536 % 256), .int .u8 ((x : Int) / 16777216)] 5)))
  have HBS := Lib.hid hbs
  have HL := Lib.hid hlm
  clear ho hbs hlm
  go_enter Try.func28, Try.ntmps28
  go_wp2_with (at_builtin; refine wpList_append_bs rfl (.tmp 5) (.tmp 17) 22 rfl base 5 Try.underlying22 info5 _ l rfl O.out _ (lowB 4 x) 4 4 rfl rfl HBS.out (by have := HL.out; simp [lowB_len]; omega) (by simp; omega) ?_; intro v7 w7 h1 h2)
  go_ret
  exact ⟨_, rfl, h1, ⟨h2.os, h2.tape, h2.output, by have := h2.size; simp at this; omega, fun j hj hne => (h2.block j (by simp; omega) hne).trans (heap_alloc_old w _ hj)⟩⟩
end Go.Proofs.Ytddalnmoahpljaa

