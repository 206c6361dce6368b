/- The contracts of bootjackref1.Low and Number. -/
import Derived.Test.YtddalnmoahpljaaRefSum
import Derived.Test.YtddalnmoahpljaaGbase
namespace Go.Proofs.Ytddalnmoahpljaa
open Go.RowKit
set_option linter.unusedVariables false
set_option maxRecDepth 100000

theorem lowB_step (k n : Nat) : lowB (k + 1) n = lowB k n ++ [UInt8.ofNat (n / 256 ^ k)] := by
  induction k generalizing n with
  | zero => simp [lowB]
  | succ k ih =>
    show UInt8.ofNat n :: lowB (k + 1) (n / 256) = _
    rw [ih, Nat.div_div_eq_div_mul, ← Nat.pow_succ']
    rfl

theorem low_put (K k n : Nat) (hk : k < K) : (lowB k n ++ List.replicate (K - k) 0).set k (UInt8.ofNat (n / 256 ^ k)) = lowB (k + 1) n ++ List.replicate (K - (k + 1)) 0 := by
  rw [List.set_append, if_neg (by rw [lowB_len]; omega)]
  have : K - k = (K - (k + 1)) + 1 := by omega
  rw [this, List.replicate_succ (n := K - (k + 1)), lowB_len, Nat.sub_self, List.set_cons_zero, lowB_step]
  simp

set_option maxHeartbeats 800000 in
theorem rlow_any (n K : Nat) (w : World) (hn : n < 18446744073709551616) (hK : K ≤ 8) :
    Calls Try.prog 30 #[.int .u64 (n : Int), .int .i64 (K : Int)] w (RetOb 5 w (lowB K n)) := by
  have mk : ∀ u : World, (Instr.makeSlice 22 (.int .i64 (K : Int)) (.int .i64 (K : Int))).run Try.prog u = _ := fun u => make_bytes K (by omega) u
  have Hpost : Hid (∀ w', Ob 5 w' w.heap.size (.slice (some ⟨w.heap.size, 0, none⟩) K K) (lowB K n) → Below w.heap.size w w' → RetOb 5 w (lowB K n) (.returned (.slice (some ⟨w.heap.size, 0, none⟩) K K)) w') := Lib.hid (fun w' ho hb => ⟨_, rfl, ho, hb⟩)
  go_enter Try.func30, Try.ntmps30
  go_wp2
  go_loopw [0, 6] (fun x i wr => ∃ k M : Nat, k ≤ K ∧ i = .int .i64 k ∧ M = n / 256 ^ k ∧ x = .int .u64 (M : Int) ∧ Ob 5 wr w.heap.size (.slice (some ⟨w.heap.size, 0, none⟩) K K) (lowB k n ++ List.replicate (K - k) 0) ∧ Below w.heap.size w wr) (fun _ i _ => K - (intOf i).toNat)
  case atStart => exact ⟨0, n, Nat.zero_le _, rfl, by simp, rfl, own_made w K _ (by omega), (Below.refl _ _).alloc (Nat.le_refl _) _⟩
  case round =>
    obtain ⟨k, M, hk, rfl, hM, rfl, hown, hbel⟩ := hrel
    have hMl : M < 18446744073709551616 := by rw [hM]; exact Nat.lt_of_le_of_lt (Nat.div_le_self _ _) hn
    by_cases hlt : k < K
    · obtain ⟨b1, o1, e1, hc1⟩ := hown.bs.at_ (k := k) (by simp [lowB_len]; omega)
      injection e1 with e1
      injection e1 with e1 e2
      subst e1
      subst e2
      have hfr : wr.frozen? ⟨w.heap.size, k, none⟩ = false := hown.frozen k
      rw [Nat.zero_add] at hc1
      have hst := hown.set_ k (UInt8.ofNat (n / 256 ^ k))
      rw [low_put K k n hlt, ← hM, show bval (UInt8.ofNat M) = .int .u8 ((M : Int) % 256) by simp [bval]] at hst
      have hs : Hid (M / 256 = n / 256 ^ (k + 1)) := Lib.hid (by rw [hM, Nat.div_div_eq_div_mul, ← Nat.pow_succ])
      have hbst : Below w.heap.size w (wr.setCell ⟨w.heap.size, k, none⟩ (.int .u8 ((M : Int) % 256))) := hbel.setCell (Nat.le_refl _) _
      have Hst := Lib.hid hst
      have Hbst := Lib.hid hbst
      clear hst hbst hM
      go_wp2
      go_roundw
      case rel => exact ⟨k + 1, M / 256, by omega, by go_num, hs.out, by go_num, Hst.out, Hbst.out⟩
      case measure => simp [intOf]; omega
    · obtain rfl : k = K := by omega
      have Hown : Hid (Ob 5 wr w.heap.size (.slice (some ⟨w.heap.size, 0, none⟩) k k) (lowB k n)) := Lib.hid (by simpa using hown)
      clear hown hM
      go_wp2
      go_ret
      exact Hpost.out _ Hown.out hbel

theorem numB_drop {l : List UInt8} {q : Nat} (h : q < l.length) : numB (l.drop q) = numB (l.drop (q + 1)) * 256 + (l.getD q 0).toNat := by
  have e : l.drop q = l[q] :: l.drop (q + 1) := List.drop_eq_getElem_cons h
  rw [e]
  show numB (l.drop (q + 1)) * 256 + (l[q]).toNat = _
  simp [List.getD, h]

set_option maxHeartbeats 800000 in
theorem rnumber_any (A : Option Addr) (l : List UInt8) (c : Nat) (w : World) (h : Bs w A l) (hl : l.length ≤ 4) :
    Calls Try.prog 26 #[.slice A l.length c] w fun e w' => e = .returned (.int .u64 (numB l : Nat)) ∧ ∃ n, w' = w.drewN n := by
  have hb : ∀ q, numB (l.drop q) < 4294967296 := fun q => Nat.lt_of_lt_of_le (numB_lt _) (Nat.le_trans (Nat.pow_le_pow_right (by omega) (show (l.drop q).length ≤ 4 by rw [List.length_drop]; omega)) (by decide))
  have Hb := Lib.hid hb
  clear hb
  go_enter Try.func26, Try.ntmps26
  go_wp2
  go_loopw [3, 4] (fun x i wr => ∃ k X nd : Nat, k ≤ l.length ∧ i = .int .i64 ((k : Int) - 1) ∧ X = numB (l.drop k) ∧ x = .int .u64 (X : Int) ∧ wr = w.drewN nd) (fun _ i _ => (intOf i + 1).toNat)
  case atStart => exact ⟨l.length, 0, 0, Nat.le_refl _, by go_num, by rw [List.drop_length]; rfl, rfl, rfl⟩
  case round =>
    obtain ⟨k, X, nd, hk, rfl, hX, rfl, rfl⟩ := hrel
    have hXl : X < 4294967296 := by rw [hX]; exact Hb.out k
    rcases k with _ | q
    · rw [List.drop_zero] at hX
      subst hX
      go_wp2
      go_ret
      exact ⟨rfl, nd, rfl⟩
    · have hlt : q < l.length := by omega
      obtain ⟨bb, oo, rfl, hc⟩ := h.at_ hlt
      obtain ⟨y, hy⟩ : ∃ y, l.getD q 0 = y := ⟨_, rfl⟩
      rw [hy] at hc
      have hs : Hid (X * 256 + y.toNat = numB (l.drop q)) := Lib.hid (by rw [numB_drop hlt, hX, hy])
      have hi : ((q + 1 : Nat) : Int) - 1 = (q : Int) := by omega
      have hyl := y.toNat_lt
      clear hX hy
      go_wp2
      go_roundw
      case rel => exact ⟨q, X * 256 + y.toNat, nd, by omega, by go_num, hs.out, by go_num, rfl⟩
      case measure => simp [intOf]
end Go.Proofs.Ytddalnmoahpljaa

