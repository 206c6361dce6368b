/- The contract of bootjackref1.bit. The contract of bootjackref1.Cap. The contract of bootjackref1.picked. The contract of bootjackref1.Blank. The contract of bootjackref1.IsBlank. The contract of bootjackref1.Can. The contract of bootjackref1.Program. The contract of bootjackref1.Between. The contract of bootjackref1.Risen. The contract of bootjackref1.Half. The contract of bootjackref1.Torn. -/
import Derived.Test.YtcpkmhhlcmnfdaaGbase
namespace Go.Proofs.Ytcpkmhhlcmnfdaa
open Go.RowKit
set_option linter.unusedVariables false
set_option maxRecDepth 100000

set_option maxHeartbeats 400000 in
theorem bit_any (x : UInt8) (k : Nat) (hk : k < 8) (w : World) :
    Calls Try.prog 82 #[.int .u8 (x.toNat : Int), .int .i64 (k : Int)] w fun e w' => e = .returned (.int .i64 (bitI x k)) ∧ w' = w := by
  rw [bitI_eq]
  have hx := x.toNat_lt
  go_enter Try.func82, Try.ntmps82
  go_wp2
  go_ret
  exact ⟨by
    show Ending.returned (Value.int .i64 (bits .and .i64 (wrap64 ((x.toNat : Int) / 2 ^ k)) 1)) = _
    rw [bit_and hx], rfl⟩

theorem bit_is (x : UInt8) (k : Nat) (hk : k < 8) (b : Int) (hb : Hid (bitI x k = b)) (w : World) :
    Calls Try.prog 82 #[.int .u8 (x.toNat : Int), .int .i64 (k : Int)] w fun e w' => e = .returned (.int .i64 b) ∧ w = w' :=
  (bit_any x k hk w).mono fun e w' ⟨he, hw⟩ => ⟨by rw [he, hb.out], hw.symm⟩
end Go.Proofs.Ytcpkmhhlcmnfdaa

namespace Go.Proofs.Ytcpkmhhlcmnfdaa
open Go.RowKit
set_option linter.unusedVariables false
set_option maxRecDepth 100000

theorem cap_any (n a b : Int) (w : World) : Calls Try.prog 35 #[.int .i64 n, .int .i64 a, .int .i64 b] w fun e w' => e = .returned (.int .i64 (if n < a then a else if b < n then b else n)) ∧ w' = w := by
  by_cases h1 : n < a
  · rw [if_pos h1]
    go_enter Try.func35, Try.ntmps35
    go_wp2
    go_ret
    exact ⟨rfl, rfl⟩
  · rw [if_neg h1]
    by_cases h2 : b < n
    · rw [if_pos h2]
      go_enter Try.func35, Try.ntmps35
      go_wp2
      go_ret
      exact ⟨rfl, rfl⟩
    · rw [if_neg h2]
      go_enter Try.func35, Try.ntmps35
      go_wp2
      go_ret
      exact ⟨rfl, rfl⟩

theorem cap_is (n : Int) : ∃ K : Nat, K ≤ 65536 ∧ (K : Int) = max 0 (min n 65536) ∧ (if n < 0 then 0 else if 65536 < n then 65536 else n) = (K : Int) :=
  ⟨(max 0 (min n 65536)).toNat, by omega, by omega, by split <;> (try split) <;> omega⟩

theorem cap_at (n : Int) (K : Nat) (w : World) (h : (if n < 0 then 0 else if 65536 < n then 65536 else n) = (K : Int)) :
    Calls Try.prog 35 #[.int .i64 n, .int .i64 0, .int .i64 65536] w fun e w' => e = .returned (.int .i64 (K : Int)) ∧ w = w' := by
  rw [← h]
  exact (cap_any n 0 65536 w).mono fun e w' ⟨he, hw⟩ => ⟨he, hw.symm⟩
end Go.Proofs.Ytcpkmhhlcmnfdaa

namespace Go.Proofs.Ytcpkmhhlcmnfdaa
open Go.RowKit
set_option linter.unusedVariables false
set_option maxRecDepth 100000

theorem picked_any (A : Option Addr) (p : List UInt8) (c : Nat) (k : Nat) (w : World) (h : Bs w A p) (hp : p.length ≤ 2147483648) (hk : k ≤ 2147483648) :
    Calls Try.prog 83 #[.slice A p.length c, .int .i64 (k : Int)] w fun e w' => e = .returned (.int .u8 ((p.getD k 0).toNat : Int)) ∧ w' = w := by
  by_cases hlt : k < p.length
  · obtain ⟨b, o, rfl, hc⟩ := h.at_ hlt
    generalize p.getD k 0 = x at *
    go_enter Try.func83, Try.ntmps83
    go_wp2
    go_ret
    exact ⟨rfl, rfl⟩
  · have hz : p.getD k 0 = 0 := getD_over p k (by omega)
    rw [hz]
    clear hz
    go_enter Try.func83, Try.ntmps83
    go_wp2
    go_ret
    exact ⟨rfl, rfl⟩
end Go.Proofs.Ytcpkmhhlcmnfdaa

namespace Go.Proofs.Ytcpkmhhlcmnfdaa
open Go.RowKit
set_option linter.unusedVariables false
set_option maxRecDepth 100000

set_option maxHeartbeats 400000 in
theorem rblank_any (n : Int) (w : World) (hn1 : -9223372036854775808 ≤ n) (hn2 : n ≤ 9223372036854775807) :
    Calls Try.prog 36 #[.int .i64 n] w (BlankPost w n) := by
  obtain ⟨K, hK2, hK, hcap⟩ := cap_is n
  have mk : ∀ u : World, (Instr.makeSlice 22 (.int .i64 (K : Int)) (.int .i64 (K : Int))).run Try.prog u = _ := fun u => make_bytes K (by omega) u
  have Hcap := Lib.hid hcap
  have Hpost : Hid (∀ w', Ob 5 w' w.heap.size (.slice (some ⟨w.heap.size, 0, none⟩) K K) (List.replicate K 255) → Below w.heap.size w w' → BlankPost w n (.returned (.slice (some ⟨w.heap.size, 0, none⟩) K K)) w') := Lib.hid (fun w' ho hb => ⟨_, rfl, by
      rw [← hK, Int.toNat_natCast]; exact ho, hb⟩)
  clear hcap hK
  go_enter Try.func36, Try.ntmps36
  go_wp2_with fail
  refine (cap_at n K _ Hcap.out).mono ?_
  rintro e w' ⟨rfl, rfl⟩
  go_wp2_with fail
  go_loopw [4] (fun i wr => ∃ k : Nat, k ≤ K ∧ i = .int .i64 k ∧ Ob 5 wr w.heap.size (.slice (some ⟨w.heap.size, 0, none⟩) K K) (List.replicate k 255 ++ List.replicate (K - k) 0) ∧ Below w.heap.size w wr) (fun i _ => K - (intOf i).toNat)
  case atStart => exact ⟨0, Nat.zero_le _, rfl, own_made w K _ (by omega), (Below.refl _ _).alloc (Nat.le_refl _) _⟩
  case round =>
    obtain ⟨k, hk, rfl, hown, hbel⟩ := hrel
    by_cases hlt : k < K
    · obtain ⟨b1, o1, e1, hc1⟩ := hown.bs.at_ (k := k) (by simp; omega)
      injection e1 with e1
      injection e1 with e1 e2
      subst e1
      subst e2
      have hfr : wr.frozen? ⟨w.heap.size, k, none⟩ = false := hown.frozen k
      rw [Nat.zero_add] at hc1
      have hst := hown.set_ k 255
      rw [replicate_step K k hlt] at hst
      have hbst : Below w.heap.size w (wr.setCell ⟨w.heap.size, k, none⟩ (bval 255)) := hbel.setCell (Nat.le_refl _) _
      have Hst := Lib.hid hst
      have Hbst := Lib.hid hbst
      clear hst hbst
      go_wp2
      go_roundw
      case rel => exact ⟨k + 1, by omega, by go_num, Hst.out, Hbst.out⟩
      case measure => simp [intOf]; omega
    · obtain rfl : k = K := by omega
      have Hown : Hid (Ob 5 wr w.heap.size (.slice (some ⟨w.heap.size, 0, none⟩) k k) (List.replicate k 255)) := Lib.hid (by simpa using hown)
      clear hown
      go_wp2
      go_ret
      exact Hpost.out _ Hown.out hbel

section
variable {w W : World} {A1 A2 A3 : Option Addr} {l m p : List UInt8} {n1 n2 n3 c1 c2 c3 : Nat}

theorem rblankN_in {n : Int} {K : Nat} (hb : Below w.heap.size w W) (hK : Hid (K = (max 0 (min n 65536)).toNat)) (hn1 : -9223372036854775808 ≤ n) (hn2 : n ≤ 9223372036854775807) :
    Calls Try.prog 36 #[.int .i64 n] W (RetIn 5 w (List.replicate K 255)) :=
  (rblank_any n W hn1 hn2).mono (blankPost_in hb hK)
end
end Go.Proofs.Ytcpkmhhlcmnfdaa

namespace Go.Proofs.Ytcpkmhhlcmnfdaa
open Go.RowKit
set_option linter.unusedVariables false
set_option maxRecDepth 100000

theorem risBlank_any (A : Option Addr) (l : List UInt8) (c : Nat) (w : World) (h : Bs w A l) (hl : l.length ≤ 2147483648) :
    Calls Try.prog 80 #[.slice A l.length c] w fun e w' => e = .returned (.bool (l.all (· == 255))) ∧ w = w' := by
  go_enter Try.func80, Try.ntmps80
  go_wp2
  go_loop [3] (fun i => ∃ k : Nat, k ≤ l.length ∧ i = .int .i64 k ∧ ∀ j, j < k → l.getD j 0 = 255) (fun i => l.length - (intOf i).toNat)
  case atStart => exact ⟨0, Nat.zero_le _, rfl, fun j hj => absurd hj (by omega)⟩
  case round =>
    obtain ⟨k, hk, rfl, hj0⟩ := hrel
    have HJ := Lib.hid hj0
    clear hj0
    by_cases hlt : k < l.length
    · obtain ⟨b1, o1, rfl, hc1⟩ := h.at_ hlt
      obtain ⟨x, hx⟩ : ∃ x, l.getD k 0 = x := ⟨_, rfl⟩
      rw [hx] at hc1
      have Hx := Lib.hid hx
      clear hx
      by_cases hz : x = 255
      · have hb2 : ((x.toNat : Int) != 255) = false := by subst hz; rfl
        have Hz := Lib.hid hz
        clear hz
        go_wp2
        go_round
        case rel =>
          refine ⟨k + 1, by omega, by go_num, fun j hj => ?_⟩
          by_cases e : j = k
          · subst e; rw [Hx.out]; exact Hz.out
          · exact HJ.out j (by omega)
        case measure => simp [intOf]; omega
      · have hb2 : ((x.toNat : Int) != 255) = true := by
          simp
          intro h'
          exact hz (UInt8.toNat_inj.1 (by simpa using (by omega : x.toNat = 255)))
        have Hf : Hid (l.all (· == 255) = false) := Lib.hid (by
          rw [List.all_eq_false]
          exact ⟨l[k], List.getElem_mem hlt, by rw [← Hx.out] at hz; simpa [List.getD, List.getElem?_eq_getElem hlt] using hz⟩)
        clear hz
        go_wp2
        go_ret
        exact ⟨by rw [Hf.out]; rfl, rfl⟩
    · have Hf : Hid (l.all (· == 255) = true) := Lib.hid (by
        rw [List.all_eq_true]
        intro x hx
        obtain ⟨i, hi, rfl⟩ := List.getElem_of_mem hx
        have := HJ.out i (by omega)
        simpa [List.getD, List.getElem?_eq_getElem hi] using this)
      go_wp2
      go_ret
      exact ⟨by rw [Hf.out]; rfl, rfl⟩

section
variable {w W : World} {A1 A2 A3 : Option Addr} {l m p : List UInt8} {n1 n2 n3 c1 c2 c3 : Nat}

theorem risBlank_in {b : Bool} (hb : Below w.heap.size w W) (H : Hid (l.all (· == 255) = b)) (h1 : Bs W A1 l) (e1 : n1 = l.length) (hl : n1 ≤ 65536) :
    Calls Try.prog 80 #[.slice A1 n1 c1] W (BoolIn w b) := by
  subst e1
  rw [← H.out]
  exact (risBlank_any A1 l c1 W h1 (by omega)).mono fun e w' ⟨he, hw⟩ => ⟨he, hw ▸ hb⟩
end
end Go.Proofs.Ytcpkmhhlcmnfdaa

namespace Go.Proofs.Ytcpkmhhlcmnfdaa
open Go.RowKit
set_option linter.unusedVariables false
set_option maxRecDepth 100000

set_option maxHeartbeats 800000 in
theorem rcan_any (A1 A2 : Option Addr) (l m : List UInt8) (c1 c2 : Nat) (w : World) (h1 : Bs w A1 l) (h2 : Bs w A2 m) (hl : l.length ≤ 2147483648) :
    Calls Try.prog 72 #[.slice A1 l.length c1, .slice A2 m.length c2] w fun e w' => e = .returned (.bool (canB l m)) ∧ ∃ n, w' = w.drewN n := by
  by_cases hlen : l.length = m.length
  · have Hlen := Lib.hid hlen
    have hb1 : ((l.length : Int) != (m.length : Int)) = false := by simp [hlen]
    clear hlen
    go_enter Try.func72, Try.ntmps72
    go_wp2
    go_loopw [5] (fun i wr => ∃ k nd : Nat, k ≤ l.length ∧ i = .int .i64 k ∧ wr = w.drewN nd ∧ ∀ j, j < k → m.getD j 0 &&& ~~~(l.getD j 0) = 0) (fun i _ => l.length - (intOf i).toNat)
    case atStart => exact ⟨0, 0, Nat.zero_le _, rfl, rfl, fun j hj => absurd hj (by omega)⟩
    case round =>
      obtain ⟨k, nd, hk, rfl, rfl, hj0⟩ := hrel
      have HJ := Lib.hid hj0
      clear hj0
      by_cases hlt : k < l.length
      · have hlt2 : k < m.length := by rw [← Hlen.out]; exact hlt
        obtain ⟨b1, o1, rfl, hc1⟩ := h1.at_ hlt
        obtain ⟨b2, o2, rfl, hc2⟩ := h2.at_ hlt2
        obtain ⟨x, hx⟩ : ∃ x, l.getD k 0 = x := ⟨_, rfl⟩
        obtain ⟨y, hy⟩ : ∃ y, m.getD k 0 = y := ⟨_, rfl⟩
        rw [hx] at hc1
        rw [hy] at hc2
        have Hx := Lib.hid hx
        have Hy := Lib.hid hy
        clear hx hy
        have hq : ∀ b : UInt8, ∀ q, 0 ≤ bitI b q ∧ bitI b q ≤ 1 := fun b q => by unfold bitI; split <;> decide
        have HQ := Lib.hid hq
        clear hq
        go_wp2
        go_loopw [6] (fun i wr => ∃ q nd2 : Nat, q ≤ 8 ∧ i = .int .i64 q ∧ wr = w.drewN nd2 ∧ ∀ j, j < q → bitI y j ≤ bitI x j) (fun i _ => 8 - (intOf i).toNat)
        case atStart => exact ⟨0, nd, Nat.zero_le _, rfl, rfl, fun j hj => absurd hj (by omega)⟩
        case round =>
          obtain ⟨q, nd2, hq8, rfl, rfl, hb0⟩ := hrel
          have HB := Lib.hid hb0
          clear hb0
          by_cases hq : q < 8
          · obtain ⟨bx, hbx⟩ : ∃ z, bitI x q = z := ⟨_, rfl⟩
            obtain ⟨bY, hby⟩ : ∃ z, bitI y q = z := ⟨_, rfl⟩
            have Cx : Hid (∀ W : World, Calls Try.prog 82 #[.int .u8 (x.toNat : Int), .int .i64 (q : Int)] W fun e w' => e = .returned (.int .i64 bx) ∧ w' = W) := Lib.hid (fun W => hbx ▸ bit_any x q hq W)
            have Cy : Hid (∀ W : World, Calls Try.prog 82 #[.int .u8 (y.toNat : Int), .int .i64 (q : Int)] W fun e w' => e = .returned (.int .i64 bY) ∧ w' = W) := Lib.hid (fun W => hby ▸ bit_any y q hq W)
            have Hbx := Lib.hid hbx
            have Hby := Lib.hid hby
            clear hbx hby
            by_cases hgt : bx < bY
            · have Hf : Hid (canB l m = false) := Lib.hid (canB_false (l := l) (m := m) hlt (by
                rw [Hx.out, Hy.out]
                intro h0
                have := (bitI_le x y).2 h0 q hq
                rw [Hbx.out, Hby.out] at this
                omega))
              go_wp2_with fail
              go_quiet (first | (go_at_call_of 82 (Value.int .u8 (y.toNat : Int)); exact quiet_at Cy.out) | (go_at_call_of 82 (Value.int .u8 (x.toNat : Int)); exact quiet_at Cx.out))
              go_wp2_with fail
              go_ret
              exact ⟨by rw [Hf.out]; rfl, _, World.drewN_drewN _ _ _⟩
            · have hd : decide (bx < bY) = false := by simpa using hgt
              go_wp2_with fail
              go_quiet (first | (go_at_call_of 82 (Value.int .u8 (y.toNat : Int)); exact quiet_at Cy.out) | (go_at_call_of 82 (Value.int .u8 (x.toNat : Int)); exact quiet_at Cx.out))
              go_wp2_with fail
              go_roundw
              case rel =>
                refine ⟨q + 1, _, by omega, by go_num, rfl, fun j hj => ?_⟩
                by_cases e : j = q
                · subst e; rw [Hbx.out, Hby.out]; omega
                · exact HB.out j (by omega)
              case measure => simp [intOf]; omega
          · obtain rfl : q = 8 := by omega
            go_wp2_with fail
            go_roundw
            case rel =>
              refine ⟨k + 1, _, by omega, by go_num, rfl, fun j hj => ?_⟩
              by_cases e : j = k
              · subst e; rw [Hx.out, Hy.out]; exact (bitI_le x y).1 HB.out
              · exact HJ.out j (by omega)
            case measure => simp [intOf]; omega
      · have Hf : Hid (canB l m = true) := Lib.hid (canB_true Hlen.out (fun i hi => HJ.out i (by omega)))
        go_wp2
        go_ret
        exact ⟨by rw [Hf.out]; rfl, _, rfl⟩
  · have Hf : Hid (canB l m = false) := Lib.hid (canB_len hlen)
    have hb1 : ((l.length : Int) != (m.length : Int)) = true := by simp; omega
    go_enter Try.func72, Try.ntmps72
    go_wp2
    go_ret
    exact ⟨by rw [Hf.out]; rfl, 0, rfl⟩

theorem rcan_is {A1 A2 : Option Addr} {l m : List UInt8} {c1 c2 : Nat} {w : World} {b : Bool} (hb : Hid (canB l m = b)) (h1 : Bs w A1 l) (h2 : Bs w A2 m) (hl : l.length ≤ 2147483648) :
    Calls Try.prog 72 #[.slice A1 l.length c1, .slice A2 m.length c2] w fun e w' => e = .returned (.bool b) ∧ ∃ n, w' = w.drewN n :=
  (rcan_any A1 A2 l m c1 c2 w h1 h2 hl).mono fun _ _ ⟨he, hw⟩ => ⟨by rw [he, hb.out], hw⟩

section
variable {w W : World} {A1 A2 A3 : Option Addr} {l m p : List UInt8} {n1 n2 n3 c1 c2 c3 : Nat}

theorem rcan_in {b : Bool} (hb : Below w.heap.size w W) (H : Hid (canB l m = b)) (h1 : Bs W A1 l) (h2 : Bs W A2 m) (e1 : n1 = l.length) (e2 : n2 = m.length) (hl : n1 ≤ 65536) :
    Calls Try.prog 72 #[.slice A1 n1 c1, .slice A2 n2 c2] W (BoolIn w b) := by
  subst e1
  subst e2
  exact (rcan_is H h1 h2 (by omega)).mono fun e w' ⟨he, n, hw⟩ => boolIn_of hb e w' ⟨he, n, hw⟩
end
end Go.Proofs.Ytcpkmhhlcmnfdaa

namespace Go.Proofs.Ytcpkmhhlcmnfdaa
open Go.RowKit
set_option linter.unusedVariables false
set_option maxRecDepth 100000

section
variable {w W : World} {A1 A2 A3 : Option Addr} {l m p : List UInt8} {n1 n2 n3 c1 c2 c3 : Nat}

end
end Go.Proofs.Ytcpkmhhlcmnfdaa

namespace Go.Proofs.Ytcpkmhhlcmnfdaa
open Go.RowKit
set_option linter.unusedVariables false
set_option maxRecDepth 100000

section
variable {w W : World} {A1 A2 A3 : Option Addr} {l m p : List UInt8} {n1 n2 n3 c1 c2 c3 : Nat}

end
end Go.Proofs.Ytcpkmhhlcmnfdaa

namespace Go.Proofs.Ytcpkmhhlcmnfdaa
open Go.RowKit
set_option linter.unusedVariables false
set_option maxRecDepth 100000

section
variable {w W : World} {A1 A2 A3 : Option Addr} {l m p : List UInt8} {n1 n2 n3 c1 c2 c3 : Nat}

end
end Go.Proofs.Ytcpkmhhlcmnfdaa

namespace Go.Proofs.Ytcpkmhhlcmnfdaa
open Go.RowKit
set_option linter.unusedVariables false
set_option maxRecDepth 100000

set_option maxHeartbeats 1600000 in
theorem rhalf_any (A1 A2 : Option Addr) (l p : List UInt8) (c1 c2 : Nat) (w : World) (h1 : Bs w A1 l) (h2 : Bs w A2 p) (hl : l.length ≤ 2147483648) (hp : p.length ≤ 2147483648) :
    Calls Try.prog 85 #[.slice A1 l.length c1, .slice A2 p.length c2] w (RetOb 5 w (halfB l p)) := by
  go_enter Try.func85, Try.ntmps85
  go_wp2_with (at_builtin; refine wpList_append_bs rfl (.const (.slice none 0 0)) _ 22 rfl w.heap.size 5 Try.underlying22 info5 _ [] rfl (Ob.nil_ _ _ _) A1 l _ c1 rfl rfl h1 (by simp; omega) (Nat.le_refl _) ?_)
  intro v w2 ho hg
  obtain ⟨A, c, rfl, -, hfo⟩ := ho.form
  have hb2 : Below w.heap.size w w2 := below_of_grown hg
  clear hg
  go_wp2_with fail
  go_loopw [6] (fun i wr => ∃ k : Nat, k ≤ l.length ∧ i = .int .i64 k ∧ Ob 5 wr w.heap.size (.slice A l.length c) (halfTo l p k) ∧ Below w.heap.size w wr) (fun i _ => l.length - (intOf i).toNat)
  case atStart => exact ⟨0, Nat.zero_le _, rfl, by rw [halfTo_zero]; exact ho, hb2⟩
  case round =>
    obtain ⟨k, hk, rfl, hown, hbel⟩ := hrel
    obtain ⟨wo, rfl⟩ : ∃ wo : World, wo = wr := ⟨_, rfl⟩
    by_cases hlt : k < l.length
    · obtain ⟨x, hx⟩ : ∃ x, l.getD k 0 = x := ⟨_, rfl⟩
      obtain ⟨z, hz⟩ : ∃ z, p.getD k 0 = z := ⟨_, rfl⟩
      have Hx := Lib.hid hx
      have Hz := Lib.hid hz
      have Hsub : Hid (x &&& ~~~(x ||| z) = 0) := u8_and_not_or x z
      have Hst0 : Hid (Ob 5 wo w.heap.size (.slice A l.length c) ((halfTo l p k).set k (part x (x ||| z) 0))) := Lib.hid (by
        rw [part_zero, set_same _ _ _ (by rw [halfTo_len]; exact hlt) (by rw [halfTo_at hlt]; exact hx)]; exact hown)
      clear hx hz hown ho hb2
      go_wp2_with fail
      go_loopw [7] (fun i wr => ∃ q : Nat, q ≤ 8 ∧ i = .int .i64 q ∧ Ob 5 wr w.heap.size (.slice A l.length c) ((halfTo l p k).set k (part x (x ||| z) q)) ∧ Below w.heap.size w wr) (fun i _ => 8 - (intOf i).toNat)
      case atStart => exact ⟨0, Nat.zero_le _, rfl, Hst0.out, hbel⟩
      case round =>
        obtain ⟨q, hq8, rfl, hown, hbel⟩ := hrel
        by_cases hq : q < 8
        · obtain ⟨bx, hbx⟩ : ∃ b, bitI x q = b := ⟨_, rfl⟩
          obtain ⟨bz, hbz⟩ : ∃ b, bitI z q = b := ⟨_, rfl⟩
          have Hbx := Lib.hid hbx
          have Hbz := Lib.hid hbz
          obtain ⟨b1, o1, e1, hc1⟩ := hown.bs.at_ (k := k) (by simp [halfTo_len]; exact hlt)
          rcases hfo with rfl | ⟨g, rfl, hg, -⟩
          · cases e1
          injection e1 with e1
          injection e1 with e1 e2
          subst e1
          subst e2
          obtain ⟨b3, o3, rfl, hc3⟩ := (h1.below hbel).at_ (k := k) hlt
          have hz2 := h2.below hbel
          have hfr : wr.frozen? ⟨g, k, none⟩ = false := hown.frozen k
          rw [Nat.zero_add, getD_set _ _ _ _ (by rw [halfTo_len]; exact hlt), if_pos rfl] at hc1
          rw [Hx.out] at hc3
          have CP : Hid (∀ W, W = wr → Calls Try.prog 83 #[.slice A2 p.length c2, .int .i64 (k : Int)] W fun e w' => e = .returned (.int .u8 (z.toNat : Int)) ∧ W = w') := Lib.hid (fun W hW => by
            subst hW
            have := picked_any A2 p c2 k W hz2 hp (by omega)
            rw [Hz.out] at this
            exact this.mono fun e w' ⟨he, hw⟩ => ⟨he, hw.symm⟩)
          by_cases hbx0 : bx = 0
          · have t1 : (bx == 0) = true := by simp [hbx0]
            by_cases hbz1 : bz = 1
            · have t2 : (bz == 1) = true := by simp [hbz1]
              have hk1 : (x ||| z).toBitVec.getLsbD q = true := by rw [half_bit, bitI_one.1 (hbz.trans hbz1)]; simp
              have hk2 : x.toBitVec.getLsbD q = false := bitI_zero.1 (hbx.trans hbx0)
              have hsum := part_toNat hq hk1 hk2
              have hst := hown.set_ k (part x (x ||| z) (q + 1))
              rw [List.set_set] at hst
              have hbst : Below w.heap.size w (wr.setCell ⟨g, k, none⟩ (bval (part x (x ||| z) (q + 1)))) := hbel.setCell hg _
              have Hval := Lib.hid (sum_at hsum (part x (x ||| z) (q + 1)).toNat_lt)
              have Hpn : Hid (part x (x ||| z) (q + 1) = part x (x ||| z) (q + 1)) := rfl
              generalize hpn : part x (x ||| z) (q + 1) = pn at hst hbst Hval
              have HPN := Lib.hid hpn
              clear hpn
              generalize part x (x ||| z) q = pc at *
              have Hst := Lib.hid hst
              have Hbst := Lib.hid hbst
              clear hst hbst hown hbel hbx hbz hbx0 hbz1 hz2 hk1 hk2 h1 h2 hsum Hpn
              go_wp2_with fail
              refine (bit_is x q hq bx Hbx _).mono ?_
              rintro e w' ⟨rfl, rfl⟩
              go_wp2_with fail
              refine (CP.out _ rfl).mono ?_
              rintro e w' ⟨rfl, rfl⟩
              go_wp2_with fail
              refine (bit_is z q hq bz Hbz _).mono ?_
              rintro e w' ⟨rfl, rfl⟩
              go_wp2_with fail
              go_roundw
              case rel =>
                refine ⟨q + 1, by omega, by go_num, ?_⟩
                rw [Hval.out, HPN.out]
                exact ⟨Hst.out, Hbst.out⟩
              case measure => simp [intOf]; omega
            · have t2 : (bz == 1) = false := by simpa using hbz1
              have HN : Hid (part x (x ||| z) (q + 1) = part x (x ||| z) q) := half_no hq (.inr (by rw [hbz]; exact hbz1))
              have Hst := Lib.hid hown
              have Hbst := Lib.hid hbel
              clear hown hbel hbx hbz hbx0 hbz1 hz2 h1 h2
              go_wp2_with fail
              refine (bit_is x q hq bx Hbx _).mono ?_
              rintro e w' ⟨rfl, rfl⟩
              go_wp2_with fail
              refine (CP.out _ rfl).mono ?_
              rintro e w' ⟨rfl, rfl⟩
              go_wp2_with fail
              refine (bit_is z q hq bz Hbz _).mono ?_
              rintro e w' ⟨rfl, rfl⟩
              go_wp2_with fail
              go_roundw
              case rel => exact ⟨q + 1, by omega, by go_num, by rw [HN.out]; exact Hst.out, Hbst.out⟩
              case measure => simp [intOf]; omega
          · have t1 : (bx == 0) = false := by simpa using hbx0
            have HN : Hid (part x (x ||| z) (q + 1) = part x (x ||| z) q) := half_no hq (.inl (by rw [hbx]; exact hbx0))
            have Hst := Lib.hid hown
            have Hbst := Lib.hid hbel
            clear hown hbel hbx hbz hbx0 hz2 h1 h2
            go_wp2_with fail
            refine (bit_is x q hq bx Hbx _).mono ?_
            rintro e w' ⟨rfl, rfl⟩
            go_wp2_with fail
            go_roundw
            case rel => exact ⟨q + 1, by omega, by go_num, by rw [HN.out]; exact Hst.out, Hbst.out⟩
            case measure => simp [intOf]; omega
        · obtain rfl : q = 8 := by omega
          have Hst : Hid (Ob 5 wr w.heap.size (.slice A l.length c) (halfTo l p (k + 1))) := Lib.hid (by
            rw [part_eight Hsub.out, ← Hx.out, ← Hz.out, halfTo_step hlt] at hown; exact hown)
          clear hown
          go_wp2_with fail
          go_roundw
          case rel => exact ⟨k + 1, by omega, by go_num, Hst.out, hbel⟩
          case measure => simp [intOf]; omega
    · have Hown : Hid (Ob 5 wo w.heap.size (.slice A l.length c) (halfB l p)) := Lib.hid (by rw [← halfTo_end (k := k) (by omega)]; exact hown)
      clear hown
      go_wp2_with fail
      go_ret
      exact ⟨_, rfl, Hown.out, hbel⟩

section
variable {w W : World} {A1 A2 A3 : Option Addr} {l m p : List UInt8} {n1 n2 n3 c1 c2 c3 : Nat}

theorem rhalf_in (hb : Below w.heap.size w W) (h1 : Bs W A1 l) (h2 : Bs W A2 m) (e1 : n1 = l.length) (e2 : n2 = m.length) (hl : n1 ≤ 65536) (hm : n2 ≤ 65536) :
    Calls Try.prog 85 #[.slice A1 n1 c1, .slice A2 n2 c2] W (RetIn 5 w (halfB l m)) := by
  subst e1
  subst e2
  exact (rhalf_any A1 A2 l m c1 c2 W h1 h2 (by omega) (by omega)).mono (retIn_of hb)
end
end Go.Proofs.Ytcpkmhhlcmnfdaa

namespace Go.Proofs.Ytcpkmhhlcmnfdaa
open Go.RowKit
set_option linter.unusedVariables false
set_option maxRecDepth 100000

set_option maxHeartbeats 3200000 in
theorem rtorn_yes (A1 A2 A3 : Option Addr) (l m p : List UInt8) (c1 c2 c3 : Nat) (w : World) (Hc : Hid (canB l m = true)) (h1 : Bs w A1 l) (h2 : Bs w A2 m) (h3 : Bs w A3 p)
    (hl : l.length ≤ 2147483648) (hm : m.length ≤ 2147483648) (hp : p.length ≤ 2147483648) :
    Calls Try.prog 75 #[.slice A1 l.length c1, .slice A2 m.length c2, .slice A3 p.length c3] w (RetOb 5 w (tornB l m p)) := by
  have Hlen : Hid (l.length = m.length) := Lib.hid (canB_iff.1 Hc.out).1
  go_enter Try.func75, Try.ntmps75
  go_wp2_with fail
  refine (rcan_is Hc h1 h2 hl).mono ?_
  rintro e w' ⟨rfl, n0, rfl⟩
  go_wp2_with (at_builtin; refine wpList_append_bs rfl (.const (.slice none 0 0)) _ 22 rfl w.heap.size 5 Try.underlying22 info5 _ [] rfl (Ob.nil_ _ _ _) A2 m _ c2 rfl rfl (h2.drewN n0) (by simp; omega) (Nat.le_refl _) ?_)
  intro v w2 ho hg
  obtain ⟨A, c, rfl, -, hfo⟩ := ho.form
  have hb2 : Below w.heap.size w w2 := below_of_drewN (below_of_grown hg)
  clear hg
  go_wp2_with fail
  go_loopw [8] (fun i wr => ∃ k : Nat, k ≤ l.length ∧ i = .int .i64 k ∧ Ob 5 wr w.heap.size (.slice A m.length c) (tornTo l m p k) ∧ Below w.heap.size w wr) (fun i _ => l.length - (intOf i).toNat)
  case atStart => exact ⟨0, Nat.zero_le _, rfl, by rw [tornTo_zero]; exact ho, hb2⟩
  case round =>
    obtain ⟨k, hk, rfl, hown, hbel⟩ := hrel
    obtain ⟨wo, rfl⟩ : ∃ wo : World, wo = wr := ⟨_, rfl⟩
    by_cases hlt : k < l.length
    · have hltm : k < m.length := by rw [← Hlen.out]; exact hlt
      obtain ⟨x, hx⟩ : ∃ x, l.getD k 0 = x := ⟨_, rfl⟩
      obtain ⟨y, hy⟩ : ∃ y, m.getD k 0 = y := ⟨_, rfl⟩
      obtain ⟨z, hz⟩ : ∃ z, p.getD k 0 = z := ⟨_, rfl⟩
      have Hx := Lib.hid hx
      have Hy := Lib.hid hy
      have Hz := Lib.hid hz
      have Hsub : Hid (y &&& ~~~(tornByte x y z) = 0) := Lib.hid (by unfold tornByte; exact u8_and_not_or y _)
      have Hst0 : Hid (Ob 5 wo w.heap.size (.slice A m.length c) ((tornTo l m p k).set k (part y (tornByte x y z) 0))) := Lib.hid (by
        rw [part_zero, set_same _ _ _ (by rw [tornTo_len]; exact hltm) (by rw [tornTo_at hltm]; exact hy)]; exact hown)
      clear hx hy hz hown ho hb2
      go_wp2_with fail
      go_loopw [9] (fun i wr => ∃ q : Nat, q ≤ 8 ∧ i = .int .i64 q ∧ Ob 5 wr w.heap.size (.slice A m.length c) ((tornTo l m p k).set k (part y (tornByte x y z) q)) ∧ Below w.heap.size w wr) (fun i _ => 8 - (intOf i).toNat)
      case atStart => exact ⟨0, Nat.zero_le _, rfl, Hst0.out, hbel⟩
      case round =>
        obtain ⟨q, hq8, rfl, hown, hbel⟩ := hrel
        by_cases hq : q < 8
        · obtain ⟨bx, hbx⟩ : ∃ b, bitI x q = b := ⟨_, rfl⟩
          obtain ⟨bY, hby⟩ : ∃ b, bitI y q = b := ⟨_, rfl⟩
          obtain ⟨bz, hbz⟩ : ∃ b, bitI z q = b := ⟨_, rfl⟩
          have Hbx := Lib.hid hbx
          have Hby := Lib.hid hby
          have Hbz := Lib.hid hbz
          obtain ⟨b1, o1, e1, hc1⟩ := hown.bs.at_ (k := k) (by simp [tornTo_len]; exact hltm)
          rcases hfo with rfl | ⟨g, rfl, hg, -⟩
          · cases e1
          injection e1 with e1
          injection e1 with e1 e2
          subst e1
          subst e2
          obtain ⟨b3, o3, rfl, hc3⟩ := (h1.below hbel).at_ (k := k) hlt
          obtain ⟨b4, o4, rfl, hc4⟩ := (h2.below hbel).at_ (k := k) hltm
          have hz2 := h3.below hbel
          have hfr : wr.frozen? ⟨g, k, none⟩ = false := hown.frozen k
          rw [Nat.zero_add, getD_set _ _ _ _ (by rw [tornTo_len]; exact hltm), if_pos rfl] at hc1
          rw [Hx.out] at hc3
          rw [Hy.out] at hc4
          have CP : Hid (∀ W, W = wr → Calls Try.prog 83 #[.slice A3 p.length c3, .int .i64 (k : Int)] W fun e w' => e = .returned (.int .u8 (z.toNat : Int)) ∧ W = w') := Lib.hid (fun W hW => by
            subst hW
            have := picked_any A3 p c3 k W hz2 hp (by omega)
            rw [Hz.out] at this
            exact this.mono fun e w' ⟨he, hw⟩ => ⟨he, hw.symm⟩)
          by_cases hbx1 : bx = 1
          · have t1 : (bx == 1) = true := by simp [hbx1]
            by_cases hby0 : bY = 0
            · have t2 : (bY == 0) = true := by simp [hby0]
              by_cases hbz1 : bz = 1
              · have t3 : (bz == 1) = true := by simp [hbz1]
                have hk1 : (tornByte x y z).toBitVec.getLsbD q = true := by
                  rw [torn_bit, bitI_one.1 (hbx.trans hbx1), bitI_zero.1 (hby.trans hby0), bitI_one.1 (hbz.trans hbz1), decide_eq_true hq]; rfl
                have hk2 : y.toBitVec.getLsbD q = false := bitI_zero.1 (hby.trans hby0)
                have hsum := part_toNat hq hk1 hk2
                have hst := hown.set_ k (part y (tornByte x y z) (q + 1))
                rw [List.set_set] at hst
                have hbst : Below w.heap.size w (wr.setCell ⟨g, k, none⟩ (bval (part y (tornByte x y z) (q + 1)))) := hbel.setCell (by simpa using hg) _
                have Hval := Lib.hid (sum_at hsum (part y (tornByte x y z) (q + 1)).toNat_lt)
                generalize hpn : part y (tornByte x y z) (q + 1) = pn at hst hbst Hval
                have HPN := Lib.hid hpn
                clear hpn
                generalize part y (tornByte x y z) q = pc at *
                have Hst := Lib.hid hst
                have Hbst := Lib.hid hbst
                clear hst hbst hown hbel hbx hby hbz hbx1 hby0 hbz1 hz2 hk1 hk2 h1 h2 h3 hsum
                go_wp2_with fail
                refine (bit_is x q hq bx Hbx _).mono ?_
                rintro e w' ⟨rfl, rfl⟩
                go_wp2_with fail
                refine (bit_is y q hq bY Hby _).mono ?_
                rintro e w' ⟨rfl, rfl⟩
                go_wp2_with fail
                refine (CP.out _ rfl).mono ?_
                rintro e w' ⟨rfl, rfl⟩
                go_wp2_with fail
                refine (bit_is z q hq bz Hbz _).mono ?_
                rintro e w' ⟨rfl, rfl⟩
                go_wp2_with fail
                go_roundw
                case rel =>
                  refine ⟨q + 1, by omega, by go_num, ?_⟩
                  rw [Hval.out, HPN.out]
                  exact ⟨Hst.out, Hbst.out⟩
                case measure => simp [intOf]; omega
              · have t3 : (bz == 1) = false := by simpa using hbz1
                have HN : Hid (part y (tornByte x y z) (q + 1) = part y (tornByte x y z) q) := torn_no_part hq (.inr (.inr (by rw [hbz]; exact hbz1)))
                have Hst := Lib.hid hown
                have Hbst := Lib.hid hbel
                clear hown hbel hbx hby hbz hz2 h1 h2 h3 hbz1 hby0 hbx1
                go_wp2_with fail
                refine (bit_is x q hq bx Hbx _).mono ?_
                rintro e w' ⟨rfl, rfl⟩
                go_wp2_with fail
                refine (bit_is y q hq bY Hby _).mono ?_
                rintro e w' ⟨rfl, rfl⟩
                go_wp2_with fail
                refine (CP.out _ rfl).mono ?_
                rintro e w' ⟨rfl, rfl⟩
                go_wp2_with fail
                refine (bit_is z q hq bz Hbz _).mono ?_
                rintro e w' ⟨rfl, rfl⟩
                go_wp2_with fail
                go_roundw
                case rel => exact ⟨q + 1, by omega, by go_num, by rw [HN.out]; exact Hst.out, Hbst.out⟩
                case measure => simp [intOf]; omega
            · have t2 : (bY == 0) = false := by simpa using hby0
              have HN : Hid (part y (tornByte x y z) (q + 1) = part y (tornByte x y z) q) := torn_no_part hq (.inr (.inl (by rw [hby]; exact hby0)))
              have Hst := Lib.hid hown
              have Hbst := Lib.hid hbel
              clear hown hbel hbx hby hbz hz2 h1 h2 h3 hby0 hbx1
              go_wp2_with fail
              refine (bit_is x q hq bx Hbx _).mono ?_
              rintro e w' ⟨rfl, rfl⟩
              go_wp2_with fail
              refine (bit_is y q hq bY Hby _).mono ?_
              rintro e w' ⟨rfl, rfl⟩
              go_wp2_with fail
              go_roundw
              case rel => exact ⟨q + 1, by omega, by go_num, by rw [HN.out]; exact Hst.out, Hbst.out⟩
              case measure => simp [intOf]; omega
          · have t1 : (bx == 1) = false := by simpa using hbx1
            have HN : Hid (part y (tornByte x y z) (q + 1) = part y (tornByte x y z) q) := torn_no_part hq (.inl (by rw [hbx]; exact hbx1))
            have Hst := Lib.hid hown
            have Hbst := Lib.hid hbel
            clear hown hbel hbx hby hbz hz2 h1 h2 h3 hbx1
            go_wp2_with fail
            refine (bit_is x q hq bx Hbx _).mono ?_
            rintro e w' ⟨rfl, rfl⟩
            go_wp2_with fail
            go_roundw
            case rel => exact ⟨q + 1, by omega, by go_num, by rw [HN.out]; exact Hst.out, Hbst.out⟩
            case measure => simp [intOf]; omega
        · obtain rfl : q = 8 := by omega
          have Hst : Hid (Ob 5 wr w.heap.size (.slice A m.length c) (tornTo l m p (k + 1))) := Lib.hid (by
            rw [part_eight Hsub.out, ← Hx.out, ← Hy.out, ← Hz.out, tornTo_step hltm] at hown; exact hown)
          clear hown
          go_wp2_with fail
          go_roundw
          case rel => exact ⟨k + 1, by omega, by go_num, Hst.out, hbel⟩
          case measure => simp [intOf]; omega
    · have Hown : Hid (Ob 5 wo w.heap.size (.slice A m.length c) (tornB l m p)) := Lib.hid (by rw [← tornTo_end (k := k) (by have := Hlen.out; omega)]; exact hown)
      clear hown
      go_wp2_with fail
      go_ret
      exact ⟨_, rfl, Hown.out, hbel⟩

theorem rtorn_no (A1 A2 A3 : Option Addr) (l m p : List UInt8) (c1 c2 c3 : Nat) (w : World) (Hc : Hid (canB l m = false)) (h1 : Bs w A1 l) (h2 : Bs w A2 m) (hl : l.length ≤ 2147483648) :
    Calls Try.prog 75 #[.slice A1 l.length c1, .slice A2 m.length c2, .slice A3 p.length c3] w (RetOb 5 w []) := by
  go_enter Try.func75, Try.ntmps75
  go_wp2_with fail
  refine (rcan_is Hc h1 h2 hl).mono ?_
  rintro e w' ⟨rfl, n, rfl⟩
  go_wp2_with fail
  go_ret
  exact ⟨_, rfl, Ob.nil_ _ _ _, below_drewN' (Below.refl _ _) n⟩

theorem rtorn_any (A1 A2 A3 : Option Addr) (l m p : List UInt8) (c1 c2 c3 : Nat) (w : World) (h1 : Bs w A1 l) (h2 : Bs w A2 m) (h3 : Bs w A3 p)
    (hl : l.length ≤ 2147483648) (hm : m.length ≤ 2147483648) (hp : p.length ≤ 2147483648) :
    Calls Try.prog 75 #[.slice A1 l.length c1, .slice A2 m.length c2, .slice A3 p.length c3] w (RetOb 5 w (if canB l m then tornB l m p else [])) := by
  by_cases hc : canB l m = true
  · rw [if_pos hc]; exact rtorn_yes A1 A2 A3 l m p c1 c2 c3 w hc h1 h2 h3 hl hm hp
  · rw [if_neg hc]; exact rtorn_no A1 A2 A3 l m p c1 c2 c3 w (show canB l m = false by simpa using hc) h1 h2 hl

section
variable {w W : World} {A1 A2 A3 : Option Addr} {l m p : List UInt8} {n1 n2 n3 c1 c2 c3 : Nat}

theorem rtorn_in (hb : Below w.heap.size w W) (h1 : Bs W A1 l) (h2 : Bs W A2 m) (h3 : Bs W A3 p) (e1 : n1 = l.length) (e2 : n2 = m.length) (e3 : n3 = p.length) (hl : n1 ≤ 65536) (hm : n2 ≤ 65536) (hp : n3 ≤ 65536) :
    Calls Try.prog 75 #[.slice A1 n1 c1, .slice A2 n2 c2, .slice A3 n3 c3] W (RetIn 5 w (if canB l m then tornB l m p else [])) := by
  subst e1
  subst e2
  subst e3
  exact (rtorn_any A1 A2 A3 l m p c1 c2 c3 W h1 h2 h3 (by omega) (by omega) (by omega)).mono (retIn_of hb)

theorem rtorn_r {r : List UInt8} (hb : Below w.heap.size w W) (hr : Hid ((if canB l m then tornB l m p else []) = r)) (h1 : Bs W A1 l) (h2 : Bs W A2 m) (h3 : Bs W A3 p) (e1 : n1 = l.length) (e2 : n2 = m.length) (e3 : n3 = p.length) (hl : n1 ≤ 65536) (hm : n2 ≤ 65536) (hp : n3 ≤ 65536) :
    Calls Try.prog 75 #[.slice A1 n1 c1, .slice A2 n2 c2, .slice A3 n3 c3] W (RetIn 5 w r) := by
  rw [← hr.out]; exact rtorn_in hb h1 h2 h3 e1 e2 e3 hl hm hp
end
end Go.Proofs.Ytcpkmhhlcmnfdaa

