/- The contract of bytes.Clone. The contract of nor.Can. The contract of nor.Blank. The contract of nor.IsBlank. The contract of nor.Program. The contract of nor.Between. The contract of nor.Risen. The contract of nor.Half. The contract of nor.Torn. -/
import Derived.Test.YtddalnmoahpljaaGbase
namespace Go.Proofs.Ytddalnmoahpljaa
open Go.RowKit
set_option linter.unusedVariables false
set_option maxRecDepth 100000

set_option maxHeartbeats 400000 in
theorem clone_any (A : Option Addr) (l : List UInt8) (c : Nat) (w : World) (h : Bs w A l) (hl : l.length ≤ 2147483648) :
    Calls Try.prog 24 #[.slice A l.length c] w fun e w' => ∃ v, e = .returned v ∧ Ob 5 w' w.heap.size v l ∧ Below w.heap.size w w' := by
  have hq : ∀ (w : World) (a : Option Addr) (n c n' c' : Nat), (binOp .eql 22 (.slice a n c) (.slice none n' c')).run Try.prog w = .ok (.bool a.isNone) w := fun w a n c n' c' => Lib.run_eql_slice_nil w _ _ a n c n' c' Try.underlying22
  rcases A with _ | a
  · have h0 : l.length = 0 := by
      rcases Nat.eq_zero_or_pos l.length with h' | h'
      · exact h'
      · obtain ⟨b, o, e', _⟩ := h h'; cases e'
    have : l = [] := List.eq_nil_of_length_eq_zero h0
    subst this
    go_enter Try.func24, Try.ntmps24
    go_wp2
    go_ret
    exact ⟨_, rfl, Ob.nil_ _ _ _, Below.refl _ _⟩
  · go_enter Try.func24, Try.ntmps24
    go_wp2_with (at_builtin; refine wpList_append_bs rfl (.tmp 5) (.tmp 6) 22 rfl w.heap.size 5 Try.underlying22 info5 _ [] rfl (World.ownsRow_lit w #[] 0 (Nat.le_refl _) (by simp) (by simp)) (some a) l _ c rfl rfl (h.below ((Below.refl _ _).alloc (Nat.le_refl _) _)) (by simp; omega) (by simp) ?_)
    intro v' w' h1 h2
    have hb : Below w.heap.size w w' := ((Below.refl _ _).alloc (Nat.le_refl _) _).grown h2 (by simp) (by intro k hk; simp [Value.ownBlock] at hk; omega)
    go_wp2
    go_ret
    exact ⟨_, rfl, h1, hb⟩
end Go.Proofs.Ytddalnmoahpljaa

namespace Go.Proofs.Ytddalnmoahpljaa
open Go.RowKit
set_option linter.unusedVariables false
set_option maxRecDepth 100000

set_option maxHeartbeats 400000 in
theorem can_any (A1 A2 : Option Addr) (l m : List UInt8) (c1 c2 : Nat) (w : World) (h1 : Bs w A1 l) (h2 : Bs w A2 m) (hl : l.length ≤ 2147483648) :
    Calls Try.prog 32 #[.slice A1 l.length c1, .slice A2 m.length c2] w fun e w' => e = .returned (.bool (canB l m)) ∧ ∃ n, w' = w.drewN n := by
  by_cases hlen : l.length = m.length
  · have Hlen := Lib.hid hlen
    have hb1 : ((l.length : Int) != (m.length : Int)) = false := by simp [hlen]
    clear hlen
    go_enter Try.func32, Try.ntmps32
    go_wp2
    go_loopw [13] (fun i wr => ∃ k nd : Nat, k ≤ l.length ∧ i = .int .i64 k ∧ wr = w.drewN nd ∧ ∀ j, j < k → m.getD j 0 &&& ~~~(l.getD j 0) = 0) (fun i _ => l.length - (intOf i).toNat)
    case atStart => exact ⟨0, 0, Nat.zero_le _, rfl, rfl, fun j hj => absurd hj (by omega)⟩
    case round =>
      obtain ⟨k, nd, hk, rfl, rfl, hj0⟩ := hrel
      have HJ := Lib.hid hj0
      clear hj0
      by_cases hlt : k < l.length
      · have hlt2 : k < m.length := by rw [← Hlen.out]; exact hlt
        obtain ⟨b1, o1, rfl, hc1⟩ := h1.at_ hlt
        obtain ⟨b2, o2, rfl, hc2⟩ := h2.at_ hlt2
        obtain ⟨x, hx⟩ : ∃ x, l.getD k 0 = x := ⟨_, rfl⟩
        obtain ⟨y, hy⟩ : ∃ y, m.getD k 0 = y := ⟨_, rfl⟩
        rw [hx] at hc1
        rw [hy] at hc2
        have hand := u8_andNot' y x
        have Hx := Lib.hid hx
        have Hy := Lib.hid hy
        clear hx hy
        by_cases hz : y &&& ~~~x = 0
        · have hb2 : (bits BinOp.andNot IntKind.u8 ↑y.toNat ↑x.toNat != 0) = false := by rw [hand, u8_zero, hz]; rfl
          have Hz := Lib.hid hz
          have Hand := Lib.hid hand
          clear hz hand
          go_wp2
          go_quiet (fail)
          go_wp2
          go_roundw
          case rel =>
            refine ⟨k + 1, _, by omega, by go_num, rfl, fun j hj => ?_⟩
            by_cases e : j = k
            · subst e; rw [Hx.out, Hy.out]; exact Hz.out
            · exact HJ.out j (by omega)
          case measure => simp [intOf]; omega
        · have hb2 : (bits BinOp.andNot IntKind.u8 ↑y.toNat ↑x.toNat != 0) = true := by rw [hand, u8_zero]; simpa using hz
          have Hf : Hid (canB l m = false) := Lib.hid (canB_false (l := l) (m := m) hlt (by rw [Hx.out, Hy.out]; exact hz))
          clear hz hand
          go_wp2
          go_quiet (fail)
          go_wp2
          go_ret
          exact ⟨by rw [Hf.out]; rfl, _, World.drewN_drewN _ _ _⟩
      · have Hf : Hid (canB l m = true) := Lib.hid (canB_true Hlen.out (fun i hi => HJ.out i (by omega)))
        go_wp2
        go_ret
        exact ⟨by rw [Hf.out]; rfl, _, rfl⟩
  · have Hf : Hid (canB l m = false) := Lib.hid (canB_len hlen)
    have hb1 : ((l.length : Int) != (m.length : Int)) = true := by simp; omega
    go_enter Try.func32, Try.ntmps32
    go_wp2
    go_ret
    exact ⟨by rw [Hf.out]; rfl, 0, rfl⟩

theorem can_is {A1 A2 : Option Addr} {l m : List UInt8} {c1 c2 : Nat} {w : World} {b : Bool} (hb : Hid (canB l m = b)) (h1 : Bs w A1 l) (h2 : Bs w A2 m) (hl : l.length ≤ 2147483648) :
    Calls Try.prog 32 #[.slice A1 l.length c1, .slice A2 m.length c2] w fun e w' => e = .returned (.bool b) ∧ ∃ n, w' = w.drewN n :=
  (can_any A1 A2 l m c1 c2 w h1 h2 hl).mono fun _ _ ⟨he, hw⟩ => ⟨by rw [he, hb.out], hw⟩

section
variable {w W : World} {A1 A2 A3 : Option Addr} {l m p : List UInt8} {n1 n2 n3 c1 c2 c3 : Nat}

theorem can_in {b : Bool} (hb : Below w.heap.size w W) (H : Hid (canB l m = b)) (h1 : Bs W A1 l) (h2 : Bs W A2 m) (e1 : n1 = l.length) (e2 : n2 = m.length) (hl : n1 ≤ 65536) :
    Calls Try.prog 32 #[.slice A1 n1 c1, .slice A2 n2 c2] W (BoolIn w b) := by
  subst e1
  subst e2
  exact (can_is H h1 h2 (by omega)).mono fun e w' ⟨he, n, hw⟩ => boolIn_of hb e w' ⟨he, n, hw⟩
end
end Go.Proofs.Ytddalnmoahpljaa

namespace Go.Proofs.Ytddalnmoahpljaa
open Go.RowKit
set_option linter.unusedVariables false
set_option maxRecDepth 100000

def BlankCut (w : World) (n : Int) (s3 : Value) (w1 : World) : Prop := ∃ K : Nat, (K : Int) = max 0 (min n 65536) ∧ s3 = .slice (some ⟨w.heap.size, 0, none⟩) K K ∧ w1 = w.alloc (.cells (madeCells #[.int .u8 0] K) 5)

set_option maxHeartbeats 400000 in
theorem blank_any (n : Int) (w : World) (hn1 : -9223372036854775808 ≤ n) (hn2 : n ≤ 9223372036854775807) :
    Calls Try.prog 22 #[.int .i64 n] w (BlankPost w n) := by
  have mk0 : ∀ u : World, (Instr.makeSlice 22 (.int .i64 0) (.int .i64 0)).run Try.prog u = _ := fun u => make_bytes 0 (by omega) u
  have mk1 : ∀ u : World, (Instr.makeSlice 22 (.int .i64 65536) (.int .i64 65536)).run Try.prog u = _ := fun u => make_bytes 65536 (by omega) u
  have mk2 : 0 < n → n ≤ 65536 → ∀ u : World, (Instr.makeSlice 22 (.int .i64 n) (.int .i64 n)).run Try.prog u = .ok (.slice (some ⟨u.heap.size, 0, none⟩) n.toNat n.toNat) (u.alloc (.cells (madeCells #[.int .u8 0] n.toNat) 5)) := fun h1 h2 u => by
    obtain ⟨k, rfl⟩ := Int.eq_ofNat_of_zero_le (Int.le_of_lt h1)
    exact make_bytes k (by omega) u
  go_enter Try.func22, Try.ntmps22
  go_upto_region 1 with fail
  go_cut [3] (BlankCut w n)
  case first =>
    go_wp2_with fail
    all_goals go_meet
    · exact ⟨65536, by omega, rfl, rfl⟩
    · exact ⟨n.toNat, by omega, rfl, rfl⟩
    · exact ⟨0, by omega, rfl, rfl⟩
  case rest =>
    obtain ⟨K, hK, rfl, rfl⟩ := hcut
    have hK2 : K ≤ 65536 := by omega
    have Hpost : Hid (∀ w', Ob 5 w' w.heap.size (.slice (some ⟨w.heap.size, 0, none⟩) K K) (List.replicate K 255) → Below w.heap.size w w' → BlankPost w n (.returned (.slice (some ⟨w.heap.size, 0, none⟩) K K)) w') := Lib.hid (fun w' ho hb => ⟨_, rfl, by
      rw [← hK, Int.toNat_natCast]; exact ho, hb⟩)
    clear hK mk0 mk1 mk2
    go_wp2_with fail
    go_loopw [11] (fun i wr => ∃ k : Nat, k ≤ K ∧ i = .int .i64 k ∧ Ob 5 wr w.heap.size (.slice (some ⟨w.heap.size, 0, none⟩) K K) (List.replicate k 255 ++ List.replicate (K - k) 0) ∧ Below w.heap.size w wr) (fun i _ => K - (intOf i).toNat)
    case atStart => exact ⟨0, Nat.zero_le _, rfl, own_made w K _ (by omega), (Below.refl _ _).alloc (Nat.le_refl _) _⟩
    case round =>
      obtain ⟨k, hk, rfl, hown, hbel⟩ := hrel
      by_cases hlt : k < K
      · obtain ⟨b1, o1, e1, hc1⟩ := hown.bs.at_ (k := k) (by simp; omega)
        injection e1 with e1
        injection e1 with e1 e2
        subst e1
        subst e2
        have hfr : wr.frozen? ⟨w.heap.size, k, none⟩ = false := hown.frozen k
        rw [Nat.zero_add] at hc1
        have hst := hown.set_ k 255
        rw [replicate_step K k hlt] at hst
        have hbst : Below w.heap.size w (wr.setCell ⟨w.heap.size, k, none⟩ (bval 255)) := hbel.setCell (Nat.le_refl _) _
        have Hst := Lib.hid hst
        have Hbst := Lib.hid hbst
        clear hst hbst
        go_wp2
        go_roundw
        case rel => exact ⟨k + 1, by omega, by go_num, Hst.out, Hbst.out⟩
        case measure => simp [intOf]; omega
      · obtain rfl : k = K := by omega
        go_wp2
        go_ret
        exact Hpost.out _ (by simpa using hown) hbel

section
variable {w W : World} {A1 A2 A3 : Option Addr} {l m p : List UInt8} {n1 n2 n3 c1 c2 c3 : Nat}

theorem blank_in (hb : Below w.heap.size w W) {n : Int} {k : Nat} (hn : n = (k : Int)) (hk : k ≤ 65536) :
    Calls Try.prog 22 #[.int .i64 n] W (RetIn 5 w (List.replicate k 255)) := by
  subst hn
  refine (blank_any (k : Int) W (by omega) (by omega)).mono fun e w' ⟨v, he, ho, hw⟩ => ?_
  have : (max 0 (min (k : Int) 65536)).toNat = k := by omega
  rw [this] at ho
  exact retIn_of hb e w' ⟨v, he, ho, hw⟩

theorem blankN_in {n : Int} {K : Nat} (hb : Below w.heap.size w W) (hK : Hid (K = (max 0 (min n 65536)).toNat)) (hn1 : -9223372036854775808 ≤ n) (hn2 : n ≤ 9223372036854775807) :
    Calls Try.prog 22 #[.int .i64 n] W (RetIn 5 w (List.replicate K 255)) :=
  (blank_any n W hn1 hn2).mono (blankPost_in hb hK)
end
end Go.Proofs.Ytddalnmoahpljaa

namespace Go.Proofs.Ytddalnmoahpljaa
open Go.RowKit
set_option linter.unusedVariables false
set_option maxRecDepth 100000

section
variable {w W : World} {A1 A2 A3 : Option Addr} {l m p : List UInt8} {n1 n2 n3 c1 c2 c3 : Nat}

end
end Go.Proofs.Ytddalnmoahpljaa

namespace Go.Proofs.Ytddalnmoahpljaa
open Go.RowKit
set_option linter.unusedVariables false
set_option maxRecDepth 100000

section
variable {w W : World} {A1 A2 A3 : Option Addr} {l m p : List UInt8} {n1 n2 n3 c1 c2 c3 : Nat}

end
end Go.Proofs.Ytddalnmoahpljaa

namespace Go.Proofs.Ytddalnmoahpljaa
open Go.RowKit
set_option linter.unusedVariables false
set_option maxRecDepth 100000

section
variable {w W : World} {A1 A2 A3 : Option Addr} {l m p : List UInt8} {n1 n2 n3 c1 c2 c3 : Nat}

end
end Go.Proofs.Ytddalnmoahpljaa

namespace Go.Proofs.Ytddalnmoahpljaa
open Go.RowKit
set_option linter.unusedVariables false
set_option maxRecDepth 100000

section
variable {w W : World} {A1 A2 A3 : Option Addr} {l m p : List UInt8} {n1 n2 n3 c1 c2 c3 : Nat}

end
end Go.Proofs.Ytddalnmoahpljaa

namespace Go.Proofs.Ytddalnmoahpljaa
open Go.RowKit
set_option linter.unusedVariables false
set_option maxRecDepth 100000

section
variable {w W : World} {A1 A2 A3 : Option Addr} {l m p : List UInt8} {n1 n2 n3 c1 c2 c3 : Nat}

end
end Go.Proofs.Ytddalnmoahpljaa

namespace Go.Proofs.Ytddalnmoahpljaa
open Go.RowKit
set_option linter.unusedVariables false
set_option maxRecDepth 100000

set_option maxHeartbeats 1600000 in
theorem torn_yes (A1 A2 A3 : Option Addr) (l m p : List UInt8) (c1 c2 c3 : Nat) (w : World) (Hc : Hid (canB l m = true)) (h1 : Bs w A1 l) (h2 : Bs w A2 m) (h3 : Bs w A3 p)
    (hl : l.length ≤ 2147483648) (hm : m.length ≤ 2147483648) (hp : p.length ≤ 2147483648) :
    Calls Try.prog 21 #[.slice A1 l.length c1, .slice A2 m.length c2, .slice A3 p.length c3] w (RetOb 5 w (tornB l m p)) := by
  have Hlen : Hid (l.length = m.length) := Lib.hid (canB_iff.1 Hc.out).1
  go_enter Try.func21, Try.ntmps21
  go_wp2_with fail
  refine (can_is Hc h1 h2 hl).mono ?_
  rintro e w' ⟨rfl, n0, rfl⟩
  go_wp2_with fail
  refine (clone_any A2 m c2 _ (h2.drewN n0) hm).mono ?_
  rintro e w1 ⟨v, rfl, ho, hb0⟩
  have hb : Below w.heap.size w w1 := below_of_drewN hb0
  clear hb0
  obtain ⟨A, c, rfl, -, hfo⟩ := ho.form
  go_upto_region 4 with fail
  go_cut [19, 20] (MinCut m.length p.length w1)
  case first =>
    go_wp2_with fail
    all_goals go_meet
    · exact ⟨p.length, by omega, by omega, .inr (Nat.le_refl _), rfl, rfl, rfl⟩
    · exact ⟨m.length, by omega, by omega, .inl (Nat.le_refl _), rfl, rfl, rfl⟩
  case rest =>
    obtain ⟨K, hKm, hKp, hKe, rfl, rfl, rfl⟩ := hcut
    go_wp2_with fail
    go_loopw [20] (fun i wr => ∃ k : Nat, k ≤ K ∧ i = .int .i64 k ∧ Ob 5 wr w.heap.size (.slice A m.length c) (tornTo l m p k) ∧ Below w.heap.size w wr) (fun i _ => K - (intOf i).toNat)
    case atStart => exact ⟨0, Nat.zero_le _, rfl, by rw [tornTo_zero]; exact ho, hb⟩
    case round =>
      obtain ⟨k, hk, rfl, hown, hbel⟩ := hrel
      by_cases hlt : k < K
      · obtain ⟨b1, o1, e1, hc1⟩ := hown.bs.at_ (k := k) (by rw [tornTo_len]; omega)
        rcases hfo with rfl | ⟨g, rfl, hg, -⟩
        · cases e1
        injection e1 with e1
        injection e1 with e1 e2
        subst e1
        subst e2
        have hkl : k < l.length := by have := Hlen.out; omega
        obtain ⟨b2, o2, rfl, hc2⟩ := (h2.below hbel).at_ (k := k) (by omega)
        obtain ⟨b3, o3, rfl, hc3⟩ := (h3.below hbel).at_ (k := k) (by omega)
        obtain ⟨b4, o4, rfl, hc4⟩ := (h1.below hbel).at_ (k := k) hkl
        have hfr : wr.frozen? ⟨g, k, none⟩ = false := hown.frozen k
        rw [Nat.zero_add, tornTo_at (by omega)] at hc1
        have hst := hown.set_ k (tornByte (l.getD k 0) (m.getD k 0) (p.getD k 0))
        rw [tornTo_step (by omega)] at hst
        have hbst : Below w.heap.size w (wr.setCell ⟨g, k, none⟩ (bval (tornByte (l.getD k 0) (m.getD k 0) (p.getD k 0)))) := hbel.setCell (by simpa using hg) _
        unfold tornByte at hst hbst
        generalize l.getD k 0 = x at *
        generalize m.getD k 0 = y at *
        generalize p.getD k 0 = z at *
        have q1 := u8_andNot' x y
        generalize x &&& ~~~y = u at *
        have q2 := u8_and' u z
        generalize u &&& z = u2 at *
        have q3 := u8_or' y u2
        generalize y ||| u2 = u3 at *
        have Hst := Lib.hid hst
        have Hbst := Lib.hid hbst
        clear hst hbst hown hbel ho hb h1 h2 h3
        go_wp2_with fail
        go_region
        go_wp2_with fail
        go_roundw
        case rel => exact ⟨k + 1, by omega, by go_num, Ob.drewN Hst.out 1, below_drewN' Hbst.out 1⟩
        case measure => simp [intOf]; omega
      · have hkK : k = K := by omega
        have Hown : Hid (Ob 5 wr w.heap.size (.slice A m.length c) (tornB l m p)) := Lib.hid (by rw [← tornTo_end (k := k) (by omega)]; exact hown)
        clear hown
        go_wp2_with fail
        go_ret
        exact ⟨_, rfl, Hown.out, hbel⟩

theorem torn_no (A1 A2 A3 : Option Addr) (l m p : List UInt8) (c1 c2 c3 : Nat) (w : World) (Hc : Hid (canB l m = false)) (h1 : Bs w A1 l) (h2 : Bs w A2 m) (hl : l.length ≤ 2147483648) :
    Calls Try.prog 21 #[.slice A1 l.length c1, .slice A2 m.length c2, .slice A3 p.length c3] w (RetOb 5 w []) := by
  go_enter Try.func21, Try.ntmps21
  go_wp2_with fail
  refine (can_is Hc h1 h2 hl).mono ?_
  rintro e w' ⟨rfl, n, rfl⟩
  go_wp2_with fail
  go_ret
  exact ⟨_, rfl, Ob.nil_ _ _ _, below_drewN' (Below.refl _ _) n⟩

theorem torn_any (A1 A2 A3 : Option Addr) (l m p : List UInt8) (c1 c2 c3 : Nat) (w : World) (h1 : Bs w A1 l) (h2 : Bs w A2 m) (h3 : Bs w A3 p)
    (hl : l.length ≤ 2147483648) (hm : m.length ≤ 2147483648) (hp : p.length ≤ 2147483648) :
    Calls Try.prog 21 #[.slice A1 l.length c1, .slice A2 m.length c2, .slice A3 p.length c3] w (RetOb 5 w (if canB l m then tornB l m p else [])) := by
  by_cases hc : canB l m = true
  · rw [if_pos hc]; exact torn_yes A1 A2 A3 l m p c1 c2 c3 w hc h1 h2 h3 hl hm hp
  · rw [if_neg hc]; exact torn_no A1 A2 A3 l m p c1 c2 c3 w (show canB l m = false by simpa using hc) h1 h2 hl

section
variable {w W : World} {A1 A2 A3 : Option Addr} {l m p : List UInt8} {n1 n2 n3 c1 c2 c3 : Nat}

theorem torn_in (hb : Below w.heap.size w W) (h1 : Bs W A1 l) (h2 : Bs W A2 m) (h3 : Bs W A3 p) (e1 : n1 = l.length) (e2 : n2 = m.length) (e3 : n3 = p.length) (hl : n1 ≤ 65536) (hm : n2 ≤ 65536) (hp : n3 ≤ 65536) :
    Calls Try.prog 21 #[.slice A1 n1 c1, .slice A2 n2 c2, .slice A3 n3 c3] W (RetIn 5 w (if canB l m then tornB l m p else [])) := by
  subst e1
  subst e2
  subst e3
  exact (torn_any A1 A2 A3 l m p c1 c2 c3 W h1 h2 h3 (by omega) (by omega) (by omega)).mono (retIn_of hb)

theorem torn_r {r : List UInt8} (hb : Below w.heap.size w W) (hr : Hid ((if canB l m then tornB l m p else []) = r)) (h1 : Bs W A1 l) (h2 : Bs W A2 m) (h3 : Bs W A3 p) (e1 : n1 = l.length) (e2 : n2 = m.length) (e3 : n3 = p.length) (hl : n1 ≤ 65536) (hm : n2 ≤ 65536) (hp : n3 ≤ 65536) :
    Calls Try.prog 21 #[.slice A1 n1 c1, .slice A2 n2 c2, .slice A3 n3 c3] W (RetIn 5 w r) := by
  rw [← hr.out]; exact torn_in hb h1 h2 h3 e1 e2 e3 hl hm hp
end
end Go.Proofs.Ytddalnmoahpljaa

