/- The contracts of nor.Blank and nor.IsBlank. -/
import Derived.Test.YtlbododoooibbaaClone
import Derived.WalkLawsBesides
import Derived.Deep.DeepCutAuto
namespace Go.Proofs.Ytlbododoooibbaa
open Go.RowKit
set_option linter.unusedVariables false

theorem make_bytes (k : Nat) (hk : k ≤ 2147483648) (u : World) : (Instr.makeSlice 22 (.int .i64 (k : Int)) (.int .i64 (k : Int))).run Try.prog u =
      .ok (.slice (some ⟨u.heap.size, 0, none⟩) k k) (u.alloc (.cells (madeCells #[.int .u8 0] k) 5)) := by
  obtain ⟨i0, hi, hz0, hz1, hz2⟩ := info_parts info5
  have h := run_make (P := Try.prog) u 22 5 i0 (.int .u8 0) Try.underlying22 hi hz0 .i64 .i64 (k : Int) (k : Int) (by omega) (Int.le_refl _) (by rw [hz2]; omega) (by omega)
  simpa [hz1, Value.cells] using h

theorem own_made (w : World) (k : Nat) (E : TypeId) (hk : k ≤ 2147483648) : Ob E (w.alloc (.cells (madeCells #[.int .u8 0] k) E)) w.heap.size (.slice (some ⟨w.heap.size, 0, none⟩) k k) (List.replicate k 0) := by
  have h := World.ownsRow_lit (base := w.heap.size) (e := E) (size := 1) w (madeCells #[.int .u8 0] k) k (Nat.le_refl _) (by unfold maxLen; omega) (by simp [size_madeCells])
  unfold Ob
  rw [toList_madeCells_one] at h
  simpa [List.map_replicate, bval] using h

def BlankCut (w : World) (n : Int) (s3 : Value) (w1 : World) : Prop := ∃ K : Nat, (K : Int) = max 0 (min n 65536) ∧ s3 = .slice (some ⟨w.heap.size, 0, none⟩) K K ∧ w1 = w.alloc (.cells (madeCells #[.int .u8 0] K) 5)

def BlankPost (w : World) (n : Int) (e : Ending) (w' : World) : Prop :=
  ∃ v, e = .returned v ∧ Ob 5 w' w.heap.size v (List.replicate (max 0 (min n 65536)).toNat 255) ∧ Below w.heap.size w w'

theorem replicate_step (K k : Nat) (hk : k < K) : (List.replicate k (255 : UInt8) ++ List.replicate (K - k) 0).set k 255 = List.replicate (k + 1) 255 ++ List.replicate (K - (k + 1)) 0 := by
  rw [List.set_append, if_neg (by simp)]
  have : K - k = (K - (k + 1)) + 1 := by omega
  rw [this, List.replicate_succ (n := K - (k + 1)), List.length_replicate, Nat.sub_self, List.set_cons_zero, List.replicate_succ']
  simp

set_option maxHeartbeats 400000 in
theorem blank_any (n : Int) (w : World) (hn1 : -9223372036854775808 ≤ n) (hn2 : n ≤ 9223372036854775807) :
    Calls Try.prog 10 #[.int .i64 n] w (BlankPost w n) := by
  have mk0 : ∀ u : World, (Instr.makeSlice 22 (.int .i64 0) (.int .i64 0)).run Try.prog u = _ := fun u => make_bytes 0 (by omega) u
  have mk1 : ∀ u : World, (Instr.makeSlice 22 (.int .i64 65536) (.int .i64 65536)).run Try.prog u = _ := fun u => make_bytes 65536 (by omega) u
  have mk2 : 0 < n → n ≤ 65536 → ∀ u : World, (Instr.makeSlice 22 (.int .i64 n) (.int .i64 n)).run Try.prog u = .ok (.slice (some ⟨u.heap.size, 0, none⟩) n.toNat n.toNat) (u.alloc (.cells (madeCells #[.int .u8 0] n.toNat) 5)) := fun h1 h2 u => by
    obtain ⟨k, rfl⟩ := Int.eq_ofNat_of_zero_le (Int.le_of_lt h1)
    exact make_bytes k (by omega) u
  go_enter Try.func10, Try.ntmps10
  go_upto_region 1 with fail
  go_cut [3] (BlankCut w n)
  case first =>
    go_wp2_with fail
    all_goals go_meet
    · exact ⟨65536, by omega, rfl, rfl⟩
    · exact ⟨n.toNat, by omega, rfl, rfl⟩
    · exact ⟨0, by omega, rfl, rfl⟩
  case rest =>
    obtain ⟨K, hK, rfl, rfl⟩ := hcut
    have hK2 : K ≤ 65536 := by omega
    have Hpost : Hid (∀ w', Ob 5 w' w.heap.size (.slice (some ⟨w.heap.size, 0, none⟩) K K) (List.replicate K 255) → Below w.heap.size w w' → BlankPost w n (.returned (.slice (some ⟨w.heap.size, 0, none⟩) K K)) w') := Lib.hid (fun w' ho hb => ⟨_, rfl, by
      rw [← hK, Int.toNat_natCast]; exact ho, hb⟩)
    clear hK mk0 mk1 mk2
    go_wp2_with fail
    go_loopw [11] (fun i wr => ∃ k : Nat, k ≤ K ∧ i = .int .i64 k ∧ Ob 5 wr w.heap.size (.slice (some ⟨w.heap.size, 0, none⟩) K K) (List.replicate k 255 ++ List.replicate (K - k) 0) ∧ Below w.heap.size w wr) (fun i _ => K - (intOf i).toNat)
    case atStart => exact ⟨0, Nat.zero_le _, rfl, own_made w K _ (by omega), (Below.refl _ _).alloc (Nat.le_refl _) _⟩
    case round =>
      obtain ⟨k, hk, rfl, hown, hbel⟩ := hrel
      by_cases hlt : k < K
      · obtain ⟨b1, o1, e1, hc1⟩ := hown.bs.at_ (k := k) (by simp; omega)
        injection e1 with e1
        injection e1 with e1 e2
        subst e1
        subst e2
        have hfr : wr.frozen? ⟨w.heap.size, k, none⟩ = false := hown.frozen k
        rw [Nat.zero_add] at hc1
        have hst := hown.set_ k 255
        rw [replicate_step K k hlt] at hst
        have hbst : Below w.heap.size w (wr.setCell ⟨w.heap.size, k, none⟩ (bval 255)) := hbel.setCell (Nat.le_refl _) _
        have Hst := Lib.hid hst
        have Hbst := Lib.hid hbst
        clear hst hbst
        go_wp2
        go_roundw
        case rel => exact ⟨k + 1, by omega, by go_num, Hst.out, Hbst.out⟩
        case measure => simp [intOf]; omega
      · obtain rfl : k = K := by omega
        go_wp2
        go_ret
        exact Hpost.out _ (by simpa using hown) hbel

theorem isBlank_any (A : Option Addr) (l : List UInt8) (c : Nat) (w : World) (h : Bs w A l) (hl : l.length ≤ 2147483648) :
    Calls Try.prog 12 #[.slice A l.length c] w fun e w' => e = .returned (.bool (l.all (· == 255))) ∧ w = w' := by
  go_enter Try.func12, Try.ntmps12
  go_wp2
  go_loop [7] (fun i => ∃ k : Nat, k ≤ l.length ∧ i = .int .i64 k ∧ ∀ j, j < k → l.getD j 0 = 255) (fun i => l.length - (intOf i).toNat)
  case atStart => exact ⟨0, Nat.zero_le _, rfl, fun j hj => absurd hj (by omega)⟩
  case round =>
    obtain ⟨k, hk, rfl, hj0⟩ := hrel
    have HJ := Lib.hid hj0
    clear hj0
    by_cases hlt : k < l.length
    · obtain ⟨b1, o1, rfl, hc1⟩ := h.at_ hlt
      obtain ⟨x, hx⟩ : ∃ x, l.getD k 0 = x := ⟨_, rfl⟩
      rw [hx] at hc1
      have Hx := Lib.hid hx
      clear hx
      by_cases hz : x = 255
      · have hb2 : ((x.toNat : Int) != 255) = false := by subst hz; rfl
        have Hz := Lib.hid hz
        clear hz
        go_wp2
        go_round
        case rel =>
          refine ⟨k + 1, by omega, by go_num, fun j hj => ?_⟩
          by_cases e : j = k
          · subst e; rw [Hx.out]; exact Hz.out
          · exact HJ.out j (by omega)
        case measure => simp [intOf]; omega
      · have hb2 : ((x.toNat : Int) != 255) = true := by
          simp
          intro h'
          exact hz (UInt8.toNat_inj.1 (by simpa using (by omega : x.toNat = 255)))
        have Hf : Hid (l.all (· == 255) = false) := Lib.hid (by
          rw [List.all_eq_false]
          exact ⟨l[k], List.getElem_mem hlt, by rw [← Hx.out] at hz; simpa [List.getD, List.getElem?_eq_getElem hlt] using hz⟩)
        clear hz
        go_wp2
        go_ret
        exact ⟨by rw [Hf.out]; rfl, rfl⟩
    · have Hf : Hid (l.all (· == 255) = true) := Lib.hid (by
        rw [List.all_eq_true]
        intro x hx
        obtain ⟨i, hi, rfl⟩ := List.getElem_of_mem hx
        have := HJ.out i (by omega)
        simpa [List.getD, List.getElem?_eq_getElem hi] using this)
      go_wp2
      go_ret
      exact ⟨by rw [Hf.out]; rfl, rfl⟩
end Go.Proofs.Ytlbododoooibbaa
