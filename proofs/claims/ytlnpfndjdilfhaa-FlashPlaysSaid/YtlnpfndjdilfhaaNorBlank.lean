/- The contract of nor.Blank. -/
import Derived.Test.YtlnpfndjdilfhaaMakeBytes
namespace Go.Proofs.Ytlnpfndjdilfhaa
open Go.RowKit
set_option linter.unusedVariables false

def BlankCut (w : World) (n : Int) (s3 : Value) (w1 : World) : Prop := ∃ K : Nat, (K : Int) = max 0 (min n 65536) ∧ s3 = .slice (some ⟨w.heap.size, 0, none⟩) K K ∧ w1 = w.alloc (.cells (madeCells #[.int .u8 0] K) 5)

set_option maxHeartbeats 400000 in
theorem blank_any (n : Int) (w : World) (hn1 : -9223372036854775808 ≤ n) (hn2 : n ≤ 9223372036854775807) :
    Calls Try.prog 27 #[.int .i64 n] w (BlankPost w n) := by
  have mk0 : ∀ u : World, (Instr.makeSlice 30 (.int .i64 0) (.int .i64 0)).run Try.prog u = _ := fun u => make_bytes 0 (by omega) u
  have mk1 : ∀ u : World, (Instr.makeSlice 30 (.int .i64 65536) (.int .i64 65536)).run Try.prog u = _ := fun u => make_bytes 65536 (by omega) u
  have mk2 : 0 < n → n ≤ 65536 → ∀ u : World, (Instr.makeSlice 30 (.int .i64 n) (.int .i64 n)).run Try.prog u = .ok (.slice (some ⟨u.heap.size, 0, none⟩) n.toNat n.toNat) (u.alloc (.cells (madeCells #[.int .u8 0] n.toNat) 5)) := fun h1 h2 u => by
    obtain ⟨k, rfl⟩ := Int.eq_ofNat_of_zero_le (Int.le_of_lt h1)
    exact make_bytes k (by omega) u
  go_enter Try.func27, Try.ntmps27
  go_upto_region 1 with fail
  go_cut [3] (BlankCut w n)
  case first =>
    go_wp2_with fail
    all_goals go_meet
    · exact ⟨65536, by omega, rfl, rfl⟩
    · exact ⟨n.toNat, by omega, rfl, rfl⟩
    · exact ⟨0, by omega, rfl, rfl⟩
  case rest =>
    obtain ⟨K, hK, rfl, rfl⟩ := hcut
    have hK2 : K ≤ 65536 := by omega
    have Hpost : Hid (∀ w', Ob 5 w' w.heap.size (.slice (some ⟨w.heap.size, 0, none⟩) K K) (List.replicate K 255) → Below w.heap.size w w' → BlankPost w n (.returned (.slice (some ⟨w.heap.size, 0, none⟩) K K)) w') := Lib.hid (fun w' ho hb => ⟨_, rfl, by
      rw [← hK, Int.toNat_natCast]; exact ho, hb⟩)
    clear hK mk0 mk1 mk2
    go_wp2_with fail
    go_loopw [11] (fun i wr => ∃ k : Nat, k ≤ K ∧ i = .int .i64 k ∧ Ob 5 wr w.heap.size (.slice (some ⟨w.heap.size, 0, none⟩) K K) (List.replicate k 255 ++ List.replicate (K - k) 0) ∧ Below w.heap.size w wr) (fun i _ => K - (intOf i).toNat)
    case atStart => exact ⟨0, Nat.zero_le _, rfl, own_made w K _ (by omega), (Below.refl _ _).alloc (Nat.le_refl _) _⟩
    case round =>
      obtain ⟨k, hk, rfl, hown, hbel⟩ := hrel
      by_cases hlt : k < K
      · obtain ⟨b1, o1, e1, hc1⟩ := hown.bs.at_ (k := k) (by simp; omega)
        injection e1 with e1
        injection e1 with e1 e2
        subst e1
        subst e2
        have hfr : wr.frozen? ⟨w.heap.size, k, none⟩ = false := hown.frozen k
        rw [Nat.zero_add] at hc1
        have hst := hown.set_ k 255
        rw [replicate_step K k hlt] at hst
        have hbst : Below w.heap.size w (wr.setCell ⟨w.heap.size, k, none⟩ (bval 255)) := hbel.setCell (Nat.le_refl _) _
        have Hst := Lib.hid hst
        have Hbst := Lib.hid hbst
        clear hst hbst
        go_wp2
        go_roundw
        case rel => exact ⟨k + 1, by omega, by go_num, Hst.out, Hbst.out⟩
        case measure => simp [intOf]; omega
      · obtain rfl : k = K := by omega
        go_wp2
        go_ret
        exact Hpost.out _ (by simpa using hown) hbel

section
variable {w W : World} {A1 A2 A3 : Option Addr} {l m p : List UInt8} {n1 n2 n3 c1 c2 c3 : Nat}

theorem blank_in (hb : Below w.heap.size w W) {n : Int} {k : Nat} (hn : n = (k : Int)) (hk : k ≤ 65536) :
    Calls Try.prog 27 #[.int .i64 n] W (RetIn 5 w (List.replicate k 255)) := by
  subst hn
  refine (blank_any (k : Int) W (by omega) (by omega)).mono fun e w' ⟨v, he, ho, hw⟩ => ?_
  have : (max 0 (min (k : Int) 65536)).toNat = k := by omega
  rw [this] at ho
  exact retIn_of hb e w' ⟨v, he, ho, hw⟩

theorem blankN_in {n : Int} {K : Nat} (hb : Below w.heap.size w W) (hK : Hid (K = (max 0 (min n 65536)).toNat)) (hn1 : -9223372036854775808 ≤ n) (hn2 : n ≤ 9223372036854775807) :
    Calls Try.prog 27 #[.int .i64 n] W (RetIn 5 w (List.replicate K 255)) :=
  (blank_any n W hn1 hn2).mono (blankPost_in hb hK)
end
end Go.Proofs.Ytlnpfndjdilfhaa
