/- The contract of bootjackref1.Blank. -/
import Derived.Test.YtlnpfndjdilfhaaMakeBytes
import Derived.Test.YtlnpfndjdilfhaaRefCap
namespace Go.Proofs.Ytlnpfndjdilfhaa
open Go.RowKit
set_option linter.unusedVariables false

set_option maxHeartbeats 400000 in
theorem rblank_any (n : Int) (w : World) (hn1 : -9223372036854775808 ≤ n) (hn2 : n ≤ 9223372036854775807) :
    Calls Try.prog 29 #[.int .i64 n] w (BlankPost w n) := by
  obtain ⟨K, hK2, hK, hcap⟩ := cap_is n
  have mk : ∀ u : World, (Instr.makeSlice 30 (.int .i64 (K : Int)) (.int .i64 (K : Int))).run Try.prog u = _ := fun u => make_bytes K (by omega) u
  have Hcap := Lib.hid hcap
  have Hpost : Hid (∀ w', Ob 5 w' w.heap.size (.slice (some ⟨w.heap.size, 0, none⟩) K K) (List.replicate K 255) → Below w.heap.size w w' → BlankPost w n (.returned (.slice (some ⟨w.heap.size, 0, none⟩) K K)) w') := Lib.hid (fun w' ho hb => ⟨_, rfl, by
      rw [← hK, Int.toNat_natCast]; exact ho, hb⟩)
  clear hcap hK
  go_enter Try.func29, Try.ntmps29
  go_wp2_with fail
  refine (cap_at n K _ Hcap.out).mono ?_
  rintro e w' ⟨rfl, rfl⟩
  go_wp2_with fail
  go_loopw [4] (fun i wr => ∃ k : Nat, k ≤ K ∧ i = .int .i64 k ∧ Ob 5 wr w.heap.size (.slice (some ⟨w.heap.size, 0, none⟩) K K) (List.replicate k 255 ++ List.replicate (K - k) 0) ∧ Below w.heap.size w wr) (fun i _ => K - (intOf i).toNat)
  case atStart => exact ⟨0, Nat.zero_le _, rfl, own_made w K _ (by omega), (Below.refl _ _).alloc (Nat.le_refl _) _⟩
  case round =>
    obtain ⟨k, hk, rfl, hown, hbel⟩ := hrel
    by_cases hlt : k < K
    · obtain ⟨b1, o1, e1, hc1⟩ := hown.bs.at_ (k := k) (by simp; omega)
      injection e1 with e1
      injection e1 with e1 e2
      subst e1
      subst e2
      have hfr : wr.frozen? ⟨w.heap.size, k, none⟩ = false := hown.frozen k
      rw [Nat.zero_add] at hc1
      have hst := hown.set_ k 255
      rw [replicate_step K k hlt] at hst
      have hbst : Below w.heap.size w (wr.setCell ⟨w.heap.size, k, none⟩ (bval 255)) := hbel.setCell (Nat.le_refl _) _
      have Hst := Lib.hid hst
      have Hbst := Lib.hid hbst
      clear hst hbst
      go_wp2
      go_roundw
      case rel => exact ⟨k + 1, by omega, by go_num, Hst.out, Hbst.out⟩
      case measure => simp [intOf]; omega
    · obtain rfl : k = K := by omega
      have Hown : Hid (Ob 5 wr w.heap.size (.slice (some ⟨w.heap.size, 0, none⟩) k k) (List.replicate k 255)) := Lib.hid (by simpa using hown)
      clear hown
      go_wp2
      go_ret
      exact Hpost.out _ Hown.out hbel

section
variable {w W : World} {A1 A2 A3 : Option Addr} {l m p : List UInt8} {n1 n2 n3 c1 c2 c3 : Nat}

theorem rblankN_in {n : Int} {K : Nat} (hb : Below w.heap.size w W) (hK : Hid (K = (max 0 (min n 65536)).toNat)) (hn1 : -9223372036854775808 ≤ n) (hn2 : n ≤ 9223372036854775807) :
    Calls Try.prog 29 #[.int .i64 n] W (RetIn 5 w (List.replicate K 255)) :=
  (rblank_any n W hn1 hn2).mono (blankPost_in hb hK)
end
end Go.Proofs.Ytlnpfndjdilfhaa
