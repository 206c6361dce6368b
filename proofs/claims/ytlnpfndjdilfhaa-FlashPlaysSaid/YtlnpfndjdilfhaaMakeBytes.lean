/- make([]byte, n). -/
import Derived.Test.YtlnpfndjdilfhaaWords
namespace Go.Proofs.Ytlnpfndjdilfhaa
open Go.RowKit
set_option linter.unusedVariables false

theorem make_bytes (k : Nat) (hk : k ≤ 2147483648) (u : World) : (Instr.makeSlice 30 (.int .i64 (k : Int)) (.int .i64 (k : Int))).run Try.prog u =
      .ok (.slice (some ⟨u.heap.size, 0, none⟩) k k) (u.alloc (.cells (madeCells #[.int .u8 0] k) 5)) := by
  obtain ⟨i0, hi, hz0, hz1, hz2⟩ := info_parts info5
  have h := run_make (P := Try.prog) u 30 5 i0 (.int .u8 0) Try.underlying30 hi hz0 .i64 .i64 (k : Int) (k : Int) (by omega) (Int.le_refl _) (by rw [hz2]; omega) (by omega)
  simpa [hz1, Value.cells] using h

theorem own_made (w : World) (k : Nat) (E : TypeId) (hk : k ≤ 2147483648) : Ob E (w.alloc (.cells (madeCells #[.int .u8 0] k) E)) w.heap.size (.slice (some ⟨w.heap.size, 0, none⟩) k k) (List.replicate k 0) := by
  have h := World.ownsRow_lit (base := w.heap.size) (e := E) (size := 1) w (madeCells #[.int .u8 0] k) k (Nat.le_refl _) (by unfold maxLen; omega) (by simp [size_madeCells])
  unfold Ob
  rw [toList_madeCells_one] at h
  simpa [List.map_replicate, bval] using h

def BlankPost (w : World) (n : Int) (e : Ending) (w' : World) : Prop :=
  ∃ v, e = .returned v ∧ Ob 5 w' w.heap.size v (List.replicate (max 0 (min n 65536)).toNat 255) ∧ Below w.heap.size w w'

theorem replicate_step (K k : Nat) (hk : k < K) : (List.replicate k (255 : UInt8) ++ List.replicate (K - k) 0).set k 255 = List.replicate (k + 1) 255 ++ List.replicate (K - (k + 1)) 0 := by
  rw [List.set_append, if_neg (by simp)]
  have : K - k = (K - (k + 1)) + 1 := by omega
  rw [this, List.replicate_succ (n := K - (k + 1)), List.length_replicate, Nat.sub_self, List.set_cons_zero, List.replicate_succ']
  simp

section
variable {w W : World} {A1 A2 A3 : Option Addr} {l m p : List UInt8} {n1 n2 n3 c1 c2 c3 : Nat}

theorem blankPost_in {n : Int} {K : Nat} (hb : Below w.heap.size w W) (hK : Hid (K = (max 0 (min n 65536)).toNat)) : ∀ e w', BlankPost W n e w' → RetIn 5 w (List.replicate K 255) e w' := by
  rintro e w' ⟨v, he, ho, hw⟩
  rw [← hK.out] at ho
  exact retIn_of hb e w' ⟨v, he, ho, hw⟩
end
end Go.Proofs.Ytlnpfndjdilfhaa
