/- The contracts of the reference's Bit, Pow, ones, Invert. The contracts of the reference's ones and Invert. The contracts of the reference's Sqrt. Written by wip/tools/mk_pow10.py. The contract of the reference's Ratio. Written by wip/tools/mk_pow10.py. -/
import Derived.Test.YtmmfbbbljhifjaaLaw9Spec
import Derived.Test.YtmmfbbbljhifjaaGpw
import Derived.Test.YtmmfbbbljhifjaaGheld
import Derived.Test.YtmmfbbbljhifjaaGroo4
namespace Go.Proofs.Ytmmfbbbljhifjaa
open Go.RowKit
set_option linter.unusedVariables false
set_option maxRecDepth 100000

set_option maxHeartbeats 800000 in
theorem rbit_any (l : List UInt8) (hl : l.length = 32) (i : Nat) (hi : i < 256) (w : World) :
    Calls Try.prog 23 #[.agg (arrB l), .int .i64 (i : Int)] w (RetV w (.int .i64 ((leN l / 2 ^ i % 2 : Nat) : Int))) := by
  obtain ⟨j, hj⟩ : ∃ j, i / 8 = j := ⟨_, rfl⟩
  obtain ⟨r, hr⟩ : ∃ r, i % 8 = r := ⟨_, rfl⟩
  have hb := leN_bit l i
  rw [hj, hr] at hb
  obtain ⟨a, ha⟩ : ∃ a, (l.getD j 0).toNat = a := ⟨_, rfl⟩
  have hal : a < 256 := by rw [← ha]; exact (l.getD j 0).toNat_lt
  obtain ⟨q, hq⟩ : ∃ q, a / 2 ^ r = q := ⟨_, rfl⟩
  have hql : q < 256 := by rw [← hq]; exact Nat.lt_of_le_of_lt (Nat.div_le_self _ _) hal
  rw [ha, hq] at hb
  rw [← hb]
  obtain ⟨s, hs⟩ : ∃ s : Int, ((q % 2 : Nat) : Int) = s := ⟨_, rfl⟩
  have h0 : (w.alloc (.cells (arrB l) 22)).heap[w.heap.size]? = some (.cells (arrB l) 22 (0, 0)) := heap_alloc_new _ _
  have cx : (w.alloc (.cells (arrB l) 22)).cell? ⟨w.heap.size, j, none⟩ = some (.int .u8 (a : Int)) := by
    rw [cell_of_row _ _ _ _ _ _ h0, arrB_get _ _ (by omega), ha]
  have HB := Lib.hid (show Below w.heap.size w (w.alloc (.cells (arrB l) 22)) from (Below.refl w.heap.size w).alloc (Nat.le_refl _) _)
  have d0 : decide ((i : Int) < 0) = false := decide_eq_false (by omega)
  have d1 : decide ((255 : Int) < (i : Int)) = false := decide_eq_false (by omega)
  have t1 : (i : Int).tdiv 8 = (j : Int) := by rw [Int.tdiv_eq_ediv_of_nonneg (by omega)]; omega
  have t1' : (i : Int) / 8 = (j : Int) := by omega
  have t2 : (i : Int).tmod 8 = (r : Int) := by rw [Int.tmod_eq_emod_of_nonneg (by omega)]; omega
  have t2' : (i : Int) % 8 = (r : Int) := by omega
  have t3 : IntKind.u64.wrap (r : Int) = (r : Int) := by rw [IntKind.wrap_u64]; omega
  have t4 : (a : Int) / 2 ^ r = (q : Int) := by rw [← hq]; simp
  have t5 : IntKind.i64.wrap (q : Int) = (q : Int) := by rw [IntKind.wrap_i64]; omega
  have t6 : bits .and .i64 (q : Int) 1 = s := by rw [i64_and1, ← hs]; omega
  have b1 : 0 ≤ (j : Int) := by omega
  have b2 : (j : Int) < 32 := by omega
  have hr8 : r < 8 := by omega
  rw [hs]
  clear hb ha hq hs h0 hj hr hal
  generalize arrB l = LL at *
  go_enter Try.func23, Try.ntmps23
  go_wp2_with fail
  go_ret
  exact ⟨rfl, HB.out⟩

end Go.Proofs.Ytmmfbbbljhifjaa

namespace Go.Proofs.Ytmmfbbbljhifjaa
open Go.RowKit
set_option linter.unusedVariables false
set_option maxRecDepth 100000

theorem or_half (a b : Nat) (ha : a < 128) (hb : b < 2) : bits .or .u8 (a : Int) ((b * 128 : Nat) : Int) = ((a + b * 128 : Nat) : Int) := by
  have h := u8_or' (UInt8.ofNat a) (UInt8.ofNat (b * 128))
  have e1 : (UInt8.ofNat a).toNat = a := by simp; omega
  have e2 : (UInt8.ofNat (b * 128)).toNat = b * 128 := by simp; omega
  rw [UInt8.toNat_or, e1, e2] at h
  rw [h]
  have hb2 : b = 0 ∨ b = 1 := by omega
  rcases hb2 with rfl | rfl
  · simp
  · have := Nat.two_pow_add_eq_or_of_lt (i := 7) (b := a) (by omega) 1
    rw [Nat.or_comm, show 1 * 128 = 2 ^ 7 * 1 by decide, ← this, Nat.add_comm]
theorem u8_and1 (v : Nat) (h : v < 256) : bits .and .u8 (v : Int) 1 = ((v % 2 : Nat) : Int) := by
  have e := u8_and' (UInt8.ofNat v) 1
  have e1 : (UInt8.ofNat v).toNat = v := by simp; omega
  rw [UInt8.toNat_and, e1, show (1 : UInt8).toNat = 2 ^ 1 - 1 by decide, Nat.and_two_pow_sub_one_eq_mod] at e
  exact e

end Go.Proofs.Ytmmfbbbljhifjaa

namespace Go.Proofs.Ytmmfbbbljhifjaa
open Go.RowKit
set_option linter.unusedVariables false
set_option maxRecDepth 100000

/-- the exponents' bytes -/
def kA : Array Value := bytT KP
def kB : Array Value := bytT (KP + 1)
def kQ : Array Value := bytT (2 * KP + 1)
def kI : Array Value := bytT (PP - 2)
theorem kA_info : (Try.prog.info? 22).map (·.size) = some kA.size := bytT_info _
theorem kB_info : (Try.prog.info? 22).map (·.size) = some kB.size := bytT_info _
theorem kQ_info : (Try.prog.info? 22).map (·.size) = some kQ.size := bytT_info _
theorem kI_info : (Try.prog.info? 22).map (·.size) = some kI.size := bytT_info _
theorem kA_one : kA.all (·.oneCell') = true := bytT_one _
theorem kB_one : kB.all (·.oneCell') = true := bytT_one _
theorem kQ_one : kQ.all (·.oneCell') = true := bytT_one _
theorem kI_one : kI.all (·.oneCell') = true := bytT_one _
theorem kA_at : kA[0]? = some (.int .u8 253) := by unfold kA; rw [bytT_get _ _ (by omega), K_low]; rfl
theorem kA_set : kA.setIfInBounds 0 (.int .u8 254) = kB := by
  unfold kA kB bytT
  rw [show (254 : Int) = ((254 : UInt8).toNat : Int) from rfl, arrB_set, K_inc]
end Go.Proofs.Ytmmfbbbljhifjaa

namespace Go.Proofs.Ytmmfbbbljhifjaa
open Go.RowKit
set_option linter.unusedVariables false
set_option maxRecDepth 100000

end Go.Proofs.Ytmmfbbbljhifjaa

