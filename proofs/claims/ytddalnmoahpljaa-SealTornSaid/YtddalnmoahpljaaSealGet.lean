/- The contracts of seal.number, bytes.Equal and bytes.HasPrefix; parts of a row. -/
import Derived.Test.YtddalnmoahpljaaSealPut2
import Derived.Test.YtddalnmoahpljaaGnor
import Derived.Test.YtddalnmoahpljaaGdfl
import Derived.Lib.SlicesS
namespace Go.Proofs.Ytddalnmoahpljaa
open Go.RowKit
set_option linter.unusedVariables false
set_option maxRecDepth 100000

/-- a part of a row that does not begin at its end -/
theorem slice_mid (A : Option Addr) (w : World) (m : List UInt8) (hm : Bs w A m) (c : Nat) (hc : m.length ≤ c) (y n : Nat) (hy : y < m.length) (h : y + n ≤ m.length) : ∃ A', Bs w A' ((m.drop y).take n) ∧ ∀ (L : Nat) (lo hi : Int), lo = y → hi = (y : Int) + n → ∀ (u : World),
    (Instr.slice 22 (.slice A L c) (some (.int .i64 lo)) (some (.int .i64 hi)) none).run Try.prog u = .ok (.slice A' n (c - y)) u := by
  obtain ⟨b, o, rfl, hcell⟩ := hm (by omega)
  refine ⟨some ⟨b, o + y, none⟩, fun hl => ⟨b, o + y, rfl, fun j hj => ?_⟩, ?_⟩
  · rw [List.length_take, List.length_drop] at hj
    have := hcell (y + j) (by omega)
    rw [Nat.add_assoc, this]
    simp only [List.getD_eq_getElem?_getD]
    rw [List.getElem?_take_of_lt (by omega), List.getElem?_drop]
  · rintro L lo hi rfl rfl u
    rw [run_slice_lh u _ _ _ _ under_bs _ _ _ _ (by omega) (by omega) (by omega), sizeOf_u8]
    simp only [Result.andThen, sliced, Int.toNat_natCast, Option.map_some, Nat.mul_one]
    rw [if_neg (by omega)]
    have e : ((y : Int) + (n : Int)).toNat - y = n := by omega
    rw [e, addr_add]

/-- .. to its end -/
theorem slice_tail (A : Option Addr) (w : World) (m : List UInt8) (hm : Bs w A m) (c : Nat) (hc : m.length ≤ c) (y : Nat) (hy : y < m.length) : ∃ A', Bs w A' (m.drop y) ∧ ∀ (lo : Int), lo = y → ∀ (u : World),
    (Instr.slice 22 (.slice A m.length c) (some (.int .i64 lo)) none none).run Try.prog u = .ok (.slice A' (m.length - y) (c - y)) u := by
  obtain ⟨b, o, rfl, hcell⟩ := hm (by omega)
  refine ⟨some ⟨b, o + y, none⟩, fun hl => ⟨b, o + y, rfl, fun j hj => ?_⟩, ?_⟩
  · rw [List.length_drop] at hj
    have := hcell (y + j) (by omega)
    rw [Nat.add_assoc, this]
    simp only [List.getD_eq_getElem?_getD]
    rw [List.getElem?_drop]
  · rintro lo rfl u
    rw [run_slice_l u _ _ _ _ under_bs _ _ (by omega) (by omega), sizeOf_u8]
    simp only [Result.andThen, sliced, Int.toNat_natCast, Option.map_some, Nat.mul_one]
    rw [if_neg (by omega)]
    rw [addr_add]

theorem getD_drop (m : List UInt8) (y i : Nat) : (m.drop y).getD i 0 = m.getD (y + i) 0 := by
  simp only [List.getD_eq_getElem?_getD, List.getElem?_drop]

theorem num4 (m : List UInt8) (h : 4 ≤ m.length) : numB (m.take 4) = (m.getD 0 0).toNat + 256 * (m.getD 1 0).toNat + 65536 * (m.getD 2 0).toNat + 16777216 * (m.getD 3 0).toNat := by
  rcases m with _ | ⟨a0, _ | ⟨a1, _ | ⟨a2, _ | ⟨a3, b⟩⟩⟩⟩
  all_goals first
    | (simp at h; done)
    | skip
  simp [numB]
  omega

theorem num2 (m : List UInt8) (h : 2 ≤ m.length) : numB (m.take 2) = (m.getD 0 0).toNat + 256 * (m.getD 1 0).toNat := by
  rcases m with _ | ⟨a0, _ | ⟨a1, b⟩⟩
  all_goals first
    | (simp at h; done)
    | skip
  simp [numB]
  omega

theorem or_add {i b : Nat} (a : Nat) (h : b < 2 ^ i) : b ||| a * 2 ^ i = b + a * 2 ^ i := by
  rw [Nat.or_comm, Nat.mul_comm a, Nat.add_comm]
  exact (Nat.two_pow_add_eq_or_of_lt h a).symm

set_option maxHeartbeats 1600000 in
theorem number_any (A : Option Addr) (m : List UInt8) (N c : Nat) (w : World) (h : Bs w A m) (hN : m.length = N) (hl : 4 ≤ N) (hm : N ≤ 9223372036854775807) :
    Calls Try.prog 23 #[.slice A N c] w fun e w' => e = .returned (.int .u32 (numB (m.take 4) : Nat)) ∧ ∃ n, w' = w.drewN n := by
  obtain ⟨b, o, rfl, hc⟩ := h (by omega)
  have h0 := hc 0 (by omega)
  have h1 := hc 1 (by omega)
  have h2 := hc 2 (by omega)
  have h3 := hc 3 (by omega)
  have e := num4 m (by omega)
  generalize numB (m.take 4) = r at *
  clear h hc
  obtain ⟨x0, g0⟩ : ∃ x, m.getD 0 0 = x := ⟨_, rfl⟩
  obtain ⟨x1, g1⟩ : ∃ x, m.getD 1 0 = x := ⟨_, rfl⟩
  obtain ⟨x2, g2⟩ : ∃ x, m.getD 2 0 = x := ⟨_, rfl⟩
  obtain ⟨x3, g3⟩ : ∃ x, m.getD 3 0 = x := ⟨_, rfl⟩
  rw [g0] at h0 e
  rw [g1] at h1 e
  rw [g2] at h2 e
  rw [g3] at h3 e
  have l0 := x0.toNat_lt
  have l1 := x1.toNat_lt
  have l2 := x2.toNat_lt
  have l3 := x3.toNat_lt
  rw [Nat.add_zero] at h0
  have o1 : bits .or .u32 (x0.toNat : Int) ((x1.toNat : Int) * 256) = ((x0.toNat + x1.toNat * 256 : Nat) : Int) := by
    have := u32_or_nat x0.toNat (x1.toNat * 2 ^ 8) (by omega) (by omega)
    rw [or_add _ (by omega)] at this
    simpa using this
  have o2 : bits .or .u32 ((x0.toNat : Int) + (x1.toNat : Int) * 256) ((x2.toNat : Int) * 65536) = (x0.toNat : Int) + (x1.toNat : Int) * 256 + (x2.toNat : Int) * 65536 := by
    have := u32_or_nat (x0.toNat + x1.toNat * 256) (x2.toNat * 2 ^ 16) (by omega) (by omega)
    rw [or_add _ (by omega)] at this
    simpa using this
  have o3 : bits .or .u32 ((x0.toNat : Int) + (x1.toNat : Int) * 256 + (x2.toNat : Int) * 65536) ((x3.toNat : Int) * 16777216) = (r : Int) := by
    have := u32_or_nat (x0.toNat + x1.toNat * 256 + x2.toNat * 65536) (x3.toNat * 2 ^ 24) (by omega) (by omega)
    rw [or_add _ (by omega)] at this
    simp at this
    rw [this]
    omega
  clear e g0 g1 g2 g3 hN
  go_enter Try.func23, Try.ntmps23
  go_wp2
  go_quiet (fail)
  go_wp2
  go_ret
  exact ⟨rfl, _, rfl⟩

theorem equal_any (A1 A2 : Option Addr) (l m : List UInt8) (n1 n2 c1 c2 : Nat) (w : World) (h1 : Bs w A1 l) (h2 : Bs w A2 m) (e1 : n1 = l.length) (e2 : n2 = m.length) :
    Calls Try.prog 33 #[.slice A1 n1 c1, .slice A2 n2 c2] w (RetB w (decide (l = m))) := by
  subst e1
  subst e2
  have p1 : (convert 22 9 (.slice A1 l.length c1)).run Try.prog w = .ok (.string (strB l)) w :=
    run_conv_bs _ _ 5 _ Try.underlying22 Try.underlying5 Try.underlying9 A1 l c1 _ h1 rfl
  have p2 : (convert 22 9 (.slice A2 m.length c2)).run Try.prog w = .ok (.string (strB m)) w :=
    run_conv_bs _ _ 5 _ Try.underlying22 Try.underlying5 Try.underlying9 A2 m c2 _ h2 rfl
  have he : decide (l = m) = decide (strB l = strB m) := by
    rw [Bool.eq_iff_iff]
    simp only [decide_eq_true_eq]
    exact strB_inj.symm
  rw [he]
  generalize strB l = s1 at *
  generalize strB m = s2 at *
  clear he
  go_enter Try.func33, Try.ntmps33
  go_wp2
  go_ret
  refine ⟨?_, 0, rfl⟩
  show Ending.returned (.bool (s1.toList == s2.toList)) = _
  rw [show (s1.toList == s2.toList) = decide (s1 = s2) by rw [Bool.eq_iff_iff, Go.Lib.bytes_beq_iff]; simp]

theorem prefix_any (A1 A2 : Option Addr) (l m : List UInt8) (L M c1 c2 : Nat) (w : World) (h1 : Bs w A1 l) (h2 : Bs w A2 m) (e1 : l.length = L) (e2 : m.length = M) (hc : L ≤ c1) (hL : L ≤ 9223372036854775807) :
    Calls Try.prog 25 #[.slice A1 L c1, .slice A2 M c2] w (RetB w (decide (M ≤ L ∧ l.take M = m))) := by
  by_cases h : M ≤ L
  · have d1 : decide ((M : Int) ≤ (L : Int)) = true := decide_eq_true (by omega)
    have hs := slice_head A1 L c1 M (by omega)
    have HE : Hid (Calls Try.prog 33 #[.slice A1 M c1, .slice A2 M c2] w (RetB w (decide (M ≤ L ∧ l.take M = m)))) := Lib.hid (by
      have := equal_any A1 A2 (l.take M) m M M c1 c2 w (h1.take M) h2 (by rw [List.length_take]; omega) e2.symm
      rw [show decide (M ≤ L ∧ l.take M = m) = decide (l.take M = m) by simp [h]]
      exact this)
    generalize decide (M ≤ L ∧ l.take M = m) = b at *
    clear e1 e2 h1 h2
    go_enter Try.func25, Try.ntmps25
    go_wp2_with fail
    with_reducible refine HE.out.mono ?_
    rintro e w' ⟨rfl, n, rfl⟩
    go_wp2_with fail
    go_ret
    exact ⟨rfl, n, rfl⟩
  · have d1 : decide ((M : Int) ≤ (L : Int)) = false := decide_eq_false (by omega)
    have d2 : decide (M ≤ L ∧ l.take M = m) = false := decide_eq_false (fun hh => h hh.1)
    rw [d2]
    clear d2 e1 e2 h1 h2
    go_enter Try.func25, Try.ntmps25
    go_wp2
    go_ret
    exact ⟨rfl, 0, rfl⟩
end Go.Proofs.Ytddalnmoahpljaa

