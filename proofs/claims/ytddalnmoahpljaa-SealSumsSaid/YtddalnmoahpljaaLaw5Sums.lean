/- SealSums walked. Written by wip/tools/mk_sums5.py. -/
import Derived.Test.YtddalnmoahpljaaLaw5Alive
import Derived.Test.YtddalnmoahpljaaRegion3
namespace Go.Proofs.Ytddalnmoahpljaa
open Go.RowKit
set_option linter.unusedVariables false
set_option maxRecDepth 100000

theorem run_index_array {P : Program} (t e : TypeId) (n : Nat) (cs : Array Value) (k : IntKind) (i : Nat) (v : Value) (w : World) (h : P.underlying t = some (.array n e)) (hi : i < n)
    (ha : (isAgg e).run P w = .ok false w) (hs : (sizeOf e).run P w = .ok 1 w) (hv : cs[i]? = some v) : (Instr.index t (.agg cs) (.int k (i : Int))).run P w = .ok v w := by
  have h1 : (0 : Int) ≤ (i : Int) ∧ (i : Int) < (n : Int) := by omega
  simp [Instr.index, run_underlying h, asIntOf, h1, hi, go_sem, ha, hs, hv]

theorem run_table (t1 : Array Value) (i : UInt8) (v : Value) (ht : t1 = tabV 256) (hv : v = .int .u32 ((fallN i.toNat : Nat) : Int)) (u : World) :
    (Instr.index 34 (.agg t1) (.int .u8 (i.toNat : Int))).run Try.prog u = .ok v u := by
  have hi := i.toNat_lt
  refine run_index_array 34 32 256 t1 .u8 i.toNat v u Try.underlying34 hi (by kernel_rfl) (by kernel_rfl) ?_
  rw [ht, hv, tabV_get 256 _ hi, if_pos hi]

theorem law5Sums (A : Option Addr) (l : List UInt8) (c : Nat) (i : UInt8) (w : World) (h : Bs w A l) :
    Calls Try.prog 4 #[.slice A l.length c, .int .u8 (i.toNat : Int)] w fun e w' => e = .returned (.bool true) ∧ Below w.heap.size w w' := by
  have HA := Lib.hid (alive5_any w)
  obtain ⟨n, hn⟩ : ∃ n, l.length = n := ⟨_, rfl⟩
  by_cases hl : n ≤ 700
  · have d1 : decide (700 < (n : Int)) = false := decide_eq_false (by omega)
    obtain ⟨s, hs⟩ : ∃ s, crc l = s := ⟨_, rfl⟩
    obtain ⟨t1, ht1⟩ : ∃ t, tabV 256 = t := ⟨_, rfl⟩
    obtain ⟨v, hv⟩ : ∃ v, Value.int .u32 ((fallN i.toNat : Nat) : Int) = v := ⟨_, rfl⟩
    have hix := fun u => run_table t1 i v ht1.symm hv.symm u
    obtain ⟨f, hf⟩ : ∃ f, fallN i.toNat = f := ⟨_, rfl⟩
    rw [hf] at hv
    subst hv
    have hx : ∀ W, Below w.heap.size w W → Bs W A l := fun W hW => h.below hW
    have HFALL : Hid (∀ W, Calls Try.prog 20 #[.int .u8 (i.toNat : Int)] W fun e w' => e = .returned (.int .u32 (f : Int)) ∧ w' = W) := Lib.hid fun W => by
      rw [← hf]; exact rfall_any i W
    have HTAB : Hid (∀ W, Calls Try.prog 19 #[] W fun e w' => e = .returned (.agg t1) ∧ Below W.heap.size W w') := Lib.hid fun W => by
      rw [← ht1]; exact table_any W
    have HSX : Hid (∀ W, Below w.heap.size w W → Calls Try.prog 17 #[.slice A n c] W fun e w' => e = .returned (.int .u32 (s : Int)) ∧ Below W.heap.size W w') := Lib.hid fun W hW => by
      rw [← hs, ← hn]; exact sum_any A l c W (hx W hW) (by omega)
    have HRX : Hid (∀ W, Below w.heap.size w W → Calls Try.prog 18 #[.slice A n c] W fun e w' => e = .returned (.int .u32 (s : Int)) ∧ Below W.heap.size W w') := Lib.hid fun W hW => by
      rw [← hs, ← hn]; exact (rsum_any A l c W (hx W hW) (by omega)).mono fun e w' ⟨he, m, hw⟩ => ⟨he, by rw [hw]; exact below_drewN' (Below.refl _ _) m⟩
    rw [hn]
    clear hf ht1 hs hn hx h
    go_enter Try.func4, Try.ntmps4
    go_wp2_with fail
    with_reducible refine HA.out.mono ?_
    rintro e w1 ⟨rfl, hb1⟩
    have HSUM : Hid (∀ W, Below w1.heap.size w1 W → Calls Try.prog 17 #[.slice A n c] W fun e w' => e = .returned (.int .u32 (s : Int)) ∧ Below W.heap.size W w') := Lib.hid fun W hW => HSX.out W (below_on hb1 hW)
    have HRSUM : Hid (∀ W, Below w1.heap.size w1 W → Calls Try.prog 18 #[.slice A n c] W fun e w' => e = .returned (.int .u32 (s : Int)) ∧ Below W.heap.size W w') := Lib.hid fun W hW => HRX.out W (below_on hb1 hW)
    have HB := Lib.hid hb1
    clear hb1 HSX HRX
    go_upto_region 4 with fail
    refine wp_region_noPanic ?_
    refine wp_region_held_drew (S := fun W => Below w1.heap.size w1 W) (by kernel_rfl) (by exact (Below.refl _ _).drew) (fun hS => ?_)
    refine' take_at 0 rfl (by kernel_rfl) (by kernel_rfl) (by kernel_rfl) (fun _ _ _ h => h) (by rfl) hS ?_ ?_ ?_
    rotate_left 2
    · intro W hSW; go_simp; try with_reducible rfl
    · simp only [List.set_cons_succ, List.set_cons_zero]; rfl
    refine' take_at 2 rfl (by kernel_rfl) (by kernel_rfl) (by kernel_rfl) (fun _ _ _ h => h) (by rfl) hS ?_ ?_ ?_
    rotate_left 2
    · intro W hSW; go_simp; try with_reducible rfl
    · simp only [List.set_cons_succ, List.set_cons_zero]; rfl
    refine call_at 1 rfl (by kernel_rfl) (by rfl) (fun K hK => ?_)
    go_simp
    with_reducible refine (HSUM.out _ hS).mono ?_
    rintro e w2 ⟨rfl, hb2⟩
    have kb2 := below_on hS hb2
    clear hS hb2
    refine hK.out _ _ (by exact kb2) (fun hS => ?_)
    clear hK K
    refine call_at 3 rfl (by kernel_rfl) (by rfl) (fun K hK => ?_)
    go_simp
    with_reducible refine (HRSUM.out _ hS).mono ?_
    rintro e w3 ⟨rfl, hb3⟩
    have kb3 := below_on hS hb3
    clear hS hb3
    refine hK.out _ _ (by exact kb3) (fun hS => ?_)
    clear hK K
    refine' take_at 4 rfl (by kernel_rfl) (by kernel_rfl) (by kernel_rfl) (fun _ _ _ h => h) (by rfl) hS ?_ ?_ ?_
    rotate_left 2
    · intro W hSW; go_simp; try with_reducible rfl
    · simp only [List.set_cons_succ, List.set_cons_zero]; rfl
    refine' take_at 5 rfl (by kernel_rfl) (by kernel_rfl) (by kernel_rfl) (fun _ _ _ h => h) (by rfl) hS ?_ ?_ ?_
    rotate_left 2
    · intro W hSW; go_simp; try with_reducible rfl
    · simp only [List.set_cons_succ, List.set_cons_zero]; rfl
    refine' take_at 7 rfl (by kernel_rfl) (by kernel_rfl) (by kernel_rfl) (fun _ _ _ h => h) (by rfl) hS ?_ ?_ ?_
    rotate_left 2
    · intro W hSW; go_simp; try with_reducible rfl
    · simp only [List.set_cons_succ, List.set_cons_zero]; rfl
    refine' take_at 9 rfl (by kernel_rfl) (by kernel_rfl) (by kernel_rfl) (fun _ _ _ h => h) (by rfl) hS ?_ ?_ ?_
    rotate_left 2
    · intro W hSW; go_simp; try with_reducible rfl
    · simp only [List.set_cons_succ, List.set_cons_zero]; rfl
    refine call_at 6 rfl (by kernel_rfl) (by rfl) (fun K hK => ?_)
    go_simp
    with_reducible refine (HTAB.out _).mono ?_
    rintro e w4 ⟨rfl, hb4⟩
    have kb4 := below_on hS hb4
    clear hS hb4
    refine hK.out _ _ (by exact kb4) (fun hS => ?_)
    clear hK K
    refine' take_at 8 rfl (by kernel_rfl) (by kernel_rfl) (by kernel_rfl) (fun _ _ _ h => h) (by rfl) hS ?_ ?_ ?_
    rotate_left 2
    · intro W hSW; go_simp; try with_reducible rfl
    · simp only [List.set_cons_succ, List.set_cons_zero]; rfl
    refine call_at 10 rfl (by kernel_rfl) (by rfl) (fun K hK => ?_)
    go_simp
    with_reducible refine (HFALL.out _).mono ?_
    rintro e w5 ⟨rfl, rfl⟩
    have kb5 := hS
    clear hS
    refine hK.out _ _ (by exact kb5) (fun hS => ?_)
    clear hK K
    refine' take_at 11 rfl (by kernel_rfl) (by kernel_rfl) (by kernel_rfl) (fun _ _ _ h => h) (by rfl) hS ?_ ?_ ?_
    rotate_left 2
    · intro W hSW; go_simp; try with_reducible rfl
    · simp only [List.set_cons_succ, List.set_cons_zero]; rfl
    refine' take_at 12 rfl (by kernel_rfl) (by kernel_rfl) (by kernel_rfl) (fun _ _ _ h => h) (by rfl) hS ?_ ?_ ?_
    rotate_left 2
    · intro W hSW; go_simp; try with_reducible rfl
    · simp only [List.set_cons_succ, List.set_cons_zero]; rfl
    refine' take_at 13 rfl (by kernel_rfl) (by kernel_rfl) (by kernel_rfl) (fun _ _ _ h => h) (by rfl) hS ?_ ?_ ?_
    rotate_left 2
    · intro W hSW; go_simp; try with_reducible rfl
    · simp only [List.set_cons_succ, List.set_cons_zero]; rfl
    refine wpAnyH_done (by kernel_rfl) ?_ _
    refine NoPanic.normal ?_
    go_wp2_with fail
    go_ret
    exact ⟨rfl, below_on HB.out kb5⟩
  · have d1 : decide (700 < (n : Int)) = true := decide_eq_true (by omega)
    rw [hn]
    clear hn hl h
    go_enter Try.func4, Try.ntmps4
    go_wp2_with fail
    with_reducible refine HA.out.mono ?_
    rintro e w1 ⟨rfl, hb1⟩
    go_wp2_with fail
    go_ret
    exact ⟨rfl, hb1⟩

theorem law5SumsI (A : Option Addr) (l : List UInt8) (c : Nat) (a : Int) (w : World) (h : Bs w A l) (ha : (Lit.int .u8 a).wf = true) :
    Calls Try.prog 4 #[.slice A l.length c, .int .u8 a] w fun e w' => e = .returned (.bool true) ∧ Below w.heap.size w w' := by
  obtain ⟨i, rfl⟩ : ∃ i : UInt8, (i.toNat : Int) = a := by
    have : 0 ≤ a ∧ a ≤ 255 := by simpa [Lit.wf, IntKind.min, IntKind.max, IntKind.signed, IntKind.bits] using ha
    exact ⟨UInt8.ofNat a.toNat, by simp; omega⟩
  exact law5Sums A l c i w h
end Go.Proofs.Ytddalnmoahpljaa

