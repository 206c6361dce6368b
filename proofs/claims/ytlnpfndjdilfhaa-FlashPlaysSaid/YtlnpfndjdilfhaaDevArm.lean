/- The contract of the program's Arm. -/
import Derived.Test.YtlnpfndjdilfhaaDevRead
namespace Go.Proofs.Ytlnpfndjdilfhaa
open Go.RowKit
set_option linter.unusedVariables false

/-- a row of bytes does not lie in the struct's own block -/
theorem bs_off_struct {w w' : World} {g gB gW cB cW N : Nat} {d : Dl} (h : DevFl w g gB gW cB cW N d) {A : Option Addr} {p : List UInt8} (hp : Bs w A p) (ho : Only (fun k => k = g) w w') : Bs w' A p := fun hl => by
  obtain ⟨AP, cP, hg, -, -⟩ := h.cells
  obtain ⟨b, o, e, hc⟩ := hp hl
  refine ⟨b, o, e, fun j hj => ?_⟩
  have hcj := hc j hj
  by_cases hb : b = g
  · subst hb
    rw [cell_of_row _ _ _ _ _ _ hg] at hcj
    exact absurd hcj (by rcases o + j with _ | _ | _ | _ | _ | _ | _ | x <;> simp)
  · rw [World.cell?_of_block (ho.block b (World.block_lt_of_cell? w _ hcj) hb)]
    exact hcj

def darmOf (d : Dl) (n : Int) (p : List UInt8) : Dl :=
  if n < 0 then ⟨d.b, d.worn, d.steps, d.off, false, 0, []⟩ else ⟨d.b, d.worn, d.steps, d.off, true, n, p.take 1024⟩

theorem Bs.take {w : World} {A : Option Addr} {l : List UInt8} (h : Bs w A l) (k : Nat) : Bs w A (l.take k) := fun hl => by
  rw [List.length_take] at hl
  obtain ⟨b, o, e, hc⟩ := h (by omega)
  refine ⟨b, o, e, fun j hj => ?_⟩
  rw [List.length_take] at hj
  rw [hc j (by omega)]
  simp only [List.getD, List.getElem?_take]
  rw [if_pos (by omega)]

/-- the head of a row -/
theorem slice_head (A : Option Addr) (L c k : Nat) (h : k ≤ c) (u : World) : (Instr.slice 30 (.slice A L c) none (some (.int .i64 (k : Int))) none).run Try.prog u = .ok (.slice A k c) u := by
  rw [run_slice_h u _ _ _ _ under_bs _ _ (by omega) (by omega), sizeOf_u8]
  simp only [Result.andThen, sliced, Int.toNat_natCast]
  by_cases hc : c = 0
  · subst hc; simp
  · rw [if_neg (by omega)]
    cases A with
    | none => simp
    | some a => simp [Addr.add]

set_option maxHeartbeats 800000 in
theorem darm_any {g gB gW cB cW N : Nat} {d : Dl} {w : World} (h : DevFl w g gB gW cB cW N d) (n : Int) (A : Option Addr) (p : List UInt8) (c : Nat) (hp : Bs w A p) (hpc : p.length ≤ c) (hlen : p.length ≤ 2147483648) (hN : N ≤ w.heap.size) :
    Calls Try.prog 19 #[.pointer (some ⟨g, 0, none⟩), .int .i64 n, .slice A p.length c] w (DStatePost w g gB gW cB cW N (fun k => k = g) (.tuple #[]) (darmOf d n p)) := by
  obtain ⟨AP, cP, hg, hbp, hap⟩ := h.cells
  obtain ⟨z1, z2, z3⟩ := h.blk
  have f4 : w.frozen? ⟨g, 4, none⟩ = false := frozen_of_row w g 4 _ _ hg
  have f5 : w.frozen? ⟨g, 5, none⟩ = false := frozen_of_row w g 5 _ _ hg
  have f6 : w.frozen? ⟨g, 6, none⟩ = false := frozen_of_row w g 6 _ _ hg
  have c4 : w.cell? ⟨g, 4, none⟩ = some (.bool d.armed) := by rw [cell_of_row _ _ _ _ _ _ hg]; rfl
  have c5 : w.cell? ⟨g, 5, none⟩ = some (.int .i64 d.after) := by rw [cell_of_row _ _ _ _ _ _ hg]; rfl
  have c6 : w.cell? ⟨g, 6, none⟩ = some (.slice AP d.pick.length cP) := by rw [cell_of_row _ _ _ _ _ _ hg]; rfl
  have o3 := (((Only.refl (fun k => k = g) w).own 4 (.bool false)).own 5 (.int .i64 0)).own 6 (.slice none 0 0)
  have hg3 := heap_setCell_same _ g 6 _ _ (.slice none 0 0) (heap_setCell_same _ g 5 _ _ (.int .i64 0) (heap_setCell_same w g 4 _ _ (.bool false) hg))
  unfold darmOf
  by_cases hn : n < 0
  · rw [if_pos hn]
    have HP : Hid (DStatePost w g gB gW cB cW N (fun k => k = g) (.tuple #[]) ⟨d.b, d.worn, d.steps, d.off, false, 0, []⟩ (.returned (.tuple #[])) (((w.setCell ⟨g, 4, none⟩ (.bool false)).setCell ⟨g, 5, none⟩ (.int .i64 0)).setCell ⟨g, 6, none⟩ (.slice none 0 0))) := Lib.hid
      ⟨rfl, h.upd (AP := none) (cP := 0) (p := []) o3 (Bs.nil_ _ _) (by rintro k ⟨a, e, _⟩; cases e) hg3, o3⟩
    clear hg h hbp hap o3 hg3
    go_enter Try.func19, Try.ntmps19
    go_wp2
    go_end0
    exact HP.out
  · rw [if_neg hn]
    obtain ⟨K, HK⟩ : ∃ K : Nat, Hid (K = (p.take 1024).length) := ⟨_, rfl⟩
    have hKv := HK.out
    rw [List.length_take] at hKv
    have zs := slice_head A p.length c K (by omega)
    have hm : min (p.length : Int) 1024 = (K : Int) := by omega
    obtain ⟨w3, Hw3⟩ : ∃ w3, Hid ((((w.setCell ⟨g, 4, none⟩ (.bool false)).setCell ⟨g, 5, none⟩ (.int .i64 0)).setCell ⟨g, 6, none⟩ (.slice none 0 0)) = w3) := ⟨_, rfl⟩
    rw [Hw3.out] at o3 hg3
    have hb3 : Bs w3 A (p.take 1024) := (bs_off_struct h hp o3).take 1024
    have HC : Hid (∀ W, W = w3 → Calls Try.prog 39 #[.slice A K c] W fun e w' => ∃ v, e = .returned v ∧ Ob 5 w' W.heap.size v (p.take 1024) ∧ Below W.heap.size W w') := Lib.hid fun W hW => by subst hW; exact clone_is hb3 HK (by omega)
    have O3 := Lib.hid o3
    have HG3 := Lib.hid hg3
    have HH := Lib.hid h
    have z3 : w.heap.size ≤ w3.heap.size := o3.size
    clear hg h hbp hap o3 hg3 hp hb3
    have Hfin : Hid (∀ v w4, Ob 5 w4 w3.heap.size v (p.take 1024) → Below w3.heap.size w3 w4 → ∃ A' c', v = .slice A' K c' ∧
        w4.cell? ⟨g, 4, none⟩ = some (.bool false) ∧ w4.cell? ⟨g, 5, none⟩ = some (.int .i64 0) ∧ w4.cell? ⟨g, 6, none⟩ = some (.slice none 0 0) ∧ w4.frozen? ⟨g, 4, none⟩ = false ∧ w4.frozen? ⟨g, 5, none⟩ = false ∧ w4.frozen? ⟨g, 6, none⟩ = false ∧
        DStatePost w g gB gW cB cW N (fun k => k = g) (.tuple #[]) ⟨d.b, d.worn, d.steps, d.off, true, n, p.take 1024⟩ (.returned (.tuple #[])) (((w4.setCell ⟨g, 4, none⟩ (.bool true)).setCell ⟨g, 5, none⟩ (.int .i64 n)).setCell ⟨g, 6, none⟩ (.slice A' K c'))) := Lib.hid (fun v w4 ho hb => by
      obtain ⟨A', c', rfl, hbs, hf⟩ := ho.form
      have hlt : g < w3.heap.size := by omega
      have hg4 := (hb.block g hlt).trans HG3.out
      have hfr : ∀ k, At A' k → w3.heap.size ≤ k := by
        rintro k ⟨a, rfl, rfl⟩
        rcases hf with hf | ⟨g', hf, hle, _⟩
        · cases hf
        · injection hf with hf; subst hf; exact hle
      have o5 := (((Only.refl (fun k => k = g) w4).own 4 (.bool true)).own 5 (.int .i64 n)).own 6 (.slice A' (p.take 1024).length c')
      have o6 : Only (fun k => k = g) w w4 := O3.out.trans (Only.of_below hb)
      rw [HK.out]
      exact ⟨A', c', rfl, by rw [cell_of_row _ _ _ _ _ _ hg4]; rfl, by rw [cell_of_row _ _ _ _ _ _ hg4]; rfl, by rw [cell_of_row _ _ _ _ _ _ hg4]; rfl, frozen_of_row w4 g 4 _ _ hg4, frozen_of_row w4 g 5 _ _ hg4, frozen_of_row w4 g 6 _ _ hg4,
        rfl, HH.out.upd (AP := A') (cP := c') (p := p.take 1024) (o6.trans o5) (hbs.only o5 (fun k hk e => by have := hfr k hk; omega)) (fun k hk => by have := hfr k hk; omega)
          (heap_setCell_same _ _ _ _ _ _ (heap_setCell_same _ _ _ _ _ _ (heap_setCell_same _ _ _ _ _ _ hg4))), o6.trans o5⟩)
    by_cases hl : p.length ≤ 1024
    · obtain rfl : K = p.length := by omega
      clear hKv hm
      go_enter Try.func19, Try.ntmps19
      go_wp2_with (go_at_call 39; refine (HC.out _ Hw3.out).mono ?_; rintro e w4 ⟨v, rfl, ho, hb⟩; obtain ⟨A', c', rfl, c44, c45, c46, f44, f45, f46, hP⟩ := Hfin.out v w4 (by rw [← Hw3.out]; exact ho) (by rw [← Hw3.out]; exact hb); have HP := Lib.hid hP; clear hP ho hb)
      go_end0
      exact HP.out
    · obtain rfl : K = 1024 := by omega
      clear hKv hm
      go_enter Try.func19, Try.ntmps19
      go_wp2_with (go_at_call 39; refine (HC.out _ Hw3.out).mono ?_; rintro e w4 ⟨v, rfl, ho, hb⟩; obtain ⟨A', c', rfl, c44, c45, c46, f44, f45, f46, hP⟩ := Hfin.out v w4 (by rw [← Hw3.out]; exact ho) (by rw [← Hw3.out]; exact hb); have HP := Lib.hid hP; clear hP ho hb)
      go_end0
      exact HP.out
end Go.Proofs.Ytlnpfndjdilfhaa
