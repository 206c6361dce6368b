/- The contracts of the reference's Arm, Boot, Spoil, Erases. -/
import Derived.Test.YtlnpfndjdilfhaaRefRead
import Derived.Test.YtlnpfndjdilfhaaRefCap
namespace Go.Proofs.Ytlnpfndjdilfhaa
open Go.RowKit
set_option linter.unusedVariables false

theorem RefFl.blk {w : World} {g gB gW cB cW N : Nat} {fl : Fl} (h : RefFl w g gB gW cB cW N fl) : g < w.heap.size ∧ gB < w.heap.size ∧ gW < w.heap.size := by
  obtain ⟨AP, cP, hg, _⟩ := h.cells
  obtain ⟨_, h1⟩ := h.bytes.heap
  obtain ⟨_, h2⟩ := h.counts.heap
  exact ⟨(Array.getElem?_eq_some_iff.1 hg).1, (Array.getElem?_eq_some_iff.1 h1).1, (Array.getElem?_eq_some_iff.1 h2).1⟩

def StatePost (w : World) (g gB gW cB cW N : Nat) (F : Nat → Prop) (v : Value) (fl : Fl) (e : Ending) (w' : World) : Prop :=
  e = .returned v ∧ RefFl w' g gB gW cB cW N fl ∧ Only F w w'

set_option maxHeartbeats 800000 in
theorem rboot_any {g gB gW cB cW N : Nat} {fl : Fl} {w : World} (h : RefFl w g gB gW cB cW N fl) :
    Calls Try.prog 34 #[.pointer (some ⟨g, 0, none⟩)] w (StatePost w g gB gW cB cW N (fun k => k = g) (.tuple #[]) ⟨fl.b, fl.worn, fl.steps, -1, [], false⟩) := by
  obtain ⟨AP, cP, hg, hbp, hap⟩ := h.cells
  have c3 : w.cell? ⟨g, 3, none⟩ = some (.int .i64 fl.left) := by rw [cell_of_row _ _ _ _ _ _ hg]; rfl
  have c4 : w.cell? ⟨g, 4, none⟩ = some (.slice AP fl.pick.length cP) := by rw [cell_of_row _ _ _ _ _ _ hg]; rfl
  have c5 : w.cell? ⟨g, 5, none⟩ = some (.bool fl.dark) := by rw [cell_of_row _ _ _ _ _ _ hg]; rfl
  have f3 : w.frozen? ⟨g, 3, none⟩ = false := frozen_of_row w g 3 _ _ hg
  have f4 : w.frozen? ⟨g, 4, none⟩ = false := frozen_of_row w g 4 _ _ hg
  have f5 : w.frozen? ⟨g, 5, none⟩ = false := frozen_of_row w g 5 _ _ hg
  have o1 : ∀ v, Only (fun k => k = g) w (w.setCell ⟨g, 5, none⟩ v) := fun v => Only.setCell (p := ⟨g, 5, none⟩) (Only.refl (fun k => k = g) w) (.inl rfl) v
  have o2 : ∀ v u, Only (fun k => k = g) w ((w.setCell ⟨g, 5, none⟩ v).setCell ⟨g, 3, none⟩ u) := fun v u => Only.setCell (p := ⟨g, 3, none⟩) (o1 v) (.inl rfl) u
  have o3 : ∀ v u x, Only (fun k => k = g) w (((w.setCell ⟨g, 5, none⟩ v).setCell ⟨g, 3, none⟩ u).setCell ⟨g, 4, none⟩ x) := fun v u x => Only.setCell (p := ⟨g, 4, none⟩) (o2 v u) (.inl rfl) x
  have Hpost : Hid (StatePost w g gB gW cB cW N (fun k => k = g) (.tuple #[]) ⟨fl.b, fl.worn, fl.steps, -1, [], false⟩ (.returned (.tuple #[])) (((w.setCell ⟨g, 5, none⟩ (.bool false)).setCell ⟨g, 3, none⟩ (.int .i64 (-1))).setCell ⟨g, 4, none⟩ (.slice none 0 0))) := Lib.hid
    ⟨rfl, h.upd (AP := none) (cP := 0) (p := []) (o3 _ _ _) (Bs.nil_ _ _) (by rintro k ⟨a, e, _⟩; cases e) (heap_setCell_same _ _ _ _ _ _ (heap_setCell_same _ _ _ _ _ _ (heap_setCell_same _ _ _ _ _ _ hg))), o3 _ _ _⟩
  clear hg o1 o2 o3 hap hbp h
  go_enter Try.func34, Try.ntmps34
  go_wp2
  go_end0
  exact Hpost.out

set_option maxHeartbeats 800000 in
theorem rarm_any {g gB gW cB cW N : Nat} {fl : Fl} {w : World} (h : RefFl w g gB gW cB cW N fl) (n : Int) (A : Option Addr) (p : List UInt8) (c : Nat) (hp : Bs w A p) (hlen : p.length ≤ 2147483648) (hN : N ≤ w.heap.size) :
    Calls Try.prog 33 #[.pointer (some ⟨g, 0, none⟩), .int .i64 n, .slice A p.length c] w (StatePost w g gB gW cB cW N (fun k => k = g) (.tuple #[]) ⟨fl.b, fl.worn, fl.steps, (if n < -1 then -1 else if 4611686018427387904 < n then 4611686018427387904 else n), p, fl.dark⟩) := by
  obtain ⟨AP, cP, hg, hbp, hap⟩ := h.cells
  obtain ⟨n1, n2, n3⟩ := h.ne
  obtain ⟨z1, z2, z3⟩ := h.blk
  have c3 : w.cell? ⟨g, 3, none⟩ = some (.int .i64 fl.left) := by rw [cell_of_row _ _ _ _ _ _ hg]; rfl
  have f3 : w.frozen? ⟨g, 3, none⟩ = false := frozen_of_row w g 3 _ _ hg
  obtain ⟨q, Hq⟩ : ∃ q, Hid ((if n < -1 then -1 else if 4611686018427387904 < n then 4611686018427387904 else n) = q) := ⟨_, rfl⟩
  rw [Hq.out]
  have Hcap : Hid (∀ W : World, Calls Try.prog 28 #[.int .i64 n, .int .i64 (-1), .int .i64 4611686018427387904] W fun e w' => e = .returned (.int .i64 q) ∧ W = w') := Lib.hid (fun W => by
    rw [← Hq.out]
    exact (cap_any n (-1) 4611686018427387904 W).mono fun e w' ⟨he, hw⟩ => ⟨he, hw.symm⟩)
  have o1 : Only (fun k => k = g) w (w.setCell ⟨g, 3, none⟩ (.int .i64 q)) := Only.setCell (p := ⟨g, 3, none⟩) (Only.refl (fun k => k = g) w) (.inl rfl) _
  have hp1 : Hid (Bs w A p) := hp
  have hg1 := heap_setCell_same w g 3 _ _ (.int .i64 q) hg
  have HG := Lib.hid hg1
  have H1 := Lib.hid o1
  have HH := Lib.hid h
  have hp2 : Hid ((∀ k, At A k → ¬ k = g) ∨ True) := .inr trivial
  have HB : Hid (Bs (w.setCell ⟨g, 3, none⟩ (.int .i64 q)) A p) := Lib.hid (fun hl => by
    obtain ⟨b, o, e, hc⟩ := hp hl
    refine ⟨b, o, e, fun j hj => ?_⟩
    have hcj := hc j hj
    by_cases hb : b = g
    · subst hb
      rw [cell_of_row _ _ _ _ _ _ hg] at hcj
      exact absurd hcj (by
        rcases o + j with _ | _ | _ | _ | _ | _ | x <;> simp)
    · rw [World.cell?_of_block (H1.out.block b (World.block_lt_of_cell? w _ hcj) hb)]
      exact hcj)
  clear hg o1 hg1 h hbp hap hp
  go_enter Try.func33, Try.ntmps33
  go_wp2_with fail
  refine (Hcap.out _).mono ?_
  rintro e w' ⟨rfl, rfl⟩
  go_wp2_with (at_builtin; refine wpList_append_bs rfl (.const (.slice none 0 0)) _ 30 rfl w.heap.size 5 Try.underlying30 info5 _ [] rfl (Ob.nil_ _ _ _) A p _ c rfl rfl HB.out (by simp; omega) (by simp [World.setCell]) ?_)
  intro v w3 ho hgr
  obtain ⟨A', c', rfl, hbs, hf⟩ := ho.form
  have o2 : Only (fun k => k = g) w w3 := H1.out.grown hgr (by intro k hk; simp [Value.ownBlock] at hk)
  have hg3 : w3.heap[g]? = _ := (hgr.block g (by simpa [World.setCell] using z1) (by simp [Value.ownBlock])).trans HG.out
  have c4 : w3.cell? ⟨g, 4, none⟩ = some (.slice AP fl.pick.length cP) := by rw [cell_of_row _ _ _ _ _ _ hg3]; rfl
  have f4 : w3.frozen? ⟨g, 4, none⟩ = false := frozen_of_row w3 g 4 _ _ hg3
  have o3 : Only (fun k => k = g) w (w3.setCell ⟨g, 4, none⟩ (.slice A' p.length c')) := Only.setCell (p := ⟨g, 4, none⟩) o2 (.inl rfl) _
  have hA' : ∀ k, At A' k → w.heap.size ≤ k := by
    rintro k ⟨a, rfl, rfl⟩
    rcases hf with hf | ⟨g', hf, hle, _⟩
    · cases hf
    · injection hf with hf; subst hf; exact hle
  have o4 : Only (fun k => k = g) w3 (w3.setCell ⟨g, 4, none⟩ (.slice A' p.length c')) := Only.setCell (p := ⟨g, 4, none⟩) (Only.refl (fun k => k = g) w3) (.inl rfl) _
  have Hpost : Hid (StatePost w g gB gW cB cW N (fun k => k = g) (.tuple #[]) ⟨fl.b, fl.worn, fl.steps, q, p, fl.dark⟩ (.returned (.tuple #[])) (w3.setCell ⟨g, 4, none⟩ (.slice A' p.length c'))) := Lib.hid
    ⟨rfl, HH.out.upd (AP := A') (cP := c') (p := p) o3 (hbs.only o4 (fun k hk e => by have := hA' k hk; omega)) (fun k hk => by have := hA' k hk; omega) (heap_setCell_same _ _ _ _ _ _ hg3), o3⟩
  clear hgr ho o2 hg3 o3 o4 hA' hbs hf
  go_wp2_with fail
  go_end0
  exact Hpost.out

set_option maxHeartbeats 400000 in
theorem rspoil_any {g gB gW cB cW N : Nat} {fl : Fl} {w : World} (h : RefFl w g gB gW cB cW N fl) (a : Int) (A : Option Addr) (s : List UInt8) (c : Nat) (hs : Bs w A s) (hA : 0 < s.length → ∀ k, At A k → k ≠ gB) (ha1 : -9223372036854775808 ≤ a) (ha2 : a ≤ 9223372036854775807) (hlen : fl.b.length ≤ 2147483648) (hsl : s.length ≤ 2147483648) :
    Calls Try.prog 35 #[.pointer (some ⟨g, 0, none⟩), .int .i64 a, .slice A s.length c] w
      (StatePost w g gB gW cB cW N (fun k => k = gB) (.int .i64 (if 0 ≤ a ∧ a + s.length ≤ fl.b.length then 0 else 2)) (if 0 ≤ a ∧ a + s.length ≤ fl.b.length then withB fl (laid fl.b a.toNat s) else fl)) := by
  obtain ⟨AP, cP, hg, -, -⟩ := h.cells
  have c0 : w.cell? ⟨g, 0, none⟩ = some (.slice (some ⟨gB, 0, none⟩) fl.b.length cB) := by rw [cell_of_row _ _ _ _ _ _ hg]; rfl
  clear hg
  by_cases hin : 0 ≤ a ∧ a + s.length ≤ fl.b.length
  · rw [if_pos hin, if_pos hin]
    have H : Hid (decide (0 ≤ a ∧ 0 ≤ (s.length : Int) ∧ a + (s.length : Int) ≤ (fl.b.length : Int)) = true) := Lib.hid (decide_eq_true ⟨hin.1, by omega, hin.2⟩)
    obtain ⟨i1, i2⟩ := hin
    obtain ⟨x, rfl⟩ := Int.eq_ofNat_of_zero_le i1
    rw [Int.toNat_natCast]
    go_enter Try.func35, Try.ntmps35
    go_wp2_with fail
    refine (within_is H (by omega) (by omega) (by omega) (by omega) (by omega) (by omega)).mono ?_
    rintro e w' ⟨rfl, rfl⟩
    go_wp2_with fail
    refine (rset_any h x A s c hs hA (by omega) hlen).mono ?_
    rintro e w' ⟨rfl, hr, ho⟩
    go_wp2_with fail
    go_ret
    exact ⟨rfl, hr, ho⟩
  · rw [if_neg hin, if_neg hin]
    have H : Hid (decide (0 ≤ a ∧ 0 ≤ (s.length : Int) ∧ a + (s.length : Int) ≤ (fl.b.length : Int)) = false) := Lib.hid (decide_eq_false (by rintro ⟨q1, -, q3⟩; exact hin ⟨q1, q3⟩))
    clear hin
    go_enter Try.func35, Try.ntmps35
    go_wp2_with fail
    refine (within_is H (by omega) (by omega) (by omega) (by omega) (by omega) (by omega)).mono ?_
    rintro e w' ⟨rfl, rfl⟩
    go_wp2_with fail
    go_ret
    exact ⟨rfl, h, Only.refl _ _⟩

/-- how often a sector was erased -/
def wornAt (l : List Int) (s : Int) : Int := if 0 ≤ s ∧ s < l.length then l.getD s.toNat 0 else 0

theorem Wb.at_ {w : World} {g c : Nat} {l : List Int} (h : Wb w g c l) {k : Nat} (hk : k < l.length) : w.cell? ⟨g, k, none⟩ = some (.int .i64 (l.getD k 0)) := by
  have := World.ownsRow.cellAt h k (by omega)
  rw [this, List.getElem?_map, List.getElem?_eq_getElem hk]
  simp [List.getD, List.getElem?_eq_getElem hk]

set_option maxHeartbeats 400000 in
theorem rerases_any {g gB gW cB cW N : Nat} {fl : Fl} {w : World} (h : RefFl w g gB gW cB cW N fl) (s : Int) (hlen : fl.worn.length ≤ 2147483648) :
    Calls Try.prog 15 #[.pointer (some ⟨g, 0, none⟩), .int .i64 s] w fun e w' => e = .returned (.int .i64 (wornAt fl.worn s)) ∧ w = w' := by
  obtain ⟨AP, cP, hg, -, -⟩ := h.cells
  have c1 : w.cell? ⟨g, 1, none⟩ = some (.slice (some ⟨gW, 0, none⟩) fl.worn.length cW) := by rw [cell_of_row _ _ _ _ _ _ hg]; rfl
  clear hg
  unfold wornAt
  by_cases hs : 0 ≤ s
  · obtain ⟨x, rfl⟩ := Int.eq_ofNat_of_zero_le hs
    by_cases hx : x < fl.worn.length
    · rw [if_pos ⟨hs, by omega⟩, Int.toNat_natCast]
      have hc := h.counts.at_ hx
      generalize fl.worn.getD x 0 = y at *
      go_enter Try.func15, Try.ntmps15
      go_wp2_with fail
      go_ret
      exact ⟨rfl, rfl⟩
    · rw [if_neg (by omega)]
      go_enter Try.func15, Try.ntmps15
      go_wp2_with fail
      go_ret
      exact ⟨rfl, rfl⟩
  · rw [if_neg (by omega)]
    go_enter Try.func15, Try.ntmps15
    go_wp2_with fail
    go_ret
    exact ⟨rfl, rfl⟩
end Go.Proofs.Ytlnpfndjdilfhaa
