/- The contract of the reference's NewFlash. -/
import Derived.Test.YtlnpfndjdilfhaaRefErase
import Derived.Deep.RegionLaw
namespace Go.Proofs.Ytlnpfndjdilfhaa
open Go.RowKit
set_option linter.unusedVariables false

theorem info3 : (Try.prog.info? 3).map (fun i => (i.zero, i.size, i.bytes)) = some (some (.int .i64 0), 1, 8) := by kernel_rfl
theorem make_ints (k : Nat) (hk : k ≤ 2147483648) (u : World) : (Instr.makeSlice 33 (.int .i64 (k : Int)) (.int .i64 (k : Int))).run Try.prog u =
      .ok (.slice (some ⟨u.heap.size, 0, none⟩) k k) (u.alloc (.cells (madeCells #[.int .i64 0] k) 3)) := by
  obtain ⟨i0, hi, hz0, hz1, hz2⟩ := info_parts info3
  have h := run_make (P := Try.prog) u 33 3 i0 (.int .i64 0) Try.underlying33 hi hz0 .i64 .i64 (k : Int) (k : Int) (by omega) (Int.le_refl _) (by rw [hz2]; omega) (by omega)
  simpa [hz1, Value.cells] using h
theorem ints_made (w : World) (k : Nat) (hk : k ≤ 2147483648) : Wb (w.alloc (.cells (madeCells #[.int .i64 0] k) 3)) w.heap.size k (List.replicate k 0) := by
  have h := World.ownsRow_lit (base := 0) (e := 3) (size := 1) w (madeCells #[.int .i64 0] k) k (Nat.zero_le _) (by unfold maxLen; omega) (by simp [size_madeCells])
  unfold Wb
  rw [toList_madeCells_one] at h
  simpa [List.map_replicate] using h

theorem Ob.ne {E : TypeId} {w : World} {base n c g : Nat} {A : Option Addr} {l : List UInt8} {cs : Array Value} {ty : TypeId} (h : Ob E w base (.slice A n c) l) (hg : w.heap[g]? = some (.cells cs ty (0, 0))) (hne : E ≠ ty) : ∀ k, At A k → k ≠ g := by
  rintro k ⟨a, rfl, rfl⟩
  obtain ⟨A', c', e, -, hf⟩ := h.form
  injection e with e1 e2 e3
  subst e1
  rcases hf with hf | ⟨g', hf, -⟩
  · cases hf
  · injection hf with hf
    subst hf
    obtain ⟨cur, hcur⟩ := h.heap
    exact types_ne hcur hg hne
theorem own_at {A : Option Addr} {n c k : Nat} (h : (Value.slice A n c).ownBlock = some k) : At A k := by
  rcases A with _ | a
  · simp [Value.ownBlock] at h
  · simp [Value.ownBlock] at h
    exact ⟨a, rfl, h⟩

/-- k blank sectors -/
def blanks (k : Nat) : List UInt8 := List.replicate (1024 * k) 255
theorem blanks_len (k : Nat) : (blanks k).length = 1024 * k := by simp [blanks]
theorem blanks_succ (k : Nat) : blanks k ++ List.replicate 1024 255 = blanks (k + 1) := by
  unfold blanks
  rw [List.replicate_append_replicate, Nat.mul_succ]

def NewPost (w : World) (n : Nat) (e : Ending) (w' : World) : Prop :=
  ∃ g gB gW cB cW, e = .returned (.pointer (some ⟨g, 0, none⟩)) ∧ (∀ N, RefFl w' g gB gW cB cW N ⟨blanks n, List.replicate n 0, 0, -1, [], false⟩) ∧ Below w.heap.size w w' ∧
    w.heap.size ≤ g ∧ w.heap.size ≤ gB ∧ w.heap.size ≤ gW

set_option maxRecDepth 100000 in
set_option maxHeartbeats 1600000 in
theorem rnew_any (s : Int) (n : Nat) (w : World) (hn : Hid ((if s < 1 then 1 else if 256 < s then 256 else s) = (n : Int))) (hn1 : 1 ≤ n) (hn2 : n ≤ 256) :
    Calls Try.prog 10 #[.int .i64 s] w (NewPost w n) := by
  have Hcap : Hid (∀ W : World, Calls Try.prog 28 #[.int .i64 s, .int .i64 1, .int .i64 256] W fun e w' => e = .returned (.int .i64 (n : Int)) ∧ W = w') := Lib.hid (fun W => by
    rw [← hn.out]
    exact (cap_any s 1 256 W).mono fun e w' ⟨he, hw⟩ => ⟨he, hw.symm⟩)
  have mk : ∀ u : World, (Instr.makeSlice 33 (.int .i64 (n : Int)) (.int .i64 (n : Int))).run Try.prog u = _ := fun u => make_ints n (by omega) u
  go_enter Try.func10, Try.ntmps10
  go_wp2_with fail
  refine (Hcap.out _).mono ?_
  rintro e w' ⟨rfl, rfl⟩
  go_wp2_with fail
  have Hg0 : Hid (w.heap.size + 1 = (w.alloc (.cells (madeCells #[.int .i64 0] n) 3)).heap.size) := Lib.hid (by simp)
  obtain ⟨bl, Hbl⟩ : ∃ l, Hid (List.replicate 1024 (255 : UInt8) = l) := ⟨_, rfl⟩
  have HBL : Hid (∀ W : World, Calls Try.prog 29 #[.int .i64 1024] W (RetOb 5 W bl)) := Lib.hid (fun W => by
    refine (rblank_any 1024 W (by omega) (by omega)).mono fun e w' ⟨v, he, ho, hb⟩ => ⟨v, he, ?_, hb⟩
    have e1 : (max 0 (min (1024 : Int) 65536)).toNat = 1024 := by decide
    rw [e1, Hbl.out] at ho
    exact ho)
  have Hbln : Hid (bl.length = 1024) := Lib.hid (by rw [← Hbl.out, List.length_replicate])
  go_loopw [5] (fun i wr => ∃ (k : Nat) (A : Option Addr) (c : Nat) (r : List UInt8), k ≤ n ∧ i = .int .i64 k ∧ Hid (r = blanks k) ∧
      wr.heap[w.heap.size + 1]? = some (.cells #[.slice A r.length c, .slice (some ⟨w.heap.size, 0, none⟩) n n, .int .i64 0, .int .i64 (-1), .slice none 0 0, .bool false] 35 (0, 0)) ∧
      Ob 5 wr w.heap.size (.slice A r.length c) r ∧ Wb wr w.heap.size n (List.replicate n 0) ∧ Below w.heap.size w wr) (fun i _ => n - (intOf i).toNat)
  case atStart =>
    refine ⟨0, none, 0, [], Nat.zero_le _, rfl, rfl, ?_, Ob.nil_ _ _ _, ?_, ((Below.refl _ _).alloc (Nat.le_refl _) _).alloc (by simp) _⟩
    · rw [Hg0.out]; exact heap_alloc_new _ _
    · exact (ints_made w n (by omega)).only (F := fun _ => False) ((Only.refl _ _).alloc _) (fun h => h)
  case round =>
    obtain ⟨k, A, c, r, hk, rfl, Hr, hg, hown, hwb, hbel⟩ := hrel
    have Hg := Lib.hid hg
    have Hown := Lib.hid hown
    have Hwb := Lib.hid hwb
    have Hbel := Lib.hid hbel
    have hglt : w.heap.size + 1 < wr.heap.size := (Array.getElem?_eq_some_iff.1 hg).1
    by_cases hlt : k < n
    · have c0 : wr.cell? ⟨w.heap.size + 1, 0, none⟩ = some (.slice A r.length c) := by rw [cell_of_row _ _ _ _ _ _ hg]; rfl
      have hrl : r.length ≤ 262144 := by rw [Hr.out, blanks_len]; omega
      have Hgw : Hid (∀ k, At A k → k ≠ w.heap.size) := Lib.hid (by obtain ⟨cur, hcur⟩ := hwb.heap; exact hown.ne hcur (by decide))
      have Hfr : Hid (∀ k, At A k → w.heap.size ≤ k) := Lib.hid hown.fresh
      have hne : ∀ j, (Value.slice A r.length c).ownBlock = some j → j ≠ w.heap.size + 1 := by
        intro j hj
        rcases A with _ | a
        · simp [Value.ownBlock] at hj
        · obtain ⟨A', c', e, -, hf⟩ := hown.form
          injection e with e1 e2 e3
          subst e1
          rcases hf with hf | ⟨g', hf, -⟩
          · cases hf
          · injection hf with hf
            subst hf
            obtain ⟨cur, hcur⟩ := hown.heap
            simp [Value.ownBlock] at hj
            subst hj
            exact types_ne hcur hg (by decide)
      clear hg hown hwb hbel mk
      go_wp2_with fail
      go_region_law (first
        | (go_simp; go_at_call 29; refine (HBL.out _).mono ?_; rintro e w4 ⟨v4, rfl, ho4, hb4⟩; obtain ⟨A4, c4, rfl, hbs4, -⟩ := ho4.form; have Hb4 : Hid (bl.length = bl.length) := rfl; have kb4 : Below wr.heap.size wr w4 := ⟨hb4.os, hb4.tape, hb4.output, hb4.size, hb4.block⟩; have c04 : w4.cell? ⟨w.heap.size + 1, 0, none⟩ = some (.slice A r.length c) := by rw [kb4.cell (p := ⟨w.heap.size + 1, 0, none⟩) hglt]; exact c0)
        | (refine step_append_bs rfl (.tmp 21) (.tmp 22) 30 rfl w.heap.size 5 Try.underlying30 info5 _ r rfl (Hown.out.below kb4) A4 bl _ c4 rfl Hb4.out hbs4 (by have := Hbln.out; omega) (by have := kb4.size; omega) ?_; intro v5 w5 ho5 hgr5; obtain ⟨A5, c5, rfl, -, -⟩ := ho5.form; have Hgr := Lib.hid hgr5; have hg5 := (hgr5.block (w.heap.size + 1) (by have := kb4.size; omega) (fun e => hne _ e.symm rfl)).trans ((kb4.block _ hglt).trans Hg.out); have c05 : w5.cell? ⟨w.heap.size + 1, 0, none⟩ = some (.slice A r.length c) := (by rw [cell_of_row _ _ _ _ _ _ hg5]; rfl); have f05 : w5.frozen? ⟨w.heap.size + 1, 0, none⟩ = false := frozen_of_row w5 (w.heap.size + 1) 0 _ _ hg5; have Hg5 := Lib.hid hg5; have Ho5 := Lib.hid ho5; clear hgr5 hg5 ho5))
      all_goals
        go_wp2_with fail
        have O5 : Hid (Only (fun j => (Value.slice A r.length c).ownBlock = some j) wr w5) := Lib.hid ((Only.of_below kb4).grown Hgr.out (fun j hj => .inl hj))
        have B5 : Hid (Below w.heap.size w w5) := Lib.hid ((Hbel.out.trans (kb4.mono Hbel.out.size)).grown Hgr.out (by have := Hbel.out.size; have := kb4.size; omega) (fun j hj => Hfr.out j (own_at hj)))
        have S5 : Hid (Only (fun j => j = w.heap.size + 1) w5 (w5.setCell ⟨w.heap.size + 1, 0, none⟩ (.slice A5 (r.length + bl.length) c5))) := Lib.hid (Only.setCell (p := ⟨w.heap.size + 1, 0, none⟩) (Only.refl (fun j => j = w.heap.size + 1) w5) (.inl rfl) _)
        go_roundw
        case rel =>
          refine ⟨k + 1, A5, c5, r ++ bl, by omega, by go_num, ?_, ?_, ?_, ?_, ?_⟩
          · show r ++ bl = blanks (k + 1)
            rw [Hr.out, ← Hbl.out]
            exact blanks_succ k
          · rw [List.length_append]
            exact heap_setCell_same _ _ _ _ _ _ Hg5.out
          · exact Ho5.out.only S5.out (Ho5.out.ne Hg5.out (by decide))
          · exact (Hwb.out.only O5.out (fun e => Hgw.out _ (own_at e) rfl)).only S5.out (by omega)
          · exact B5.out.setCell (by simp) _
        case measure => simp [intOf]; omega
    · obtain rfl : k = n := by omega
      have hrl : 0 < r.length := by rw [Hr.out, blanks_len]; omega
      obtain ⟨b1, o1, rfl, -⟩ := hown.bs.at_ hrl
      have ho1 : o1 = 0 := by
        obtain ⟨A', c', e, -, hf⟩ := hown.form
        injection e with e1
        subst e1
        rcases hf with hf | ⟨g', hf, -⟩
        · cases hf
        · injection hf with hf; injection hf with _ hf
      subst ho1
      have HP : Hid (NewPost w k (.returned (.pointer (some ⟨w.heap.size + 1, 0, none⟩))) wr) := Lib.hid
        ⟨w.heap.size + 1, b1, w.heap.size, c, k, rfl, fun N => ⟨⟨none, 0, by rw [← Hr.out]; simpa using hg, Bs.nil_ _ _, by rintro k ⟨a, e, _⟩; cases e⟩, by rw [← Hr.out]; exact hown.low (Nat.zero_le _), by simpa [Wb] using hwb⟩, hbel, by omega, hown.fresh b1 ⟨_, rfl, rfl⟩, Nat.le_refl _⟩
      clear hg hown hwb hbel
      go_wp2_with fail
      go_ret
      exact HP.out
end Go.Proofs.Ytlnpfndjdilfhaa
