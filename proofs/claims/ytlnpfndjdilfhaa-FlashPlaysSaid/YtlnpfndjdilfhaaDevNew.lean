/- The contract of the program's New. -/
import Derived.Test.YtlnpfndjdilfhaaDevWord
import Derived.Test.YtlnpfndjdilfhaaRefNew
namespace Go.Proofs.Ytlnpfndjdilfhaa
open Go.RowKit
set_option linter.unusedVariables false

theorem make_cap (k : Nat) (hk : k ≤ 2147483648) (u : World) : (Instr.makeSlice 30 (.int .i64 0) (.int .i64 (k : Int))).run Try.prog u =
      .ok (.slice (some ⟨u.heap.size, 0, none⟩) 0 k) (u.alloc (.cells (madeCells #[.int .u8 0] k) 5)) := by
  obtain ⟨i0, hi, hz0, hz1, hz2⟩ := info_parts info5
  have h := run_make (P := Try.prog) u 30 5 i0 (.int .u8 0) Try.underlying30 hi hz0 .i64 .i64 0 (k : Int) (by omega) (by omega) (by rw [hz2]; omega) (by omega)
  simpa [hz1, Value.cells] using h
theorem cap_made (w : World) (k : Nat) (hk : k ≤ 2147483648) : Ob 5 (w.alloc (.cells (madeCells #[.int .u8 0] k) 5)) w.heap.size (.slice (some ⟨w.heap.size, 0, none⟩) 0 k) [] :=
  ⟨by simp, .inr ⟨w.heap.size, k, _, rfl, Nat.le_refl _, heap_alloc_new _ _, Nat.zero_le _, by unfold maxLen; omega, by simp [size_madeCells], by simp⟩⟩

def DNewPost (w : World) (n : Nat) (e : Ending) (w' : World) : Prop :=
  ∃ g gB gW cB cW, e = .returned (.pointer (some ⟨g, 0, none⟩)) ∧ (∀ N, DevFl w' g gB gW cB cW N ⟨blanks n, List.replicate n 0, 0, false, false, 0, []⟩) ∧ Below w.heap.size w w' ∧
    w.heap.size ≤ g ∧ w.heap.size ≤ gB ∧ w.heap.size ≤ gW

def SlotIs (n : Nat) (w : World) (s : Value) (w' : World) : Prop := s = .int .i64 (n : Int) ∧ w' = w

set_option maxRecDepth 100000 in
set_option maxHeartbeats 1600000 in
theorem dnew_any (s : Int) (n : Nat) (w : World) (hn : Hid ((if s < 1 then 1 else if 256 < s then 256 else s) = (n : Int))) (hn1 : 1 ≤ n) (hn2 : n ≤ 256) :
    Calls Try.prog 9 #[.int .i64 s] w (DNewPost w n) := by
  have mk : ∀ u : World, (Instr.makeSlice 33 (.int .i64 (n : Int)) (.int .i64 (n : Int))).run Try.prog u = _ := fun u => make_ints n (by omega) u
  obtain ⟨bl, Hbl⟩ : ∃ l, Hid (List.replicate 1024 (255 : UInt8) = l) := ⟨_, rfl⟩
  have HBL : Hid (∀ W : World, Calls Try.prog 27 #[.int .i64 1024] W (RetIn 5 W bl)) := Lib.hid (fun W => by
    rw [← Hbl.out]
    exact blank_in (Below.refl _ _) (n := 1024) (k := 1024) rfl (by omega))
  have Hbln : Hid (bl.length = 1024) := Lib.hid (by rw [← Hbl.out, List.length_replicate])
  go_enter Try.func9, Try.ntmps9
  go_upto_region 1 with fail
  go_cut [0] (SlotIs n w)
  case first =>
    go_wp2_with fail
    all_goals go_meet
    all_goals
      refine ⟨?_, rfl⟩
      have h0 := hn.out
      congr 1
      revert h0
      repeat' split
      all_goals omega
  case rest =>
    obtain ⟨rfl, rfl⟩ := hcut
    have mk2 : ∀ u : World, (Instr.makeSlice 30 (.int .i64 0) (.int .i64 ((n : Int) * 1024))).run Try.prog u = .ok (.slice (some ⟨u.heap.size, 0, none⟩) 0 (n * 1024)) (u.alloc (.cells (madeCells #[.int .u8 0] (n * 1024)) 5)) := fun u => by
      have := make_cap (n * 1024) (by omega) u
      rwa [Int.natCast_mul] at this
    obtain ⟨w0, Hw0⟩ : ∃ w0 : World, Hid (wc = w0) := ⟨_, rfl⟩
    have hbe0 : Hid (Below wc.heap.size wc (wc.alloc (.cells (madeCells #[.int .u8 0] (n * 1024)) 5))) := Lib.hid ((Below.refl _ _).alloc (Nat.le_refl _) _)
    have hob0 := Lib.hid (cap_made wc (n * 1024) (by omega))
    go_wp2_with fail
    go_loopw [3, 11] (fun sl i wr => ∃ (k : Nat) (A : Option Addr) (c : Nat) (r : List UInt8), k ≤ n ∧ i = .int .i64 k ∧ Hid (r = blanks k) ∧ sl = .slice A r.length c ∧
        Hid (Ob 5 wr wc.heap.size (.slice A r.length c) r) ∧ Hid (Below wc.heap.size wc wr)) (fun _ i _ => n - (intOf i).toNat)
    case atStart => exact ⟨0, _, _, [], Nat.zero_le _, rfl, rfl, rfl, hob0, hbe0⟩
    case round =>
      obtain ⟨k, A, c, r, hk, rfl, Hr, rfl, Hown, Hbel⟩ := hrel
      by_cases hlt : k < n
      · have hrl : r.length ≤ 262144 := by rw [Hr.out, blanks_len]; omega
        go_wp2_with (first
          | (go_at_call 27; refine (HBL.out _).mono ?_; rintro e w4 ⟨A4, c4, n4, rfl, hn4, hbs4, kb4⟩; have KB := Lib.hid kb4; have HB4 := Lib.hid hbs4; have HN4 := Lib.hid hn4; clear kb4 hbs4 hn4)
          | (at_builtin; refine wpList_append_bs rfl (.tmp 13) (.tmp 14) 30 rfl wc.heap.size 5 Try.underlying30 info5 _ r rfl (Hown.out.below KB.out) A4 bl _ c4 rfl HN4.out HB4.out (by have := Hbln.out; omega) (by have := KB.out.size; have := Hbel.out.size; omega) ?_))
        intro v5 w5 ho5 hgr5
        obtain ⟨A5, c5, rfl, -, -⟩ := ho5.form
        have Hlen : Hid (r.length + bl.length = (r ++ bl).length) := Lib.hid List.length_append.symm
        have B5 : Hid (Below wc.heap.size wc w5) := Lib.hid ((Hbel.out.trans (KB.out.mono Hbel.out.size)).grown hgr5 (by have := Hbel.out.size; have := KB.out.size; omega) (fun j hj => Hown.out.fresh j (own_at hj)))
        have Ho5 := Lib.hid ho5
        clear hgr5 ho5
        go_wp2_with fail
        go_roundw
        case rel =>
          refine ⟨k + 1, A5, c5, r ++ bl, by omega, by go_num, ?_, ?_, Ho5, B5⟩
          · show r ++ bl = blanks (k + 1)
            rw [Hr.out, ← Hbl.out]
            exact blanks_succ k
          · rw [List.length_append]
        case measure => simp [intOf]; omega
      · obtain rfl : k = n := by omega
        have hrl : 0 < r.length := by rw [Hr.out, blanks_len]; omega
        obtain ⟨b1, o1, rfl, -⟩ := Hown.out.bs.at_ hrl
        have ho1 : o1 = 0 := by
          obtain ⟨A', c', e, -, hf⟩ := Hown.out.form
          injection e with e1
          subst e1
          rcases hf with hf | ⟨g', hf, -⟩
          · cases hf
          · injection hf with hf; injection hf with _ hf
        subst ho1
        have hz : wr.heap.size ≥ wc.heap.size := Hbel.out.size
        have Hob := Hown.out
        have Hbe := Hbel.out
        have hW := ints_made wr k (by omega)
        have HP : Hid (DNewPost wc k (.returned (.pointer (some ⟨wr.heap.size + 1, 0, none⟩))) ((wr.alloc (.cells (madeCells #[.int .i64 0] k) 3)).alloc (.cells #[.slice (some ⟨b1, 0, none⟩) r.length c, .slice (some ⟨wr.heap.size, 0, none⟩) k k, .int .i64 0, .bool false, .bool false, .int .i64 0, .slice none 0 0] 56))) := Lib.hid (by
          refine ⟨wr.heap.size + 1, b1, wr.heap.size, c, k, rfl, fun N => ⟨⟨none, 0, ?_, Bs.nil_ _ _, by rintro k ⟨a, e, _⟩; cases e⟩, ?_, ?_⟩, ((Hbe.alloc hz _).alloc (by simp; omega) _), by omega, Hob.fresh b1 ⟨_, rfl, rfl⟩, hz⟩
          · have e := heap_alloc_new (wr.alloc (.cells (madeCells #[.int .i64 0] k) 3)) (.cells #[.slice (some ⟨b1, 0, none⟩) r.length c, .slice (some ⟨wr.heap.size, 0, none⟩) k k, .int .i64 0, .bool false, .bool false, .int .i64 0, .slice none 0 0] 56)
            rw [show (wr.alloc (.cells (madeCells #[.int .i64 0] k) 3)).heap.size = wr.heap.size + 1 by simp] at e
            rw [e, ← Hr.out]
            simp
          · have e := ((Hob.low (Nat.zero_le _)).below ((Below.refl _ _).alloc (Nat.le_refl _) (.cells (madeCells #[.int .i64 0] k) 3)))
            have e2 := e.below ((Below.refl _ _).alloc (Nat.le_refl _) (.cells #[.slice (some ⟨b1, 0, none⟩) r.length c, .slice (some ⟨wr.heap.size, 0, none⟩) k k, .int .i64 0, .bool false, .bool false, .int .i64 0, .slice none 0 0] 56))
            rw [← Hr.out]
            exact e2
          · have := hW.only (F := fun _ => False) ((Only.refl _ _).alloc (.cells #[.slice (some ⟨b1, 0, none⟩) r.length c, .slice (some ⟨wr.heap.size, 0, none⟩) k k, .int .i64 0, .bool false, .bool false, .int .i64 0, .slice none 0 0] 56)) (fun h => h)
            simpa [Wb] using this)
        clear Hob Hbe hW
        go_wp2_with fail
        go_ret
        exact HP.out
end Go.Proofs.Ytlnpfndjdilfhaa
