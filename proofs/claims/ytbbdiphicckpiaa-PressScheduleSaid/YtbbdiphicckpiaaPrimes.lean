/- The contracts of roots.divisible and roots.Primes. -/
import Derived.Test.YtbbdiphicckpiaaSquare2
namespace Go.Proofs.Ytbbdiphicckpiaa
open Go.RowKit
set_option linter.unusedVariables false
set_option maxRecDepth 100000

set_option maxHeartbeats 1600000 in
theorem divisible_any (x : Nat) (A : Option Addr) (l : List Nat) (c : Nat) (w : World) (h : Us w A l) (hl : l.length ≤ 2147483648) (hq : ∀ q ∈ l, 0 < q) :
    Calls Try.prog 31 #[.int .u64 (x : Int), .slice A l.length c] w fun e w' => e = .returned (.bool (l.any fun q => decide (x % q = 0))) ∧ w' = w := by
  obtain ⟨v, hv⟩ : ∃ v, (l.any fun q => decide (x % q = 0)) = v := ⟨_, rfl⟩
  rw [hv]
  have HV := Lib.hid hv
  clear hv
  go_enter Try.func31, Try.ntmps31
  go_wp2
  go_loop [9] (fun i => ∃ k : Nat, k ≤ l.length ∧ i = .int .i64 k ∧ Hid ((l.take k).any (fun q => decide (x % q = 0)) = false)) (fun i => l.length - (intOf i).toNat)
  case atStart => exact ⟨0, by omega, rfl, Lib.hid rfl⟩
  case round =>
    obtain ⟨k, hk, rfl, hn⟩ := hrel
    by_cases hlt : k < l.length
    · obtain ⟨bb, oo, rfl, hc⟩ := h.at_ hlt
      obtain ⟨y, hy⟩ : ∃ y, l.getD k 0 = y := ⟨_, rfl⟩
      rw [hy] at hc
      have hyk : l[k] = y := by rw [← hy]; simp [List.getD, hlt]
      have hy0 : 0 < y := by rw [← hyk]; exact hq _ (List.getElem_mem hlt)
      have hs : (l.take (k + 1)).any (fun q => decide (x % q = 0)) = decide (x % y = 0) := by
        rw [List.take_succ_eq_append_getElem hlt, List.any_append, hn.out, hyk]; simp
      by_cases hd : x % y = 0
      · have hend : Hid (v = true) := Lib.hid (by
          rw [← HV.out, List.any_eq_true]; exact ⟨l[k], List.getElem_mem hlt, by rw [hyk]; simpa using hd⟩)
        have hd' : (x : Int) % (y : Int) = 0 := by omega
        clear hs hn hyk hy hq h hd
        go_wp2
        go_ret
        exact ⟨by rw [hend.out]; rfl, rfl⟩
      · have hs' : Hid ((l.take (k + 1)).any (fun q => decide (x % q = 0)) = false) := Lib.hid (by rw [hs]; simpa using hd)
        have hd' : ((x : Int) % (y : Int) == 0) = false := by simp; omega
        clear hs hn hyk hy hd
        go_wp2
        go_round
        case rel => exact ⟨k + 1, by omega, by go_num, hs'⟩
        case measure => simp [intOf]; omega
    · obtain rfl : k = l.length := by omega
      have hend : Hid (v = false) := Lib.hid (by rw [← HV.out, ← hn.out, List.take_length])
      clear hn
      go_wp2
      go_ret
      exact ⟨by rw [hend.out]; rfl, rfl⟩

theorem info64 : (Try.prog.info? 22).map (fun i => (i.zero, i.size, i.bytes)) = some (some (.int .u64 0), 1, 8) := by kernel_rfl

theorem make_cap64 (k : Nat) (hk : k ≤ 2147483648) (u : World) : (Instr.makeSlice 41 (.int .i64 0) (.int .i64 (k : Int))).run Try.prog u =
      .ok (.slice (some ⟨u.heap.size, 0, none⟩) 0 k) (u.alloc (.cells (madeCells #[.int .u64 0] k) 22)) := by
  obtain ⟨i0, hi, hz0, hz1, hz2⟩ := info_parts info64
  have h := run_make (P := Try.prog) u 41 22 i0 (.int .u64 0) Try.underlying41 hi hz0 .i64 .i64 0 (k : Int) (by omega) (by omega) (by rw [hz2]; omega) (by omega)
  simpa [hz1, Value.cells] using h
theorem cap_made64 (w : World) (k : Nat) (hk : k ≤ 2147483648) : Uo 22 (w.alloc (.cells (madeCells #[.int .u64 0] k) 22)) w.heap.size (.slice (some ⟨w.heap.size, 0, none⟩) 0 k) [] :=
  ⟨by simp, .inr ⟨w.heap.size, k, _, rfl, Nat.le_refl _, heap_alloc_new _ _, Nat.zero_le _, by unfold maxLen; omega, by simp [size_madeCells], by simp⟩⟩
theorem make_full64 (k : Nat) (hk : k ≤ 2147483648) (u : World) : (Instr.makeSlice 41 (.int .i64 (k : Int)) (.int .i64 (k : Int))).run Try.prog u =
      .ok (.slice (some ⟨u.heap.size, 0, none⟩) k k) (u.alloc (.cells (madeCells #[.int .u64 0] k) 22)) := by
  obtain ⟨i0, hi, hz0, hz1, hz2⟩ := info_parts info64
  have h := run_make (P := Try.prog) u 41 22 i0 (.int .u64 0) Try.underlying41 hi hz0 .i64 .i64 (k : Int) (k : Int) (by omega) (by omega) (by rw [hz2]; omega) (by omega)
  simpa [hz1, Value.cells] using h
theorem own_made64 (w : World) (k : Nat) (hk : k ≤ 2147483648) : Uo 22 (w.alloc (.cells (madeCells #[.int .u64 0] k) 22)) w.heap.size (.slice (some ⟨w.heap.size, 0, none⟩) k k) (List.replicate k 0) := by
  have h := World.ownsRow_lit (base := w.heap.size) (e := 22) (size := 1) w (madeCells #[.int .u64 0] k) k (Nat.le_refl _) (by unfold maxLen; omega) (by simp [size_madeCells])
  unfold Uo
  rw [toList_madeCells_one] at h
  simpa [List.map_replicate, uval] using h
theorem us_lit1 (w : World) (E : TypeId) (x : Nat) : Us (w.alloc (.cells #[.int .u64 (x : Int)] E)) (some ⟨w.heap.size, 0, none⟩) [x] := fun _ =>
  ⟨_, _, rfl, fun j hj => by
    have : j = 0 := by simpa using hj
    subst this
    have := heap_alloc_new w (.cells #[.int .u64 (x : Int)] E)
    rw [cell_of_row _ _ _ _ _ _ this]
    simp⟩

def clampN (n : Int) : Nat := (max 0 (min n 100)).toNat

theorem Uo.fresh {E : TypeId} {w : World} {base : Nat} {v : Value} {l : List Nat} (h : Uo E w base v l) : ∀ k, v.ownBlock = some k → base ≤ k := by
  intro k hk
  rcases h.2 with ⟨rfl, _⟩ | ⟨g, cap, cur, rfl, hb, _⟩
  · simp [Value.ownBlock] at hk
  · simp [Value.ownBlock] at hk
    omega

def NIs (n : Nat) (w : World) (s : Value) (w' : World) : Prop := s = .int .i64 (n : Int) ∧ w' = w

set_option maxHeartbeats 3200000 in
theorem primes_any (n : Int) (h1 : -9223372036854775808 ≤ n) (h2 : n ≤ 9223372036854775807) (w : World) :
    Calls Try.prog 29 #[.int .i64 n] w fun e w' => ∃ v, e = .returned v ∧ Uo 22 w' w.heap.size v (P100.take (clampN n)) ∧ Below w.heap.size w w' := by
  obtain ⟨K, hK⟩ : ∃ K, clampN n = K := ⟨_, rfl⟩
  have hK2 : K ≤ 100 := by rw [← hK]; unfold clampN; omega
  rw [hK]
  have hKn : Hid (max 0 (min n 100) = (K : Int)) := Lib.hid (by rw [← hK]; unfold clampN; omega)
  clear hK
  have mk := fun u => make_cap64 K (by omega) u
  go_enter Try.func29, Try.ntmps29
  go_upto_region 1 with fail
  go_cut [0] (NIs K w)
  case first =>
    go_wp2_with fail
    all_goals go_meet
    all_goals
      refine ⟨?_, rfl⟩
      have h0 := hKn.out
      congr 1
      omega
  case rest =>
    obtain ⟨rfl, rfl⟩ := hcut
    have HU0 := Lib.hid (cap_made64 wc K (by omega))
    have HB0 : Hid (Below wc.heap.size wc (wc.alloc (.cells (madeCells #[.int .u64 0] K) 22))) := Lib.hid ((Below.refl _ _).alloc (Nat.le_refl _) _)
    go_wp2_with fail
    go_loopw [3, 4] (fun sl x wr => ∃ (y : Nat) (A : Option Addr) (c : Nat) (l : List Nat), Hid (2 ≤ y) ∧ y ≤ 542 ∧ x = .int .u64 (y : Int) ∧ Hid (l = pl y) ∧ l.length ≤ K ∧ sl = .slice A l.length c ∧ Hid (Uo 22 wr wc.heap.size (.slice A l.length c) l) ∧ Hid (Below wc.heap.size wc wr)) (fun _ x _ => 543 - (intOf x).toNat)
    case atStart => exact ⟨2, _, _, [], Lib.hid (by omega), by omega, rfl, Lib.hid (by rw [pl_two]), by simp, rfl, HU0, HB0⟩
    case round =>
      obtain ⟨y, A, c, l, hy2, hy, rfl, hl, hlK, rfl, Hown, Hbel⟩ := hrel
      clear HU0 HB0 mk hKn
      by_cases hlt : l.length < K
      · have hy1 : y < 542 := by
          rcases Nat.lt_or_ge y 542 with g | g
          · exact g
          · have e : y = 542 := by omega
            have := hl.out
            rw [e, pl_all] at this
            rw [this, P100_len] at hlt
            omega
        have HD : Hid (Calls Try.prog 31 #[.int .u64 (y : Int), .slice A l.length c] wr fun e w' => e = .returned (.bool (!isP y)) ∧ wr = w') := Lib.hid (by
          have := divisible_any y A l c wr Hown.out.bs (by omega) (fun q hq => by rw [hl.out] at hq; have := (mem_pl.1 hq).2.1; omega)
          rw [isP_any hy2.out, Bool.not_not]
          rw [hl.out] at this ⊢
          exact this.mono fun e w' h => ⟨h.1, h.2.symm⟩)
        by_cases hp : isP y = true
        · rw [hp] at HD
          have hl2 : Hid (l ++ [y] = pl (y + 1)) := Lib.hid (by rw [pl_succ y hy2.out, if_pos hp, hl.out])
          have HU1 : Hid (Us (wr.alloc (.cells #[.int .u64 (y : Int)] 22)) (some ⟨wr.heap.size, 0, none⟩) [y]) := Lib.hid (us_lit1 wr _ y)
          have HO1 : Hid (Uo 22 (wr.alloc (.cells #[.int .u64 (y : Int)] 22)) wc.heap.size (.slice A l.length c) l) := Lib.hid (Hown.out.below ((Below.refl _ _).alloc (Nat.le_refl _) _))
          have hz : wc.heap.size ≤ wr.heap.size := Hbel.out.size
          have HY2 : Hid (2 ≤ y + 1) := Lib.hid (by have := hy2.out; omega)
          clear hp hl hy2
          go_wp2_with (first
            | (go_at_call 31; refine HD.out.mono ?_; rintro e w' ⟨rfl, rfl⟩)
            | (at_builtin; refine wpList_append_us rfl (.tmp 20) (.tmp 22) 41 rfl wc.heap.size 22 Try.underlying41 info64 (.slice A l.length c) l rfl HO1.out (some ⟨wr.heap.size, 0, none⟩) [y] 1 1 rfl rfl HU1.out (by simp; omega) (by simp; omega) ?_))
          intro v5 w5 ho5 hgr5
          obtain ⟨A5, c5, rfl, -, -⟩ := ho5.form
          have B5 : Hid (Below wc.heap.size wc w5) := Lib.hid ((Hbel.out.alloc hz _).grown hgr5 (by simp; omega) Hown.out.fresh)
          have hl5 : (l ++ [y]).length = l.length + 1 := by simp
          have HO5 := Lib.hid ho5
          clear ho5 hgr5 HD HU1 HO1 Hown Hbel
          go_wp2_with fail
          go_roundw
          case rel => exact ⟨y + 1, A5, c5, l ++ [y], HY2, by omega, by go_num, hl2, by omega, by first | rfl | rw [hl5], HO5, B5⟩
          case measure => simp [intOf]; omega
        · have hp' : isP y = false := by simpa using hp
          rw [hp'] at HD
          have hl2 : Hid (l = pl (y + 1)) := Lib.hid (by rw [pl_succ y hy2.out, if_neg hp, hl.out])
          have HY2 : Hid (2 ≤ y + 1) := Lib.hid (by have := hy2.out; omega)
          clear hp hp' hl hy2
          go_wp2_with (go_at_call 31; refine HD.out.mono ?_; rintro e w' ⟨rfl, rfl⟩)
          clear HD
          go_roundw
          case rel => exact ⟨y + 1, A, c, l, HY2, by omega, by go_num, hl2, hlK, rfl, Hown, Hbel⟩
          case measure => simp [intOf]; omega
      · obtain rfl : K = l.length := by omega
        have HF : Hid (l = P100.take l.length) := Lib.hid (by have := pl_take hy; rw [← hl.out] at this; exact this)
        clear hl hy2
        go_wp2
        go_ret
        exact ⟨_, rfl, by rw [← HF.out]; exact Hown.out, Hbel.out⟩
end Go.Proofs.Ytbbdiphicckpiaa

