/- The contracts of the reference's Region: IsBlank, Of. -/
import Derived.Test.YtcpkmhhlcmnfdaaRefRegion
import Derived.Test.YtcpkmhhlcmnfdaaGref
namespace Go.Proofs.Ytcpkmhhlcmnfdaa
open Go.RowKit
set_option linter.unusedVariables false
set_option maxRecDepth 100000

def rgBlank (f : Fl) (a c : Nat) (s : Int) : Bool × Int := if f.dark then (false, 5) else if 0 ≤ s ∧ s < (c : Int) then ((rgRead f a c (s * 1024) 1024).1.all (· == 255), 0) else (false, 2)
def FlagPost (w : World) (r : Bool × Int) (e : Ending) (w' : World) : Prop := e = .returned (.tuple #[.bool r.1, .int .i64 r.2]) ∧ Below w.heap.size w w'

theorem readOf_len (f : Fl) (t n : Int) : (readOf f t n).1.length ≤ f.b.length := by
  unfold readOf
  split
  · simp
  · split
    · rename_i h
      rw [cut_len (by omega)]
      omega
    · simp
theorem rgRead_len (f : Fl) (a c : Nat) (t n : Int) : (rgRead f a c t n).1.length ≤ f.b.length := by
  unfold rgRead
  split
  · simp
  · split
    · exact readOf_len _ _ _
    · simp

set_option maxHeartbeats 1600000 in
theorem rgblank_any {g gB gW cB cW N : Nat} {f : Fl} {w : World} (h : RefFl w g gB gW cB cW N f) (a c : Nat) (ha : a ≤ 65536) (hc : c ≤ 65536) (s : Int) (s1 : -9223372036854775808 ≤ s) (s2 : s ≤ 9223372036854775807) (hlen : f.b.length ≤ 2147483648) :
    Calls Try.prog 70 #[.agg #[.pointer (some ⟨g, 0, none⟩), .int .i64 (a : Int), .int .i64 (c : Int)], .int .i64 s] w (FlagPost w (rgBlank f a c s)) := by
  obtain ⟨AP, cP, hg, -, -⟩ := h.cells
  have c5 : w.cell? ⟨g, 5, none⟩ = some (.bool f.dark) := by rw [cell_of_row _ _ _ _ _ _ hg]; rfl
  have hz : g < w.heap.size := (Array.getElem?_eq_some_iff.1 hg).1
  have hb0 : Below w.heap.size w (w.alloc (.cells #[.pointer (some ⟨g, 0, none⟩), .int .i64 (a : Int), .int .i64 (c : Int)] 40)) := (Below.refl _ _).alloc (Nat.le_refl _) _
  have HB0 := Lib.hid hb0
  have H0 := Lib.hid (h.below hb0)
  unfold rgBlank
  clear hg h hb0
  cases hd : f.dark with
  | true =>
    rw [hd] at c5
    rw [if_pos rfl]
    clear hd
    go_enter Try.func70, Try.ntmps70
    go_wp2
    go_ret2
    exact ⟨rfl, HB0.out⟩
  | false =>
    rw [hd] at c5
    rw [if_neg (by simp)]
    by_cases h1 : 0 ≤ s
    · by_cases h2 : s < (c : Int)
      · rw [if_pos ⟨h1, h2⟩]
        have d1 : decide (s < 0) = false := decide_eq_false (by omega)
        have d2 : decide ((c : Int) ≤ s) = false := decide_eq_false (by omega)
        have hrd := rgread_any H0.out a c ha hc (s * 1024) 1024 (by omega) (by omega) (by omega) (by omega) hlen
        have hrl := rgRead_len f a c (s * 1024) 1024
        obtain ⟨rl, rc, Hr⟩ : ∃ rl rc, Hid (rgRead f a c (s * 1024) 1024 = (rl, rc)) := ⟨_, _, rfl⟩
        rw [Hr.out] at hrd hrl ⊢
        have HRD := Lib.hid hrd
        have Hrl : Hid (rl.length ≤ 2147483648) := Lib.hid (Nat.le_trans hrl hlen)
        obtain ⟨q, Hq⟩ : ∃ q, Hid (rl.all (· == 255) = q) := ⟨_, rfl⟩
        clear hd hrd hrl
        go_enter Try.func70, Try.ntmps70
        go_wp2_with fail
        refine HRD.out.mono ?_
        rintro e w2 ⟨v, rfl, ho, hb2⟩
        obtain ⟨A2, c2, rfl, hbs2, -⟩ := ho.form
        have HB2 := Lib.hid (below_on HB0.out hb2)
        have HIB : Hid (Calls Try.prog 80 #[.slice A2 rl.length c2] w2 fun e w' => e = .returned (.bool q) ∧ w2 = w') := Lib.hid (by rw [← Hq.out]; exact risBlank_any A2 rl c2 w2 hbs2 Hrl.out)
        clear ho hb2 hbs2
        go_wp2_with fail
        refine HIB.out.mono ?_
        rintro e w3 ⟨rfl, rfl⟩
        go_wp2_with fail
        go_ret2
        refine ⟨?_, HB2.out⟩
        rw [← Hq.out]
        rfl
      · rw [if_neg (fun h => h2 h.2)]
        have d1 : decide (s < 0) = false := decide_eq_false (by omega)
        have d2 : decide ((c : Int) ≤ s) = true := decide_eq_true (by omega)
        clear hd
        go_enter Try.func70, Try.ntmps70
        go_wp2
        go_ret2
        exact ⟨rfl, HB0.out⟩
    · rw [if_neg (fun h => h1 h.1)]
      have d1 : decide (s < 0) = true := decide_eq_true (by omega)
      clear hd
      go_enter Try.func70, Try.ntmps70
      go_wp2
      go_ret2
      exact ⟨rfl, HB0.out⟩

/-- which regions there are -/
def ofB (n : Nat) (a c : Int) : Bool := decide (0 ≤ a) && decide (1 ≤ c) && decide (a + c ≤ (n : Int))
theorem ofB_iff {n : Nat} {a c : Int} : ofB n a c = true ↔ 0 ≤ a ∧ 1 ≤ c ∧ a + c ≤ (n : Int) := by
  unfold ofB
  simp only [Bool.and_eq_true, decide_eq_true_eq, and_assoc]

def OfPost (w : World) (g : Nat) (a c : Int) (b : Bool) (e : Ending) (w' : World) : Prop :=
  e = .returned (if b then .tuple #[.agg #[.pointer (some ⟨g, 0, none⟩), .int .i64 a, .int .i64 c], .int .i64 0] else .tuple #[.agg #[.pointer none, .int .i64 0, .int .i64 0], .int .i64 1]) ∧ Below w.heap.size w w'

set_option maxHeartbeats 1600000 in
theorem rof_any {g gB gW cB cW N : Nat} {f : Fl} {w : World} (h : RefFl w g gB gW cB cW N f) (hw : f.worn.length ≤ 65536) (a c : Int) (a1 : -9223372036854775808 ≤ a) (a2 : a ≤ 9223372036854775807) (c1 : -9223372036854775808 ≤ c) (c2 : c ≤ 9223372036854775807) :
    Calls Try.prog 15 #[.pointer (some ⟨g, 0, none⟩), .int .i64 a, .int .i64 c] w (OfPost w g a c (ofB f.worn.length a c)) := by
  obtain ⟨AP, cP, hg, -, -⟩ := h.cells
  have k1 : w.cell? ⟨g, 1, none⟩ = some (.slice (some ⟨gW, 0, none⟩) f.worn.length cW) := by rw [cell_of_row _ _ _ _ _ _ hg]; rfl
  have hz : g < w.heap.size := (Array.getElem?_eq_some_iff.1 hg).1
  obtain ⟨n, Hn⟩ : ∃ n, Hid (f.worn.length = n) := ⟨_, rfl⟩
  rw [Hn.out] at k1 hw ⊢
  clear hg h
  unfold OfPost
  by_cases h1 : 0 ≤ a
  · have d1 : decide (a < 0) = false := decide_eq_false (by omega)
    by_cases h2 : 1 ≤ c
    · have d2 : decide (c < 1) = false := decide_eq_false (by omega)
      by_cases h3 : a + c ≤ (n : Int)
      · have hb : ofB n a c = true := ofB_iff.2 ⟨h1, h2, h3⟩
        rw [hb, if_pos rfl]
        have H : Hid (decide (0 ≤ a ∧ 0 ≤ c ∧ a + c ≤ (n : Int)) = true) := Lib.hid (decide_eq_true ⟨h1, by omega, h3⟩)
        clear hb
        go_enter Try.func15, Try.ntmps15
        go_wp2_with (go_at_call 41; (with_reducible refine (within_is H (by omega) a1 a2 c1 c2 (by omega)).mono ?_); rintro e w2 ⟨rfl, rfl⟩)
        exact bodyPost_ret (v := .tuple #[.agg #[.pointer (some ⟨g, 0, none⟩), .int .i64 a, .int .i64 c], .int .i64 0]) (by simp [results, Try.results15, go_sem]) rfl ⟨rfl, (Below.refl _ _).alloc (Nat.le_refl _) _⟩
      · have hb : ofB n a c = false := by rw [Bool.eq_false_iff]; intro h; exact h3 (ofB_iff.1 h).2.2
        rw [hb, if_neg (by simp)]
        have H : Hid (decide (0 ≤ a ∧ 0 ≤ c ∧ a + c ≤ (n : Int)) = false) := Lib.hid (decide_eq_false (fun h => h3 h.2.2))
        clear hb
        go_enter Try.func15, Try.ntmps15
        go_wp2_with (go_at_call 41; (with_reducible refine (within_is H (by omega) a1 a2 c1 c2 (by omega)).mono ?_); rintro e w2 ⟨rfl, rfl⟩)
        exact bodyPost_ret (v := .tuple #[.agg #[.pointer none, .int .i64 0, .int .i64 0], .int .i64 1]) (by simp [results, Try.results15, go_sem]) rfl ⟨rfl, (Below.refl _ _).alloc (Nat.le_refl _) _⟩
    · have d2 : decide (c < 1) = true := decide_eq_true (by omega)
      have hb : ofB n a c = false := by rw [Bool.eq_false_iff]; intro h; exact h2 (ofB_iff.1 h).2.1
      rw [hb, if_neg (by simp)]
      clear hb
      go_enter Try.func15, Try.ntmps15
      go_wp2
      exact bodyPost_ret (v := .tuple #[.agg #[.pointer none, .int .i64 0, .int .i64 0], .int .i64 1]) (by simp [results, Try.results15, go_sem]) rfl ⟨rfl, (Below.refl _ _).alloc (Nat.le_refl _) _⟩
  · have d1 : decide (a < 0) = true := decide_eq_true (by omega)
    have hb : ofB n a c = false := by rw [Bool.eq_false_iff]; intro h; exact h1 (ofB_iff.1 h).1
    rw [hb, if_neg (by simp)]
    clear hb
    go_enter Try.func15, Try.ntmps15
    go_wp2
    exact bodyPost_ret (v := .tuple #[.agg #[.pointer none, .int .i64 0, .int .i64 0], .int .i64 1]) (by simp [results, Try.results15, go_sem]) rfl ⟨rfl, (Below.refl _ _).alloc (Nat.le_refl _) _⟩
end Go.Proofs.Ytcpkmhhlcmnfdaa

