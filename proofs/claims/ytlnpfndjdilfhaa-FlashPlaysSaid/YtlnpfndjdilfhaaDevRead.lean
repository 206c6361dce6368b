/- The contracts of the program's Read, Peek, Boot, Spoil, Arm. -/
import Derived.Test.YtlnpfndjdilfhaaDevAsk
import Derived.Test.YtlnpfndjdilfhaaClone
import Derived.Test.YtlnpfndjdilfhaaCopy
namespace Go.Proofs.Ytlnpfndjdilfhaa
open Go.RowKit
set_option linter.unusedVariables false

theorem sizeOf_u8 (W : World) : (sizeOf (Try.prog.elem 30)).run Try.prog W = .ok 1 W := by kernel_rfl
theorem under_bs : Try.prog.underlying 30 = some (.slice (Try.prog.elem 30)) := by kernel_rfl

/-- a part of a row of bytes: where it is empty its address may be another -/
theorem slice_in (g y n c : Nat) (h : y + n ≤ c) : ∃ o, (o = y ∨ n = 0) ∧ ∀ (L : Nat) (u : World),
    (Instr.slice 30 (.slice (some ⟨g, 0, none⟩) L c) (some (.int .i64 (y : Int))) (some (.int .i64 ((y : Int) + (n : Int)))) none).run Try.prog u = .ok (.slice (some ⟨g, o, none⟩) n (c - y)) u := by
  by_cases hc : c = y
  · refine ⟨0, .inr (by omega), fun L u => ?_⟩
    rw [run_slice_lh u _ _ _ _ under_bs _ _ _ _ (by omega) (by omega) (by omega), sizeOf_u8]
    simp only [Result.andThen, sliced, Int.toNat_natCast, if_pos hc]
    have e : ((y : Int) + (n : Int)).toNat - y = n := by omega
    rw [e]
  · refine ⟨y, .inl rfl, fun L u => ?_⟩
    rw [run_slice_lh u _ _ _ _ under_bs _ _ _ _ (by omega) (by omega) (by omega), sizeOf_u8]
    simp only [Result.andThen, sliced, Int.toNat_natCast, if_neg hc, Option.map_some, Nat.mul_one]
    have e : ((y : Int) + (n : Int)).toNat - y = n := by omega
    rw [e]
    congr 3
    unfold Addr.add
    split <;> simp_all
/-- .. to the end -/
theorem slice_to_end (g y L c : Nat) (h : y ≤ L) (hc' : L ≤ c) : ∃ o, (o = y ∨ L - y = 0) ∧ ∀ (u : World),
    (Instr.slice 30 (.slice (some ⟨g, 0, none⟩) L c) (some (.int .i64 (y : Int))) none none).run Try.prog u = .ok (.slice (some ⟨g, o, none⟩) (L - y) (c - y)) u := by
  by_cases hc : c = y
  · refine ⟨0, .inr (by omega), fun u => ?_⟩
    rw [run_slice_l u _ _ _ _ under_bs _ _ (by omega) (by omega), sizeOf_u8]
    simp only [Result.andThen, sliced, Int.toNat_natCast, if_pos hc]
  · refine ⟨y, .inl rfl, fun u => ?_⟩
    rw [run_slice_l u _ _ _ _ under_bs _ _ (by omega) (by omega), sizeOf_u8]
    simp only [Result.andThen, sliced, Int.toNat_natCast, if_neg hc, Option.map_some, Nat.mul_one]
    congr 3
    unfold Addr.add
    split <;> simp_all

theorem Ob.cap {E : TypeId} {w : World} {base g n c : Nat} {l : List UInt8} (h : Ob E w base (.slice (some ⟨g, 0, none⟩) n c) l) : n ≤ c := by
  rcases h.2 with ⟨h', _⟩ | ⟨g', cap, cur, e, _, _, hnc, _⟩
  · simp at h'
  · injection e with e1 e2 e3; subst e3
    have := h.len
    omega
theorem Ob.formN {E : TypeId} {w : World} {base n : Nat} {v : Value} {l : List UInt8} (h : Ob E w base v l) (hn : l.length = n) (hpos : 0 < n) :
    ∃ g c, v = .slice (some ⟨g, 0, none⟩) n c ∧ Bs w (some ⟨g, 0, none⟩) l ∧ n ≤ c ∧ base ≤ g := by
  subst hn
  obtain ⟨A, c, rfl, hb, hf⟩ := h.form
  rcases hf with rfl | ⟨g, rfl, hle, -⟩
  · obtain ⟨b, o, e, -⟩ := hb hpos
    cases e
  · exact ⟨g, c, rfl, hb, h.cap, hle⟩
theorem below_on {w W W' : World} (hb : Below w.heap.size w W) (h : Below W.heap.size W W') : Below w.heap.size w W' := hb.trans (h.mono hb.size)
theorem Bs.cutAt {w : World} {g : Nat} {l : List UInt8} (h : Bs w (some ⟨g, 0, none⟩) l) {a n o : Nat} (hf : a + n ≤ l.length) (ho : o = a ∨ n = 0) : Bs w (some ⟨g, o, none⟩) (Ytlnpfndjdilfhaa.cut l a n) := by
  rcases ho with rfl | rfl
  · exact h.cut hf
  · intro hl; rw [cut_len hf] at hl; omega

/-- .. the contract of Clone, told of a list by another name -/
theorem clone_is {A : Option Addr} {l : List UInt8} {n c : Nat} {w : World} (h : Bs w A l) (hn : Hid (n = l.length)) (hl : n ≤ 2147483648) :
    Calls Try.prog 39 #[.slice A n c] w fun e w' => ∃ v, e = .returned v ∧ Ob 5 w' w.heap.size v l ∧ Below w.heap.size w w' := by
  have := hn.out
  subst this
  exact clone_any A l c w h hl

def dreadOf (d : Dl) (a n : Int) : List UInt8 × Int :=
  if d.off then ([], 5) else if 0 ≤ a ∧ 0 ≤ n ∧ a + n ≤ d.b.length then (cut d.b a.toNat n.toNat, 0) else ([], 2)

set_option maxHeartbeats 800000 in
theorem dread_any {g gB gW cB cW N : Nat} {d : Dl} {w : World} (h : DevFl w g gB gW cB cW N d) (a n : Int) (ha1 : -9223372036854775808 ≤ a) (ha2 : a ≤ 9223372036854775807) (hn1 : -9223372036854775808 ≤ n) (hn2 : n ≤ 9223372036854775807) (hlen : d.b.length ≤ 2147483648) :
    Calls Try.prog 25 #[.pointer (some ⟨g, 0, none⟩), .int .i64 a, .int .i64 n] w (ReadPost w (dreadOf d a n)) := by
  obtain ⟨AP, cP, hg, -, -⟩ := h.cells
  have c0 : w.cell? ⟨g, 0, none⟩ = some (.slice (some ⟨gB, 0, none⟩) d.b.length cB) := by rw [cell_of_row _ _ _ _ _ _ hg]; rfl
  have HG := Lib.hid hg
  clear hg
  have hbs := h.bytes.bs
  have hcap : d.b.length ≤ cB := h.bytes.cap
  obtain ⟨o, Ho⟩ : ∃ o, Hid (o = d.off) := ⟨_, rfl⟩
  have hpw : Calls Try.prog 40 #[.pointer (some ⟨g, 0, none⟩)] w fun e w' => e = .returned (.bool (!o)) ∧ w = w' := by rw [Ho.out]; exact dpowered_any h
  cases o with
  | true =>
    have e : dreadOf d a n = ([], 5) := by simp only [dreadOf, ← Ho.out]; rfl
    rw [e]
    clear e
    go_enter Try.func25, Try.ntmps25
    go_wp2_with (go_at_call 40; refine hpw.mono ?_; rintro e w' ⟨rfl, rfl⟩)
    go_ret2
    exact ⟨_, rfl, Ob.nil_ _ _ _, Below.refl _ _⟩
  | false =>
    by_cases hin : 0 ≤ a ∧ 0 ≤ n ∧ a + n ≤ d.b.length
    · have e : dreadOf d a n = (cut d.b a.toNat n.toNat, 0) := by simp only [dreadOf, ← Ho.out]; rw [if_neg (by simp), if_pos hin]
      rw [e]
      clear e
      have H : Hid (decide (0 ≤ a ∧ 0 ≤ n ∧ a + n ≤ (d.b.length : Int)) = true) := Lib.hid (decide_eq_true hin)
      obtain ⟨i1, i2, i3⟩ := hin
      obtain ⟨x, rfl⟩ := Int.eq_ofNat_of_zero_le i1
      obtain ⟨y, rfl⟩ := Int.eq_ofNat_of_zero_le i2
      rw [Int.toNat_natCast, Int.toNat_natCast]
      have hxy : x + y ≤ d.b.length := by omega
      obtain ⟨o, ho, zs⟩ := slice_in gB x y cB (by omega)
      have hbc := hbs.cutAt hxy ho
      have hcl : Hid (y = (cut d.b x y).length) := Lib.hid (cut_len hxy).symm
      have HC : Hid (∀ c, Calls Try.prog 39 #[.slice (some ⟨gB, o, none⟩) y c] w fun e w' => ∃ v, e = .returned v ∧ Ob 5 w' w.heap.size v (cut d.b x y) ∧ Below w.heap.size w w') := Lib.hid fun c => clone_is hbc hcl (by omega)
      have Hho := Lib.hid ho
      clear ho hbc
      go_enter Try.func25, Try.ntmps25
      go_wp2_with (first
        | (go_at_call 40; refine hpw.mono ?_; rintro e w' ⟨rfl, rfl⟩)
        | (go_at_call 38; refine (dholds_is h H (by omega) (by omega) (by omega) (by omega) hlen).mono ?_; rintro e w' ⟨rfl, rfl⟩)
        | (go_at_call 39; refine (HC.out _).mono ?_; rintro e w2 ⟨v, rfl, ho, hb⟩))
      go_ret2
      exact ⟨_, rfl, ho, hb⟩
    · have e : dreadOf d a n = ([], 2) := by simp only [dreadOf, ← Ho.out]; rw [if_neg (by simp), if_neg hin]
      rw [e]
      clear e
      have H : Hid (decide (0 ≤ a ∧ 0 ≤ n ∧ a + n ≤ (d.b.length : Int)) = false) := Lib.hid (decide_eq_false hin)
      clear hin
      go_enter Try.func25, Try.ntmps25
      go_wp2_with (first
        | (go_at_call 40; refine hpw.mono ?_; rintro e w' ⟨rfl, rfl⟩)
        | (go_at_call 38; refine (dholds_is h H (by omega) (by omega) (by omega) (by omega) hlen).mono ?_; rintro e w' ⟨rfl, rfl⟩))
      go_ret2
      exact ⟨_, rfl, Ob.nil_ _ _ _, Below.refl _ _⟩

def peekOf (d : Dl) (a n : Int) : List UInt8 := if 0 ≤ a ∧ 0 ≤ n ∧ a + n ≤ d.b.length then cut d.b a.toNat n.toNat else []

set_option maxHeartbeats 800000 in
theorem dpeek_any {g gB gW cB cW N : Nat} {d : Dl} {w : World} (h : DevFl w g gB gW cB cW N d) (a n : Int) (ha1 : -9223372036854775808 ≤ a) (ha2 : a ≤ 9223372036854775807) (hn1 : -9223372036854775808 ≤ n) (hn2 : n ≤ 9223372036854775807) (hlen : d.b.length ≤ 2147483648) :
    Calls Try.prog 17 #[.pointer (some ⟨g, 0, none⟩), .int .i64 a, .int .i64 n] w (RetOb 5 w (peekOf d a n)) := by
  obtain ⟨AP, cP, hg, -, -⟩ := h.cells
  have c0 : w.cell? ⟨g, 0, none⟩ = some (.slice (some ⟨gB, 0, none⟩) d.b.length cB) := by rw [cell_of_row _ _ _ _ _ _ hg]; rfl
  have HG := Lib.hid hg
  clear hg
  have hbs := h.bytes.bs
  have hcap : d.b.length ≤ cB := h.bytes.cap
  unfold peekOf
  by_cases hin : 0 ≤ a ∧ 0 ≤ n ∧ a + n ≤ d.b.length
  · rw [if_pos hin]
    have H : Hid (decide (0 ≤ a ∧ 0 ≤ n ∧ a + n ≤ (d.b.length : Int)) = true) := Lib.hid (decide_eq_true hin)
    obtain ⟨i1, i2, i3⟩ := hin
    obtain ⟨x, rfl⟩ := Int.eq_ofNat_of_zero_le i1
    obtain ⟨y, rfl⟩ := Int.eq_ofNat_of_zero_le i2
    rw [Int.toNat_natCast, Int.toNat_natCast]
    have hxy : x + y ≤ d.b.length := by omega
    obtain ⟨o, ho, zs⟩ := slice_in gB x y cB (by omega)
    have hbc := hbs.cutAt hxy ho
    have hcl : Hid (y = (cut d.b x y).length) := Lib.hid (cut_len hxy).symm
    have HC : Hid (∀ c, Calls Try.prog 39 #[.slice (some ⟨gB, o, none⟩) y c] w fun e w' => ∃ v, e = .returned v ∧ Ob 5 w' w.heap.size v (cut d.b x y) ∧ Below w.heap.size w w') := Lib.hid fun c => clone_is hbc hcl (by omega)
    have Hho := Lib.hid ho
    clear ho hbc
    go_enter Try.func17, Try.ntmps17
    go_wp2_with (first
      | (go_at_call 38; refine (dholds_is h H (by omega) (by omega) (by omega) (by omega) hlen).mono ?_; rintro e w' ⟨rfl, rfl⟩)
      | (go_at_call 39; refine (HC.out _).mono ?_; rintro e w2 ⟨v, rfl, ho, hb⟩))
    go_ret
    exact ⟨_, rfl, ho, hb⟩
  · rw [if_neg hin]
    have H : Hid (decide (0 ≤ a ∧ 0 ≤ n ∧ a + n ≤ (d.b.length : Int)) = false) := Lib.hid (decide_eq_false hin)
    clear hin
    go_enter Try.func17, Try.ntmps17
    go_wp2_with (go_at_call 38; refine (dholds_is h H (by omega) (by omega) (by omega) (by omega) hlen).mono ?_; rintro e w' ⟨rfl, rfl⟩)
    go_ret
    exact ⟨_, rfl, Ob.nil_ _ _ _, Below.refl _ _⟩

def DStatePost (w : World) (g gB gW cB cW N : Nat) (F : Nat → Prop) (v : Value) (d : Dl) (e : Ending) (w' : World) : Prop :=
  e = .returned v ∧ DevFl w' g gB gW cB cW N d ∧ Only F w w'

set_option maxHeartbeats 800000 in
theorem dboot_any {g gB gW cB cW N : Nat} {d : Dl} {w : World} (h : DevFl w g gB gW cB cW N d) :
    Calls Try.prog 26 #[.pointer (some ⟨g, 0, none⟩)] w (DStatePost w g gB gW cB cW N (fun k => k = g) (.tuple #[]) ⟨d.b, d.worn, d.steps, false, false, 0, []⟩) := by
  obtain ⟨AP, cP, hg, hbp, hap⟩ := h.cells
  have f3 : w.frozen? ⟨g, 3, none⟩ = false := frozen_of_row w g 3 _ _ hg
  have f4 : w.frozen? ⟨g, 4, none⟩ = false := frozen_of_row w g 4 _ _ hg
  have f5 : w.frozen? ⟨g, 5, none⟩ = false := frozen_of_row w g 5 _ _ hg
  have f6 : w.frozen? ⟨g, 6, none⟩ = false := frozen_of_row w g 6 _ _ hg
  have c3 : w.cell? ⟨g, 3, none⟩ = some (.bool d.off) := by rw [cell_of_row _ _ _ _ _ _ hg]; rfl
  have c4 : w.cell? ⟨g, 4, none⟩ = some (.bool d.armed) := by rw [cell_of_row _ _ _ _ _ _ hg]; rfl
  have c5 : w.cell? ⟨g, 5, none⟩ = some (.int .i64 d.after) := by rw [cell_of_row _ _ _ _ _ _ hg]; rfl
  have c6 : w.cell? ⟨g, 6, none⟩ = some (.slice AP d.pick.length cP) := by rw [cell_of_row _ _ _ _ _ _ hg]; rfl
  have o0 := Only.refl (fun k => k = g) w
  have HP : Hid (DStatePost w g gB gW cB cW N (fun k => k = g) (.tuple #[]) ⟨d.b, d.worn, d.steps, false, false, 0, []⟩ (.returned (.tuple #[])) ((((w.setCell ⟨g, 3, none⟩ (.bool false)).setCell ⟨g, 4, none⟩ (.bool false)).setCell ⟨g, 5, none⟩ (.int .i64 0)).setCell ⟨g, 6, none⟩ (.slice none 0 0))) := Lib.hid (by
    have o4 := (((o0.own 3 (.bool false)).own 4 (.bool false)).own 5 (.int .i64 0)).own 6 (.slice none 0 0)
    exact ⟨rfl, h.upd (AP := none) (cP := 0) (p := []) o4 (Bs.nil_ _ _) (by rintro k ⟨a, e, _⟩; cases e)
      (heap_setCell_same _ _ _ _ _ _ (heap_setCell_same _ _ _ _ _ _ (heap_setCell_same _ _ _ _ _ _ (heap_setCell_same _ _ _ _ _ _ hg)))), o4⟩)
  clear hg h hbp hap o0
  go_enter Try.func26, Try.ntmps26
  go_wp2
  go_end0
  exact HP.out

def dwithB (d : Dl) (b : List UInt8) : Dl := ⟨b, d.worn, d.steps, d.off, d.armed, d.after, d.pick⟩
/-- only the row of bytes has turned -/
theorem DevFl.withB {w w' : World} {g gB gW cB cW N : Nat} {d : Dl} (h : DevFl w g gB gW cB cW N d) (ho : Only (fun k => k = gB) w w') {b : List UInt8} (hlen : b.length = d.b.length) (hb : Ob 5 w' 0 (.slice (some ⟨gB, 0, none⟩) d.b.length cB) b) :
    DevFl w' g gB gW cB cW N (dwithB d b) := by
  obtain ⟨n1, n2, n3⟩ := h.ne
  obtain ⟨AP, cP, hg, hbp, hap⟩ := h.cells
  refine ⟨⟨AP, cP, ?_, hbp.only ho (fun k hk => (hap k hk).2.1), hap⟩, ?_, h.counts.only ho (fun e => n3 e.symm)⟩
  · rw [ho.block g (Array.getElem?_eq_some_iff.1 hg).1 n1]
    have e : (dwithB d b).b.length = d.b.length := hlen
    rw [e]
    exact hg
  · show Ob _ _ _ (.slice _ b.length cB) b
    rw [hlen]
    exact hb

set_option maxHeartbeats 800000 in
theorem dspoil_any {g gB gW cB cW N : Nat} {d : Dl} {w : World} (h : DevFl w g gB gW cB cW N d) (a : Int) (A : Option Addr) (s : List UInt8) (c : Nat) (hs : Bs w A s) (ha1 : -9223372036854775808 ≤ a) (ha2 : a ≤ 9223372036854775807) (hlen : d.b.length ≤ 2147483648) (hsl : s.length ≤ 2147483648) :
    Calls Try.prog 18 #[.pointer (some ⟨g, 0, none⟩), .int .i64 a, .slice A s.length c] w
      (DStatePost w g gB gW cB cW N (fun k => k = gB) (.int .i64 (if 0 ≤ a ∧ a + s.length ≤ d.b.length then 0 else 2)) (if 0 ≤ a ∧ a + s.length ≤ d.b.length then dwithB d (laid d.b a.toNat s) else d)) := by
  obtain ⟨AP, cP, hg, -, -⟩ := h.cells
  have c0 : w.cell? ⟨g, 0, none⟩ = some (.slice (some ⟨gB, 0, none⟩) d.b.length cB) := by rw [cell_of_row _ _ _ _ _ _ hg]; rfl
  have HG := Lib.hid hg
  clear hg
  have hcap : d.b.length ≤ cB := h.bytes.cap
  by_cases hin : 0 ≤ a ∧ a + s.length ≤ d.b.length
  · rw [if_pos hin, if_pos hin]
    have H : Hid (decide (0 ≤ a ∧ 0 ≤ (s.length : Int) ∧ a + (s.length : Int) ≤ (d.b.length : Int)) = true) := Lib.hid (decide_eq_true ⟨hin.1, by omega, hin.2⟩)
    obtain ⟨i1, i2⟩ := hin
    obtain ⟨x, rfl⟩ := Int.eq_ofNat_of_zero_le i1
    rw [Int.toNat_natCast]
    obtain ⟨o, ho, zs⟩ := slice_to_end gB x d.b.length cB (by omega) hcap
    have Hho := Lib.hid ho
    have HH := Lib.hid h
    have Hob := Lib.hid h.bytes
    have HS := Lib.hid hs
    clear ho hs
    go_enter Try.func18, Try.ntmps18
    go_wp2_with (first
      | (go_at_call 38; refine (dholds_is HH.out H (by omega) (by omega) (by omega) (by omega) hlen).mono ?_; rintro e w' ⟨rfl, rfl⟩)
      | (with_reducible refine wpList_copy_bs rfl (.tmp 20) (.tmp 21) 30 30 rfl 0 5 Try.underlying30 info5s gB d.b.length cB d.b Hob.out (some ⟨gB, o, none⟩) x (d.b.length - x) (cB - x) rfl A s s.length c s.length rfl HS.out rfl (Nat.min_eq_left (by omega)).symm (fun hk => by rcases Hho.out with rfl | h0 <;> first | rfl | omega) (by omega) ?_))
    intro w2 ho2 hon
    have HP : Hid (DStatePost w g gB gW cB cW N (fun k => k = gB) (.int .i64 0) (dwithB d (laid d.b x s)) (.returned (.int .i64 0)) w2) := Lib.hid ⟨rfl, HH.out.withB hon (laid_len _ _ _) ho2, hon⟩
    clear ho2 hon
    go_wp2
    go_ret
    exact HP.out
  · rw [if_neg hin, if_neg hin]
    have H : Hid (decide (0 ≤ a ∧ 0 ≤ (s.length : Int) ∧ a + (s.length : Int) ≤ (d.b.length : Int)) = false) := Lib.hid (decide_eq_false (by rintro ⟨q1, -, q3⟩; exact hin ⟨q1, q3⟩))
    clear hin
    go_enter Try.func18, Try.ntmps18
    go_wp2_with (go_at_call 38; refine (dholds_is h H (by omega) (by omega) (by omega) (by omega) hlen).mono ?_; rintro e w' ⟨rfl, rfl⟩)
    go_ret
    exact ⟨rfl, h, Only.refl _ _⟩
end Go.Proofs.Ytlnpfndjdilfhaa
