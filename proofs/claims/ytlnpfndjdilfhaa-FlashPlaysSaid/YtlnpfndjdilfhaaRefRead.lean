/- The contract of the reference's Read. -/
import Derived.Test.YtlnpfndjdilfhaaRefSet
namespace Go.Proofs.Ytlnpfndjdilfhaa
open Go.RowKit
set_option linter.unusedVariables false

/-- n bytes from a on -/
def cut (l : List UInt8) (a n : Nat) : List UInt8 := (l.drop a).take n
theorem cut_len {l : List UInt8} {a n : Nat} (h : a + n ≤ l.length) : (cut l a n).length = n := by simp [cut]; omega
theorem cut_get {l : List UInt8} {a n i : Nat} (h : i < n) : (cut l a n).getD i 0 = l.getD (a + i) 0 := by
  simp [cut, List.getD, h, List.getElem?_drop]
theorem Bs.cut {w : World} {g : Nat} {l : List UInt8} (h : Bs w (some ⟨g, 0, none⟩) l) {a n : Nat} (hf : a + n ≤ l.length) : Bs w (some ⟨g, a, none⟩) (cut l a n) := fun hl => by
  rw [cut_len hf] at hl
  obtain ⟨b, o, e, hc⟩ := h (by omega)
  injection e with e
  injection e with e1 e2
  subst e1
  subst e2
  refine ⟨g, a, rfl, fun j hj => ?_⟩
  rw [cut_len hf] at hj
  rw [cut_get hj]
  have := hc (a + j) (by omega)
  rwa [Nat.zero_add] at this

def readOf (fl : Fl) (a n : Int) : List UInt8 × Int :=
  if fl.dark then ([], 5) else if 0 ≤ a ∧ 0 ≤ n ∧ a + n ≤ fl.b.length then (cut fl.b a.toNat n.toNat, 0) else ([], 2)

def ReadPost (w : World) (r : List UInt8 × Int) (e : Ending) (w' : World) : Prop :=
  ∃ v, e = .returned (.tuple #[v, .int .i64 r.2]) ∧ Ob 5 w' w.heap.size v r.1 ∧ Below w.heap.size w w'

theorem within_is {a n s : Int} {b : Bool} {w : World} (H : Hid (decide (0 ≤ a ∧ 0 ≤ n ∧ a + n ≤ s) = b)) (hs : 0 ≤ s) (ha1 : -9223372036854775808 ≤ a) (ha2 : a ≤ 9223372036854775807) (hn1 : -9223372036854775808 ≤ n) (hn2 : n ≤ 9223372036854775807) (hs2 : s ≤ 9223372036854775807) :
    Calls Try.prog 45 #[.int .i64 a, .int .i64 n, .int .i64 s] w fun e w' => e = .returned (.bool b) ∧ w = w' :=
  (within_any a n s w hs ha1 ha2 hn1 hn2 hs2).mono fun _ _ ⟨he, hw⟩ => ⟨by rw [he, H.out], hw⟩

set_option maxHeartbeats 800000 in
theorem rread_any {g gB gW cB cW N : Nat} {fl : Fl} {w : World} (h : RefFl w g gB gW cB cW N fl) (a n : Int) (ha1 : -9223372036854775808 ≤ a) (ha2 : a ≤ 9223372036854775807) (hn1 : -9223372036854775808 ≤ n) (hn2 : n ≤ 9223372036854775807) (hlen : fl.b.length ≤ 2147483648) :
    Calls Try.prog 30 #[.pointer (some ⟨g, 0, none⟩), .int .i64 a, .int .i64 n] w (ReadPost w (readOf fl a n)) := by
  obtain ⟨AP, cP, hg, -, -⟩ := h.cells
  have c0 : w.cell? ⟨g, 0, none⟩ = some (.slice (some ⟨gB, 0, none⟩) fl.b.length cB) := by rw [cell_of_row _ _ _ _ _ _ hg]; rfl
  have c5 : w.cell? ⟨g, 5, none⟩ = some (.bool fl.dark) := by rw [cell_of_row _ _ _ _ _ _ hg]; rfl
  clear hg
  have hbs := h.bytes.bs
  have hcap : fl.b.length ≤ cB := by
    rcases h.bytes.2 with ⟨h', _⟩ | ⟨g', cap, cur, e, _, _, hnc, _⟩
    · simp at h'
    · injection e with e1 e2 e3; subst e3; exact hnc
  cases hd : fl.dark with
  | true =>
    have e : readOf fl a n = ([], 5) := by simp [readOf, hd]
    rw [e]
    rw [hd] at c5
    clear e hd
    go_enter Try.func30, Try.ntmps30
    go_wp2
    go_ret2
    exact ⟨_, rfl, Ob.nil_ _ _ _, Below.refl _ _⟩
  | false =>
    rw [hd] at c5
    by_cases hin : 0 ≤ a ∧ 0 ≤ n ∧ a + n ≤ fl.b.length
    · have e : readOf fl a n = (cut fl.b a.toNat n.toNat, 0) := by simp only [readOf, hd]; rw [if_neg (by simp), if_pos hin]
      rw [e]
      clear e hd
      have H : Hid (decide (0 ≤ a ∧ 0 ≤ n ∧ a + n ≤ (fl.b.length : Int)) = true) := Lib.hid (decide_eq_true hin)
      obtain ⟨i1, i2, i3⟩ := hin
      obtain ⟨x, rfl⟩ := Int.eq_ofNat_of_zero_le i1
      obtain ⟨y, rfl⟩ := Int.eq_ofNat_of_zero_le i2
      rw [Int.toNat_natCast, Int.toNat_natCast]
      have hxy : x + y ≤ fl.b.length := by omega
      have hcut := Lib.hid (cut_len (l := fl.b) hxy)
      have hbc : Hid (∀ o, (o = x ∨ y = 0) → Bs w (some ⟨gB, o, none⟩) (cut fl.b x y)) := Lib.hid (fun o ho => by
        rcases ho with rfl | rfl
        · exact hbs.cut hxy
        · intro hl; rw [hcut.out] at hl; omega)
      by_cases hcx : cB = x
      · have hy : y = 0 := by omega
        subst hy
        subst hcx
        go_enter Try.func30, Try.ntmps30
        go_wp2_with fail
        refine (within_is H (by omega) ha1 ha2 hn1 hn2 (by omega)).mono ?_
        rintro e w' ⟨rfl, rfl⟩
        have he : cut fl.b cB 0 = [] := by simp [cut]
        rw [he]
        clear he
        go_wp2_with fail
        go_ret2
        exact ⟨_, rfl, Ob.nil_ _ _ _, Below.refl _ _⟩
      · go_enter Try.func30, Try.ntmps30
        go_wp2_with fail
        refine (within_is H (by omega) ha1 ha2 hn1 hn2 (by omega)).mono ?_
        rintro e w' ⟨rfl, rfl⟩
        go_wp2_with (at_builtin; refine wpList_append_bs rfl (.const (.slice none 0 0)) _ 30 rfl w.heap.size 5 Try.underlying30 info5 _ [] rfl (Ob.nil_ _ _ _) (some ⟨gB, x, none⟩) (cut fl.b x y) _ _ rfl (by rw [hcut.out]; omega) (hbc.out x (.inl rfl)) (by rw [hcut.out]; simp; omega) (Nat.le_refl _) ?_)
        intro v w2 ho hg
        have hb := below_of_grown hg
        clear hg
        go_wp2_with fail
        go_ret2
        exact ⟨_, rfl, ho, hb⟩
    · have e : readOf fl a n = ([], 2) := by simp only [readOf, hd]; rw [if_neg (by simp), if_neg hin]
      rw [e]
      clear e hd
      have H : Hid (decide (0 ≤ a ∧ 0 ≤ n ∧ a + n ≤ (fl.b.length : Int)) = false) := Lib.hid (decide_eq_false hin)
      clear hin
      go_enter Try.func30, Try.ntmps30
      go_wp2_with fail
      refine (within_is H (by omega) ha1 ha2 hn1 hn2 (by omega)).mono ?_
      rintro e w' ⟨rfl, rfl⟩
      go_wp2_with fail
      go_ret2
      exact ⟨_, rfl, Ob.nil_ _ _ _, Below.refl _ _⟩
end Go.Proofs.Ytlnpfndjdilfhaa
