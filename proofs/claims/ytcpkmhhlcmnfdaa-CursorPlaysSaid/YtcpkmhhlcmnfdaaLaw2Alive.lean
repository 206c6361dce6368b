/- The contracts of bootjacklaw2.num and alive. -/
import Derived.Test.YtcpkmhhlcmnfdaaGdfl
import Derived.Test.YtcpkmhhlcmnfdaaGbase
namespace Go.Proofs.Ytcpkmhhlcmnfdaa
open Go.RowKit
set_option linter.unusedVariables false
set_option maxRecDepth 100000

theorem conv_now {w : World} {A : Option Addr} {l : List UInt8} {n c : Nat} {s : ByteArray} (h1 : Bs w A l) (e1 : n = l.length) (hs : strB l = s) : (convert 22 9 (.slice A n c)).run Try.prog w = .ok (.string s) w := by
  rw [← hs]
  exact run_conv_bs w _ 5 _ Try.underlying22 Try.underlying5 Try.underlying9 A l c n h1 e1

theorem below_fl {w W W' : World} {g gB gW : Nat} (hb : Below w.heap.size w W) (ho : Only (FlF g gB gW) W W') (h1 : w.heap.size ≤ g) (h2 : w.heap.size ≤ gB) (h3 : w.heap.size ≤ gW) : Below w.heap.size w W' :=
  hb.trans (ho.below hb.size (fun k hk hF => by rcases hF with rfl | rfl | rfl <;> omega))

/-- what lies in a block of its own is off the flash -/
theorem off_new {w : World} {g gB gW cB cW N : Nat} {d : Dl} (h : DevFl w g gB gW cB cW N d) {A : Option Addr} {l : List UInt8} (hA : ∀ k, At A k → w.heap.size ≤ k) : Off (FlF g gB gW) A l := fun _ k hk hF => by
  have := hA k hk
  obtain ⟨h1, h2, h3⟩ := h.blk
  rcases hF with rfl | rfl | rfl <;> omega

/-- what was there before the flash is off it -/
theorem off_old {w : World} {g gB gW : Nat} (h1 : w.heap.size ≤ g) (h2 : w.heap.size ≤ gB) (h3 : w.heap.size ≤ gW) {A : Option Addr} {l : List UInt8} (hA : Bs w A l) : Off (FlF g gB gW) A l := fun hl k hk hF => by
  obtain ⟨b, o, rfl, hc⟩ := hA hl
  obtain ⟨a, e, rfl⟩ := hk
  injection e with e
  subst e
  have := World.block_lt_of_cell? w _ (hc 0 hl)
  rcases hF with e | e | e <;> simp at e this <;> omega

theorem bs_lit (w : World) (E : TypeId) (l : List UInt8) : Bs (w.alloc (.cells (l.map bval).toArray E)) (some ⟨w.heap.size, 0, none⟩) l := fun _ =>
  ⟨_, _, rfl, fun j hj => by
    have := heap_alloc_new w (.cells (l.map bval).toArray E)
    rw [cell_of_row _ _ _ _ _ _ this]
    simp [hj, bval, List.getD]⟩

theorem getD_rep (n i : Nat) (x : UInt8) (h : i < n) : (List.replicate n x).getD i 0 = x := by simp [List.getD, h]

theorem cut_self (l : List UInt8) : cut l 0 l.length = l := by simp [cut]
theorem alive_math (b : List UInt8) (wn : List Int) (hb : b.length = 1024) (hw : wn.length = 1) (hw0 : ∀ x ∈ wn, x = 0) (hb0 : ∀ i, i < 8 → b.getD i 0 = 255) (z : List UInt8) (hz : z = List.replicate 8 0) :
    DlOk ⟨b, wn, 0, false, false, 0, []⟩ ∧ ∃ d1 : Dl, dprogOf ⟨b, wn, 0, false, false, 0, []⟩ 0 z = (0, d1) ∧ d1.b.length = 1024 ∧ d1.steps = 1 ∧ DlOk d1 ∧ dprogOf d1 0 [1, 1, 1, 1, 1, 1, 1, 1] = (4, d1) := by
  have ok0 : DlOk ⟨b, wn, 0, false, false, 0, []⟩ := ⟨by simp [hb, hw], by simp [hw], fun x hx => by have := hw0 x hx; omega, by simp, by simp, by simp, by simp, by simp⟩
  have hzl : z.length = 8 := by rw [hz]; simp
  have ok1 : DlOk ⟨laid b 0 z, wn, 1, false, false, 0, []⟩ := ⟨by simp [hb, hw, laid_len], by simp [hw], fun x hx => by have := hw0 x hx; omega, by simp, by simp, by simp, by simp, by simp⟩
  refine ⟨ok0, ⟨laid b 0 z, wn, 1, false, false, 0, []⟩, ?_, by simp [laid_len, hb], rfl, ok1, ?_⟩
  · unfold dprogOf
    rw [if_neg (by simp), if_neg (by simp [hb, hzl]), if_neg (by simp [hzl]), if_neg]
    · rw [hzl]
      show dprogTo _ 0 z 1 = _
      have hc : cut z 0 8 = z := by rw [← hzl]; exact cut_self z
      rw [dprogTo, if_pos (show (dprogTo ⟨b, wn, 0, false, false, 0, []⟩ 0 z 0).1 = 0 from rfl)]
      show dwordOf _ 0 (cut z 0 8) = _
      rw [hc]
      rfl
    · rw [Bool.not_eq_false]
      refine canB_true (by rw [cut_len (by simp [hb, hzl])]) fun i hi => ?_
      rw [cut_len (by simp [hb, hzl]), hzl] at hi
      rw [hz, getD_rep _ _ _ hi]
      simp
  · have hl : (laid b 0 z).length = 1024 := by rw [laid_len, hb]
    unfold dprogOf
    rw [if_neg (by simp), if_neg (by simp [hl]), if_neg (by simp), if_pos]
    refine canB_false (k := 0) (by rw [cut_len (by simp [hl])]; simp) ?_
    rw [cut_get (by simp)]
    show _ &&& ~~~((laid b 0 z).getD 0 0) ≠ 0
    rw [laid_get (by omega), if_pos (by omega), hz, getD_rep _ _ _ (by omega)]
    decide
theorem blanks_get {n i : Nat} (h : i < 1024 * n) : (blanks n).getD i 0 = 255 := getD_rep _ _ _ h

end Go.Proofs.Ytcpkmhhlcmnfdaa

