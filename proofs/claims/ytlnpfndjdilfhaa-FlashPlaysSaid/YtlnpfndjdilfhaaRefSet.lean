/- The contract of the reference's set: bytes laid at a place. -/
import Derived.Test.YtlnpfndjdilfhaaRefFl
namespace Go.Proofs.Ytlnpfndjdilfhaa
open Go.RowKit
set_option linter.unusedVariables false

/-- l, with the first k bytes of s laid at a -/
def laidTo (l : List UInt8) (a : Nat) (s : List UInt8) (k : Nat) : List UInt8 := (List.range l.length).map fun i => if a ≤ i ∧ i < a + k then s.getD (i - a) 0 else l.getD i 0
def laid (l : List UInt8) (a : Nat) (s : List UInt8) : List UInt8 := laidTo l a s s.length
theorem laidTo_len (l a s k) : (laidTo l a s k).length = l.length := by simp [laidTo]
theorem laid_len (l a s) : (laid l a s).length = l.length := laidTo_len _ _ _ _
theorem laidTo_get {l : List UInt8} {a : Nat} {s : List UInt8} {k i : Nat} (h : i < l.length) : (laidTo l a s k).getD i 0 = if a ≤ i ∧ i < a + k then s.getD (i - a) 0 else l.getD i 0 := by
  simp only [laidTo]
  rw [getD_map_range _ _ _ h]
theorem laidTo_zero (l a s) : laidTo l a s 0 = l := by
  apply list_ext_getD (laidTo_len _ _ _ _)
  intro i hi
  rw [laidTo_len] at hi
  rw [laidTo_get hi, if_neg (by omega)]
theorem laidTo_step {l : List UInt8} {a : Nat} {s : List UInt8} {k : Nat} (hk : a + k < l.length) : (laidTo l a s k).set (a + k) (s.getD k 0) = laidTo l a s (k + 1) := by
  have := range_set l.length (a + k) (fun i => if a ≤ i ∧ i < a + k then s.getD (i - a) 0 else l.getD i 0) (fun i => if a ≤ i ∧ i < a + (k + 1) then s.getD (i - a) 0 else l.getD i 0) hk (by
    intro i hi
    by_cases h : a ≤ i ∧ i < a + k
    · rw [if_pos h, if_pos (by omega)]
    · rw [if_neg h, if_neg (by omega)])
  have e : a ≤ a + k ∧ a + k < a + (k + 1) := by omega
  have e2 : a + k - a = k := by omega
  simp only [e, and_self, if_true, e2] at this
  exact this

def withB (fl : Fl) (b : List UInt8) : Fl := ⟨b, fl.worn, fl.steps, fl.left, fl.pick, fl.dark⟩

/-- only the row of bytes has turned -/
theorem RefFl.withB {w w' : World} {g gB gW cB cW N : Nat} {fl : Fl} (h : RefFl w g gB gW cB cW N fl) (ho : Only (fun k => k = gB) w w') {b : List UInt8} (hlen : b.length = fl.b.length) (hb : Ob 5 w' 0 (.slice (some ⟨gB, 0, none⟩) fl.b.length cB) b) :
    RefFl w' g gB gW cB cW N (withB fl b) := by
  obtain ⟨n1, n2, n3⟩ := h.ne
  obtain ⟨AP, cP, hg, hbp, hap⟩ := h.cells
  refine ⟨⟨AP, cP, ?_, hbp.only ho (fun k hk => (hap k hk).2.1), hap⟩, ?_, h.counts.only ho (fun e => n3 e.symm)⟩
  · rw [ho.block g (Array.getElem?_eq_some_iff.1 hg).1 n1]
    have e : (Ytlnpfndjdilfhaa.withB fl b).b.length = fl.b.length := hlen
    rw [e]
    exact hg
  · show Ob _ _ _ (.slice _ b.length cB) b
    rw [hlen]
    exact hb

def SetPost (w : World) (g gB gW cB cW N : Nat) (fl : Fl) (a : Nat) (s : List UInt8) (e : Ending) (w' : World) : Prop :=
  e = .returned (.tuple #[]) ∧ RefFl w' g gB gW cB cW N (withB fl (laid fl.b a s)) ∧ Only (fun k => k = gB) w w'

set_option maxHeartbeats 800000 in
theorem rset_any {g gB gW cB cW N : Nat} {fl : Fl} {w : World} (h : RefFl w g gB gW cB cW N fl) (a : Nat) (A : Option Addr) (s : List UInt8) (c : Nat) (hs : Bs w A s) (hA : 0 < s.length → ∀ k, At A k → k ≠ gB) (hfit : a + s.length ≤ fl.b.length) (hlen : fl.b.length ≤ 2147483648) :
    Calls Try.prog 48 #[.pointer (some ⟨g, 0, none⟩), .int .i64 (a : Int), .slice A s.length c] w (SetPost w g gB gW cB cW N fl a s) := by
  obtain ⟨AP, cP, hg, -, -⟩ := h.cells
  obtain ⟨n1, n2, n3⟩ := h.ne
  have c0 : w.cell? ⟨g, 0, none⟩ = some (.slice (some ⟨gB, 0, none⟩) fl.b.length cB) := by rw [cell_of_row _ _ _ _ _ _ hg]; rfl
  have Hg := Lib.hid hg
  clear hg
  have Hob := Lib.hid h.bytes
  have hbnd := h.bytes
  go_enter Try.func48, Try.ntmps48
  go_wp2
  go_loopw [6] (fun i wr => ∃ k : Nat, k ≤ s.length ∧ i = .int .i64 k ∧ Ob 5 wr 0 (.slice (some ⟨gB, 0, none⟩) fl.b.length cB) (laidTo fl.b a s k) ∧ Only (fun k => k = gB) w wr) (fun i _ => s.length - (intOf i).toNat)
  case atStart => exact ⟨0, Nat.zero_le _, rfl, by rw [laidTo_zero]; exact Hob.out, Only.refl _ _⟩
  case round =>
    obtain ⟨k, hk, rfl, hown, hon⟩ := hrel
    by_cases hlt : k < s.length
    · have hlb : a + k < fl.b.length := by omega
      obtain ⟨b1, o1, e1, hc1⟩ := hown.bs.at_ (k := a + k) (by rw [laidTo_len]; exact hlb)
      injection e1 with e1
      injection e1 with e1 e2
      subst e1
      subst e2
      rw [Nat.zero_add] at hc1
      obtain ⟨b3, o3, rfl, hc3⟩ := (hs.only hon (hA (by omega))).at_ hlt
      have c0' : wr.cell? ⟨g, 0, none⟩ = some (.slice (some ⟨gB, 0, none⟩) fl.b.length cB) := by
        rw [World.cell?_of_block (hon.block g (World.block_lt_of_cell? w _ c0) n1)]; exact c0
      have hfr : wr.frozen? ⟨gB, a + k, none⟩ = false := hown.frozen _
      have hst := hown.set_ (a + k) (s.getD k 0)
      rw [laidTo_step hlb] at hst
      have hon2 : Only (fun k => k = gB) w (wr.setCell ⟨gB, a + k, none⟩ (bval (s.getD k 0))) := Only.setCell (p := ⟨gB, a + k, none⟩) hon (.inl rfl) _
      generalize s.getD k 0 = x at *
      generalize (laidTo fl.b a s k).getD (a + k) 0 = y at *
      have Hst := Lib.hid hst
      have Hon := Lib.hid hon2
      clear hst hon2 hown hon hs hbnd h
      go_wp2_with fail
      go_region
      go_wp2_with fail
      go_roundw
      case rel => exact ⟨k + 1, by omega, by go_num, Ob.drewN Hst.out 1, Hon.out.drew⟩
      case measure => simp [intOf]; omega
    · have hkk : k = s.length := by omega
      subst hkk
      have HP : Hid (SetPost w g gB gW cB cW N fl a s (.returned (.tuple #[])) wr) := Lib.hid ⟨rfl, h.withB hon (laid_len _ _ _) hown, hon⟩
      clear hown hon hs hbnd h
      go_wp2
      go_end0
      exact HP.out
end Go.Proofs.Ytlnpfndjdilfhaa
