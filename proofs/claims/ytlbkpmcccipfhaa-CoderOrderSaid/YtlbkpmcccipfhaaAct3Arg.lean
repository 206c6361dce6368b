/- What the frame tells of the rows of calls of layers 15 to 17. -/
import Derived.Test.YtlbkpmcccipfhaaAct3
import Derived.Test.YtlbkpmcccipfhaaGbase
import Derived.Deep.Slices
import Derived.Deep.Fields
import Derived.ChangeSame
import Derived.ChangeSlices
namespace Go.Proofs.Ytlbkpmcccipfhaa
open Go.RowKit Go.ChangeShapes Go.WideShapes Go.Deep
set_option linter.unusedVariables false
set_option maxRecDepth 100000

theorem wf_u8 {i : Int} (h : (Lit.int .u8 i).wf = true) : 0 ≤ i ∧ i < 256 := by
  have := h
  simp [Lit.wf, IntKind.min, IntKind.max, IntKind.signed, IntKind.bits] at this
  omega
theorem acts16_of {H : Type} {enc : TypeId × Value → H} {W : World} {base : Nat} {held : Bool} {fuel : Nat} {a : Option Addr} {len cap : Nat} {x : DataW H × List MemPlace}
    (h : DataW.trod enc Try.prog W base (fun _ => true) held fuel 22 [.slice a len cap] = some x) : ∃ L : List ActID, L.length = len ∧ ActIs W a L ∧ len ≤ 9223372036854775807 := by
  obtain ⟨f0, f1, f2, hu, y0, y1, y2, hone⟩ : ∃ f0 f1 f2 : Field, Try.prog.underlying 33 = some (.struct #[f0, f1, f2]) ∧ f0.type = 3 ∧ f1.type = 3 ∧ f2.type = 3 ∧ oneCellFields Try.prog #[f0, f1, f2] = true :=
    ⟨_, _, _, Try.underlying33, rfl, rfl, rfl, by kernel_rfl⟩
  have hC : Try.prog.cellsOf 33 = 3 := by kernel_rfl
  rcases open_slice Try.underlying22 h with ⟨hcs, _⟩ | ⟨ad, l, c, m, n, D, Pl, hcs, _, hl, hm, hmm, _, hi⟩
  · injection hcs with hcs
    injection hcs with e1 e2 e3
    exact ⟨[], e2.symm, fun h => absurd h (by simp), by omega⟩
  · injection hcs with hcs
    injection hcs with e1 e2 e3
    subst e1
    subst e2
    subst e3
    have hlm : len ≤ m := by rw [hmm]; simp; exact hl
    have hmx : len ≤ 9223372036854775807 := by unfold maxLen at hm; omega
    have hsp0 : 0 < len → ad.spot = none := fun hlen0 => by
      obtain ⟨cs', hc', _⟩ := hi 0 (by omega)
      rw [hC] at hc'
      obtain ⟨_, hcl, hcell⟩ := World.cells?_some hc'
      have c0 := hcell 0 (by omega)
      rw [List.getElem?_eq_getElem (by omega)] at c0
      have := World.cell?_spot c0
      obtain ⟨B, off, spot⟩ := ad
      simpa [Addr.add] using this
    have hat : ∀ i, i < len → ∃ act : ActID, ActIAt W ad.block (ad.off + i * 3) act := by
      intro i hil
      obtain ⟨cs', hc', ht'⟩ := hi i (by omega)
      rw [hC] at hc'
      obtain ⟨xs, n', _, _, _, hlen, hg⟩ := DataW.trod_struct hu ht'
      obtain ⟨_, hcl, hcell⟩ := World.cells?_some hc'
      obtain ⟨o0, k0⟩ := hone_of hone 0 f0 rfl
      rw [y0] at k0
      obtain ⟨o1, k1⟩ := hone_of hone 1 f1 rfl
      rw [y1] at k1
      obtain ⟨o2, k2⟩ := hone_of hone 2 f2 rfl
      rw [y2] at k2
      match cs', hcl, xs, hlen with
      | [v0, v1, v2], _, [z0, z1, z2], _ =>
        have g0 : DataW.trod enc Try.prog W base (fun _ => true) held n' 3 [v0] = some z0 := by simpa [o0, k0, y0] using hg 0 f0 rfl
        have g1 : DataW.trod enc Try.prog W base (fun _ => true) held n' 3 [v1] = some z1 := by simpa [o1, k1, y1] using hg 1 f1 rfl
        have g2 : DataW.trod enc Try.prog W base (fun _ => true) held n' 3 [v2] = some z2 := by simpa [o2, k2, y2] using hg 2 f2 rfl
        obtain ⟨p0, q0, -, w0⟩ := DataW.trod_int Try.underlying3 g0
        obtain ⟨p1, q1, -, w1⟩ := DataW.trod_int Try.underlying3 g1
        obtain ⟨p2, q2, -, w2⟩ := DataW.trod_int Try.underlying3 g2
        injection q0 with q0
        injection q1 with q1
        injection q2 with q2
        subst q0
        subst q1
        subst q2
        have c0 := hcell 0 (by omega)
        have c1 := hcell 1 (by omega)
        have c2 := hcell 2 (by omega)
        obtain ⟨B, off, spot⟩ := ad
        have hspot : spot = none := hsp0 (by omega)
        subst hspot
        have hadd : ∀ (o k : Nat), (⟨B, o, none⟩ : Addr).add k = ⟨B, o + k, none⟩ := by
          intro o k
          unfold Addr.add
          split <;> simp_all
        rw [hadd, hadd] at c0 c1 c2
        exact ⟨⟨p0, p1, p2⟩, ⟨by simpa using c0, by simpa using c1, by simpa using c2, (wf_i64 w0).1, (wf_i64 w0).2, (wf_i64 w1).1, (wf_i64 w1).2, (wf_i64 w2).1, (wf_i64 w2).2⟩⟩
    obtain ⟨F, hF⟩ := choose_lt (p := fun i act => ActIAt W ad.block (ad.off + i * 3) act) hat
    refine ⟨(List.range len).map F, by simp, fun hl0 => ?_, hmx⟩
    have hlen0 : 0 < len := by simpa using hl0
    have hsp := hsp0 hlen0
    obtain ⟨B, off, spot⟩ := ad
    simp only at hsp
    subst hsp
    exact ⟨B, off, rfl, fun i hil => by
      simp only [List.getElem_map, List.getElem_range]
      exact hF i (by simpa using hil)⟩
end Go.Proofs.Ytlbkpmcccipfhaa

