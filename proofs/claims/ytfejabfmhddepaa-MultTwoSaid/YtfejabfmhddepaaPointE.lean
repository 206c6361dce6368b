/- The landed package point, whole. -/
import Derived.Test.YtfejabfmhddepaaPointD
import Derived.Test.YtfejabfmhddepaaGfe3
namespace Go.Proofs.Ytfejabfmhddepaa
open Go.RowKit
set_option linter.unusedVariables false
set_option maxRecDepth 100000

/-- the cells stand for the point: the landed package's -/
abbrev ptR : Array Value → PtD → Prop := ptRof feR
theorem ptB : PtB ptR where
  info := fun {c p} h => by obtain ⟨a, b, d, f, X, Y, Z, T, rfl, ha, hb, hd, hf, _⟩ := h; exact pp_info feC.base ha hb hd hf
  one := fun {c p} h => by obtain ⟨a, b, d, f, X, Y, Z, T, rfl, ha, hb, hd, hf, _⟩ := h; exact pp_one feC.base ha hb hd hf
  zero := ⟨_, zp_zero, fun {c p} h => by obtain ⟨a, b, d, f, X, Y, Z, T, rfl, ha, hb, hd, hf, _⟩ := h; rw [pp_size feC.base ha hb hd hf]; rfl⟩
theorem ptC : PtC ptR where
  base := ptB
  zero := fun W => (ptzero_any feC W).mono (fun e w' h => by
    obtain ⟨a, b, d, f, rfl, ha, hb, hd, hf, hw⟩ := h
    exact ⟨_, rfl, ⟨_, _, _, _, _, _, _, _, rfl, ha, hb, hd, hf, .inl co_zero⟩, hw⟩)
  basep := fun W => ptbase_any feC W
  decode := fun l hl W => ptdecode_any feC hl W
  encode := fun {c p} h W => by
    obtain ⟨a, b, d, f, X, Y, Z, T, rfl, ha, hb, hd, hf, hp⟩ := h
    exact ptencode_any feC ha hb hd hf hp W
  double := fun {c p} h W => by
    obtain ⟨a, b, d, f, X, Y, Z, T, rfl, ha, hb, hd, hf, hp⟩ := h
    exact ptdouble_any feC ha hb hd hf hp W
  add := fun {c p c' p'} h k W => by
    obtain ⟨a, b, d, f, X, Y, Z, T, rfl, ha, hb, hd, hf, hp⟩ := h
    obtain ⟨a', b', d', f', X', Y', Z', T', rfl, ha', hb', hd', hf', hp'⟩ := k
    exact ptadd_any feC ha hb hd hf hp ha' hb' hd' hf' hp' W
  neg := fun {c p} h W => by
    obtain ⟨a, b, d, f, X, Y, Z, T, rfl, ha, hb, hd, hf, hp⟩ := h
    exact ptneg_any feC ha hb hd hf hp W
  equal := fun {c p c' p'} h k W => by
    obtain ⟨a, b, d, f, X, Y, Z, T, rfl, ha, hb, hd, hf, hp⟩ := h
    obtain ⟨a', b', d', f', X', Y', Z', T', rfl, ha', hb', hd', hf', hp'⟩ := k
    exact ptequal_any feC ha hb hd hf hp ha' hb' hd' hf' hp' W
end Go.Proofs.Ytfejabfmhddepaa

