/- The walk of FlashPlays. Written by wip/tools/mk_plays2.py. -/
import Derived.Test.YtmhcogpjgllgjaaLaw2Play
import Derived.Test.YtmhcogpjgllgjaaGbase
namespace Go.Proofs.Ytmhcogpjgllgjaa
open Go.RowKit
set_option linter.unusedVariables false

theorem Play.below {N : Nat} {w0 wr w' : World} {p : Ad} {n k : Nat} (h : Play N w0 p n k wr) (hb : Below wr.heap.size wr w') : Play N w0 p n k w' := by
  obtain ⟨d, f, hp, hs, ok, rok, hst, hwn, hwl, hbw, hlo⟩ := h
  exact ⟨d, f, hp.below hb, hs, ok, rok, hst, hwn, hwl, below_on hbw hb, hlo⟩

end Go.Proofs.Ytmhcogpjgllgjaa

