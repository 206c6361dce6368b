/- More steps for a region that draws its order: an operation that its guard does not want. -/
import Derived.Test.YtfejabfmhddepaaGbase
namespace Go.Proofs.Ytfejabfmhddepaa
section
variable {P : Program} {ops : Array Oper} {Q : Exit → Act → World → Prop} {md : Region.Mode} {S : World → Prop}

theorem skip_at (i : Nat) {d : Nat} {op : Op} {ty : TypeId} {pos : String} {after : Array Edge} {guard : Option (Nat × Bool)} {fuel : Nat} {listed : Array Bool} {l l' : List Value} {df : List Deferred} {w : World}
    (hi : ops[i]? = some ⟨some d, op, ty, pos, after, guard⟩)
    (hs : Region.noSelect ops = true) (hf : Region.free md ops listed i = true) (hr : (Region.ready md ops listed).contains i = true)
    (hQ : ∀ c a w, Q (.panic c) (a.put (some d) undef) w → Q (.panic c) a w)
    (hw : Region.wanted ⟨some d, op, ty, pos, after, guard⟩ (yielded ops l.toArray) = false) (hS : S w)
    (hl : l.set d undef = l')
    (h : wpAnyH P md ops Q S fuel (listed.setIfInBounds i true) ⟨l'.toArray, df⟩ w) : wpAnyH P md ops Q S (fuel + 1) listed ⟨l.toArray, df⟩ w := by
  refine wpAnyH_take (v := undef) hi hs hf hr hQ (.inr ⟨hw, rfl⟩) hS ?_
  subst hl
  simpa [Act.put] using h

theorem skipcall_at (i : Nat) {d : Nat} {op : Op} {ty : TypeId} {pos : String} {after : Array Edge} {guard : Option (Nat × Bool)} {fuel : Nat} {listed : Array Bool} {l l' : List Value} {df : List Deferred} {w : World}
    (ho : ops[i]? = some ⟨some d, op, ty, pos, after, guard⟩) (hr : Region.ready md ops listed = [i])
    (hw : Region.wanted ⟨some d, op, ty, pos, after, guard⟩ (yielded ops l.toArray) = false) (hS : S w)
    (hl : l.set d undef = l')
    (h : wpAnyH P md ops Q S fuel (listed.setIfInBounds i true) ⟨l'.toArray, df⟩ w) :
    wpAnyH P md ops Q S (fuel + 1) listed ⟨l.toArray, df⟩ w :=
  wpAnyH_ready hr (by simp) (AllReadyH.cons ho (fun K' hK => by
    rw [if_neg (by rw [hw]; simp)]
    subst hl
    have := hK.out _ _ hS (fun _ => h)
    simpa [Act.put] using this) AllReadyH.nil)
end
end Go.Proofs.Ytfejabfmhddepaa

