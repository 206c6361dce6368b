/- Package sha512 as landed keeps its contracts. -/
import Derived.Test.YtbkcglfdliicpaaHashG
import Derived.Test.YtbkcglfdliicpaaLaw8Tells
import Derived.Test.YtbkcglfdliicpaaLaw8Cuts
import Derived.Test.YtbkcglfdliicpaaLaw8Mid
import Derived.Test.YtbkcglfdliicpaaLaw8Loads
import Derived.Test.YtbkcglfdliicpaaLaw8None
import Derived.Test.YtbkcglfdliicpaaLaw8Known
namespace Go.Proofs.Ytbkcglfdliicpaa
open Go.RowKit
set_option linter.unusedVariables false
set_option maxRecDepth 100000

theorem below_same {W w' : World} (h : w' = W) : Below W.heap.size W w' := by subst h; exact Below.refl _ _
theorem shaC : ShaC HashH where
  ok := HashH.ok
  lt := HashH.lt
  keep := HashH.keep
  new := fun W => (hnew_any W).mono fun e w' ⟨g, he, hs, hg, hb⟩ => ⟨g, fun j => j = g, he, hs.hash, fun j hj => by subst hj; exact hg, hb⟩
  write := fun {W g h F} A l c hh hb hc hoff hn hl => by
    have hF : ∀ j, F j ↔ j = g := hh.1
    have ho : 0 < l.length → ∀ j, At A j → j ≠ g := fun hp j hj e => hoff j hp hj ((hF j).2 e)
    have fin : ∀ (e : Ending) (w' : World), (e = .returned (.tuple #[]) ∧ HS w' g (h.add l) ∧ Only (fun j => j = g) W w') → (e = .returned (.tuple #[]) ∧ ∃ F', HashH w' g (h.add l) F' ∧ (∀ j, F' j → F j ∨ W.heap.size ≤ j) ∧ Only F W w') := fun e w' ⟨h1, h2, h3⟩ =>
      ⟨h1, fun j => j = g, h2.hash, fun j hj => .inl ((hF j).2 hj), ⟨h3.os, h3.tape, h3.output, h3.size, fun j hj hn => h3.block j hj (fun e => hn ((hF j).2 e))⟩⟩
    rcases hh.2 with hs | ⟨s, k, ha, rfl⟩
    · exact (hwrite_any W A l c hs hb hc ho hn hl).mono fin
    · exact (hwrite_new W A l c ha hb hc ho hl).mono fin
  count := fun {W g h F} hh hn => by
    rcases hh.2 with ⟨_, k, ha, _⟩ | ⟨s, k, ha, rfl⟩
    · exact (hcount_any W ha (by omega)).mono fun e w' ⟨h1, h2⟩ => ⟨h1, below_same h2⟩
    · exact (hcount_any W ha (by omega)).mono fun e w' ⟨h1, h2⟩ => ⟨h1, below_same h2⟩
  sum := fun {W g h F} hh hn => hsum_any _ h W hh.copyOk hn
  mid := fun {W g h F} hh hn => hmid_any _ h W hh.copyOk hn
  load := fun W A l c hb hc hm => by
    have hl : l.length = 200 := by simp only [mayB, Bool.and_eq_true, decide_eq_true_eq] at hm; exact hm.1
    have h := hload_any W A l c hb hc hl
    rw [hl]
    exact h.mono fun e w' hp => by
      obtain ⟨g, h1, h2, h3, h4⟩ := hp.1 hm
      exact ⟨g, fun j => j = g, h1, h2.hash, fun j hj => by subst hj; exact h3, h4⟩
  loadNo := fun W A l c hb hc hle hm => by
    by_cases hl : l.length = 200
    · have h := hload_any W A l c hb hc hl
      rw [hl]
      exact h.mono fun e w' hp => hp.2 hm
    · exact (hloadNo_any W A l.length c hl hle).mono fun e w' ⟨h1, h2⟩ => ⟨h1, below_same h2⟩
  of := hof_any
  zero := fun W Z hz => by
    have hz2 := zero_arr 52 (.bool false :: (List.replicate 8 (.int .u64 0) ++ (.int .u64 0 :: List.replicate 128 (.int .u8 0)))).toArray 138 (by kernel_rfl) W
    rw [hz] at hz2
    injection hz2 with hz2 _
    injection hz2 with hz2
    subst hz2
    refine ⟨fun j => Iff.rfl, .inr ⟨⟨0, 0, 0, 0, 0, 0, 0, 0⟩, List.replicate 128 0, ⟨?_, by simp⟩, rfl⟩⟩
    rw [heap_alloc_new]
    rfl
  writeNo := fun W A l c hb => (hwriteNo_any W A l c).mono fun e w' ⟨h1, h2⟩ => ⟨h1, below_same h2⟩
  countNo := fun W => (hcountNo_any W).mono fun e w' ⟨h1, h2⟩ => ⟨h1, below_same h2⟩
  sumNo := fun W => by
    have h := hsum_any none Sh.nil W (nil_copyOk W) (by show 0 ≤ _; omega)
    have e : Sh.nil.sum = digest [] := by
      have := sum_digest []
      rwa [Sh.add_nil Sh.nil_ok] at this
    rwa [e] at h
  midNo := fun W => hmid_any none Sh.nil W (nil_copyOk W) (by show 0 ≤ _; omega)
end Go.Proofs.Ytbkcglfdliicpaa

