/- A cursor over a flash with nothing armed: a word, bytes, a flush. -/
import Derived.Test.YtcpkmhhlcmnfdaaCu
namespace Go.Proofs.Ytcpkmhhlcmnfdaa
open Go.RowKit
set_option linter.unusedVariables false
set_option maxRecDepth 100000

/-- the sectors from hi up to hi' have been prepared -/
structure PrepTo (d d' : Dl) (c hi hi' : Nat) : Prop where
  calm : CalmD d' c
  le : hi ≤ hi'
  get : ∀ j, j < 1024 * c → d'.b.getD j 0 = if hi * 1024 ≤ j ∧ j < hi' * 1024 then 255 else d.b.getD j 0
  wear : ∀ s, s < c → (d'.worn.getD s 0 = d.worn.getD s 0 + 1 ∧ hi ≤ s ∧ s < hi' ∧ ¬ SecBlank d s) ∨ (d'.worn.getD s 0 = d.worn.getD s 0 ∧ (hi ≤ s → s < hi' → SecBlank d s))
theorem prepTo_refl {d : Dl} {c : Nat} (h : CalmD d c) (hi : Nat) : PrepTo d d c hi hi :=
  ⟨h, Nat.le_refl _, fun j hj => by rw [if_neg (by omega)], fun s hs => .inr ⟨rfl, fun h1 h2 => by omega⟩⟩
theorem prepTo_step {d d1 d2 : Dl} {c hi k : Nat} (h : PrepTo d d1 c hi k) (hp : Prepd d1 d2 c k) (hk : k < c) : PrepTo d d2 c hi (k + 1) := by
  have hle := h.le
  have hbs : SecBlank d1 k ↔ SecBlank d k := by
    have e : ∀ j, k * 1024 ≤ j → j < (k + 1) * 1024 → d1.b.getD j 0 = d.b.getD j 0 := fun j h1 h2 => by rw [h.get j (by omega), if_neg (by omega)]
    constructor
    · intro hb j h1 h2; rw [← e j h1 h2]; exact hb j h1 h2
    · intro hb j h1 h2; rw [e j h1 h2]; exact hb j h1 h2
  refine ⟨hp.calm, by omega, fun j hj => ?_, fun s hs => ?_⟩
  · rw [hp.get j hj, h.get j hj]
    by_cases h1 : k * 1024 ≤ j ∧ j < (k + 1) * 1024
    · rw [if_pos h1, if_pos (by omega)]
    · rw [if_neg h1]
      by_cases h2 : hi * 1024 ≤ j ∧ j < k * 1024
      · rw [if_pos h2, if_pos (by omega)]
      · rw [if_neg h2, if_neg (by omega)]
  · have hw1 := h.calm.worn
    by_cases hb : SecBlank d1 k
    · rw [hp.same hb]
      rcases h.wear s hs with ⟨q1, q2, q3, q4⟩ | ⟨q1, q2⟩
      · exact .inl ⟨q1, q2, by omega, q4⟩
      · refine .inr ⟨q1, fun h1 h2 => ?_⟩
        by_cases e : s = k
        · subst e; exact hbs.1 hb
        · exact q2 h1 (by omega)
    · rw [hp.wear hb, getD_set_int _ _ _ _ (by omega)]
      by_cases e : s = k
      · subst e
        rw [if_pos rfl]
        refine .inl ⟨?_, hle, by omega, fun hx => hb (hbs.2 hx)⟩
        rcases h.wear s hs with ⟨_, _, q3, _⟩ | ⟨q1, _⟩
        · omega
        · rw [q1]
      · rw [if_neg e]
        rcases h.wear s hs with ⟨q1, q2, q3, q4⟩ | ⟨q1, q2⟩
        · exact .inl ⟨q1, q2, by omega, q4⟩
        · exact .inr ⟨q1, fun h1 h2 => q2 h1 (by omega)⟩

/-- how far sectors are prepared once s is entered -/
def hiNext (c hi ent s : Nat) : Nat := if s < ent then hi else max hi (min c (s + 2))
def entNext (ent s : Nat) : Nat := if s < ent then ent else s + 1

theorem center_calm {d : Dl} {c : Nat} (h : CalmD d c) {hi ent s : Nat} (hs : s < c) (hic : hi ≤ c) (hent : ent ≤ hi) (hsk : s ≤ hi) :
    ∃ d', center (devOps 0 c) ⟨d, hi, ent⟩ s = (0, ⟨d', hiNext c hi ent s, entNext ent s⟩) ∧ PrepTo d d' c hi (hiNext c hi ent s) ∧ s < hiNext c hi ent s := by
  unfold hiNext entNext center
  dsimp only
  by_cases he : s < ent
  · rw [if_pos he, if_pos he, if_pos he]
    exact ⟨d, rfl, prepTo_refl h hi, by omega⟩
  · rw [if_neg he, if_neg he, if_neg he]
    by_cases h1 : s < hi
    · simp only [prep_not (.inl h1 : s < hi ∨ c ≤ s)]
      rw [if_neg (by simp)]
      by_cases h2 : s + 1 < hi ∨ c ≤ s + 1
      · rw [prep_not h2]
        have e : max hi (min c (s + 2)) = hi := by omega
        rw [e]
        exact ⟨d, rfl, prepTo_refl h hi, h1⟩
      · obtain ⟨d', e', hp⟩ := prep_calm (ent := ent) h h2
        have ehi : hi = s + 1 := by omega
        subst ehi
        rw [e']
        have e : max (s + 1) (min c (s + 2)) = s + 2 := by omega
        rw [e]
        exact ⟨d', rfl, prepTo_step (prepTo_refl h (s + 1)) hp (by omega), by omega⟩
    · have ehi : hi = s := by omega
      subst ehi
      obtain ⟨d1, e1, hp1⟩ := prep_calm (ent := ent) h (hi := hi) (s := hi) (by omega)
      simp only [e1]
      rw [if_neg (by simp)]
      have p1 := prepTo_step (prepTo_refl h hi) hp1 hs
      by_cases h2 : hi + 1 < hi + 1 ∨ c ≤ hi + 1
      · rw [prep_not h2]
        have e : max hi (min c (hi + 2)) = hi + 1 := by omega
        rw [e]
        exact ⟨d1, rfl, p1, by omega⟩
      · obtain ⟨d', e', hp⟩ := prep_calm (ent := ent) hp1.calm h2
        rw [e']
        have e : max hi (min c (hi + 2)) = hi + 2 := by omega
        rw [e]
        exact ⟨d', rfl, prepTo_step p1 hp (by omega), by omega⟩

theorem u8_and_not255 (x : UInt8) : x &&& ~~~(255 : UInt8) = 0 := by
  apply u8_ext
  intro j hj
  have : (255 : UInt8).toBitVec.getLsbD j = true := by
    have : j = 0 ∨ j = 1 ∨ j = 2 ∨ j = 3 ∨ j = 4 ∨ j = 5 ∨ j = 6 ∨ j = 7 := by omega
    rcases this with rfl | rfl | rfl | rfl | rfl | rfl | rfl | rfl <;> rfl
  simp [hj]

theorem word_calm {d : Dl} {c : Nat} (h : CalmD d c) {hi ent ws : Nat} {m : List UInt8} (hm : m.length = 8) (h8 : ws % 8 = 0) (hfit : ws + 8 ≤ 1024 * c) (hic : hi ≤ c) (hent : ent ≤ hi) (hsk : ws / 1024 ≤ hi)
    (hcan : ws / 1024 < hi → ∀ i, i < 8 → m.getD i 0 &&& ~~~(d.b.getD (ws + i) 0) = 0) :
    ∃ d', cword (devOps 0 c) ⟨d, hi, ent⟩ ws m = (0, ⟨d', hiNext c hi ent (ws / 1024), entNext ent (ws / 1024)⟩) ∧ Worded d d' c hi (hiNext c hi ent (ws / 1024)) ws m ∧ ws / 1024 < hiNext c hi ent (ws / 1024) := by
  obtain ⟨d1, e1, hp, hlt⟩ := center_calm h (s := ws / 1024) (by omega) hic hent hsk
  have hl1 := hp.calm.len
  have hle := hp.le
  have hhi : hiNext c hi ent (ws / 1024) ≤ c := by unfold hiNext; split <;> omega
  have hw := laid_calm hp.calm hm h8 hfit (fun i hi8 => by
    rw [hp.get _ (by omega)]
    by_cases h1 : ws / 1024 < hi
    · rw [if_neg (by omega)]; exact hcan h1 i hi8
    · rw [if_pos (by omega)]; exact u8_and_not255 _)
  unfold cword cprog
  simp only [e1]
  rw [if_neg (by simp)]
  have hw2 : (devOps 0 c).prog d1 (ws : Int) m = (0, calmed d1 (laid d1.b ws m) 1) := hw
  simp only [hw2]
  refine ⟨_, rfl, ⟨⟨hp.calm.off, hp.calm.armed, (laid_len _ _ _).trans hl1, hp.calm.worn, hp.calm.pick⟩, fun i hi8 => ?_, fun j hj ho hr => ?_, fun j hj ho h1 h2 => ?_, hle, hhi, hp.wear⟩, hlt⟩
  · show (laid d1.b ws m).getD (ws + i) 0 = _
    rw [laid_get (by omega), if_pos (by omega), Nat.add_sub_cancel_left]
  · show (laid d1.b ws m).getD j 0 = _
    rw [laid_get (by omega), if_neg (by omega), hp.get j hj, if_neg (by omega)]
  · show (laid d1.b ws m).getD j 0 = _
    rw [laid_get (by omega), if_neg (by omega), hp.get j hj, if_pos ⟨h1, h2⟩]

/-- a cursor on its way: T is what shall stand at each place -/
structure Inv (T : Nat → UInt8) (c : Nat) (u : Cu Dl) : Prop where
  calm : CalmD u.x.d c
  dead : u.dead = 0
  le : u.at_ ≤ 1024 * c
  held : u.held = (List.range (u.at_ % 8)).map fun i => T (u.at_ / 8 * 8 + i)
  done : ∀ j, j < u.at_ / 8 * 8 → u.x.d.b.getD j 0 = T j
  rest : ∀ j, u.at_ / 8 * 8 ≤ j → j < u.x.hi * 1024 → T j &&& ~~~(u.x.d.b.getD j 0) = 0
  hic : u.x.hi ≤ c
  ent : u.x.ent ≤ u.x.hi
  pre : (u.at_ / 8 * 8) % 1024 ≠ 0 → u.at_ / 1024 < u.x.hi
  sk : u.at_ / 1024 ≤ u.x.hi
/-- .. and behind it all that is prepared is blank -/
def Clean (u : Cu Dl) : Prop := ∀ j, u.at_ ≤ j → j < u.x.hi * 1024 → u.x.d.b.getD j 0 = 255

theorem range_map_get (f : Nat → UInt8) {n i : Nat} (h : i < n) : ((List.range n).map f).getD i 0 = f i := getD_map_range f n i h

theorem push_inv {T : Nat → UInt8} {c : Nat} {u : Cu Dl} (h : Inv T c u) (hlt : u.at_ < 1024 * c) {b : UInt8} (hb : T u.at_ = b) :
    Inv T c (cpush (devOps 0 c) u b) ∧ (cpush (devOps 0 c) u b).at_ = u.at_ + 1 ∧ (Clean u → Clean (cpush (devOps 0 c) u b)) := by
  obtain ⟨⟨d, hi, ent⟩, a, held, dead⟩ := u
  obtain ⟨hcalm, hdead, hle, hheld, hdone, hrest, hhic, hent, hpre, hsk⟩ := h
  dsimp only at *
  have hhl : held.length = a % 8 := by rw [hheld]; simp
  have hext : held ++ [b] = (List.range (a % 8 + 1)).map fun i => T (a / 8 * 8 + i) := by
    rw [List.range_succ, List.map_append, ← hheld, List.map_cons, List.map_nil]
    rw [show a / 8 * 8 + a % 8 = a by omega, hb]
  unfold cpush
  dsimp only
  rw [if_neg (by rw [hdead]; simp)]
  by_cases h8 : (held ++ [b]).length = 8
  · rw [if_pos h8]
    have h7 : a % 8 = 7 := by simp [hhl] at h8; omega
    have ews : a + 1 - 8 = a / 8 * 8 := by omega
    have ewd : a / 8 * 8 / 1024 = a / 1024 := by omega
    rw [ews]
    obtain ⟨d', e, hw, hl⟩ := word_calm hcalm h8 (ws := a / 8 * 8) (by omega) (by omega) hhic hent (by omega) (fun h1 i hi8 => by
      rw [hext, h7, range_map_get _ hi8]
      exact hrest _ (by omega) (by omega))
    rw [e]
    unfold cput
    dsimp only
    rw [if_pos rfl]
    obtain ⟨hcalm', hword, hold, hfresh, hi1, hhic', -⟩ := hw
    generalize hiNext c hi ent (a / 8 * 8 / 1024) = hi' at *
    have hentn : entNext ent (a / 8 * 8 / 1024) ≤ hi' := by unfold entNext; split <;> omega
    have e8 : (a + 1) / 8 * 8 = a / 8 * 8 + 8 := by omega
    have hget : ∀ j, j < 1024 * c → a / 8 * 8 + 8 ≤ j → j < hi' * 1024 → d'.b.getD j 0 = (if j < hi * 1024 then d.b.getD j 0 else 255) := fun j h1 h2 h3 => by
      by_cases q : j < hi * 1024
      · rw [if_pos q]; exact hold j h1 (.inr h2) (.inl q)
      · rw [if_neg q]; exact hfresh j h1 (.inr h2) (by omega) h3
    refine ⟨⟨hcalm', rfl, by dsimp only; omega, by dsimp only; rw [show (a + 1) % 8 = 0 by omega]; rfl, fun j hj => ?_, fun j h1 h2 => ?_, hhic', hentn, fun hn => ?_, ?_⟩, rfl, fun hcl j h1 h2 => ?_⟩
    · dsimp only at hj ⊢
      rw [e8] at hj
      by_cases q : j < a / 8 * 8
      · rw [hold j (by omega) (.inl q) (by
          by_cases q2 : j < hi * 1024
          · exact .inl q2
          · exfalso
            have : a / 1024 ≤ hi := hsk
            have := hpre
            omega)]
        exact hdone j q
      · have := hword (j - a / 8 * 8) (by omega)
        rw [show a / 8 * 8 + (j - a / 8 * 8) = j by omega, hext, h7, range_map_get _ (by omega), show a / 8 * 8 + (j - a / 8 * 8) = j by omega] at this
        exact this
    · dsimp only at h1 h2 ⊢
      rw [e8] at h1
      rw [hget j (by omega) h1 h2]
      split
      · exact hrest j (by omega) (by assumption)
      · exact u8_and_not255 _
    · dsimp only at hn ⊢
      rw [e8] at hn
      omega
    · dsimp only
      omega
    · dsimp only at h1 h2 ⊢
      rw [hget j (by omega) (by omega) h2]
      split
      · exact hcl j (by dsimp only; omega) (by assumption)
      · rfl
  · rw [if_neg h8]
    have h7 : a % 8 < 7 := by simp [hhl] at h8; omega
    have e8 : (a + 1) / 8 * 8 = a / 8 * 8 := by omega
    refine ⟨⟨hcalm, rfl, by dsimp only; omega, by dsimp only; rw [hext, e8, show (a + 1) % 8 = a % 8 + 1 by omega], ?_, ?_, hhic, hent, ?_, ?_⟩, rfl, fun hcl j h1 h2 => hcl j (by dsimp only at h1 ⊢; omega) h2⟩
    · dsimp only; rw [e8]; exact hdone
    · dsimp only; rw [e8]; exact hrest
    · dsimp only; rw [e8]; intro hn; have := hpre hn; omega
    · dsimp only; omega

theorem pushes_inv {T : Nat → UInt8} {c : Nat} : ∀ (l : List UInt8) {u : Cu Dl}, Inv T c u → u.at_ + l.length ≤ 1024 * c → (∀ i, i < l.length → T (u.at_ + i) = l.getD i 0) →
    Inv T c (cpushes (devOps 0 c) u l) ∧ (cpushes (devOps 0 c) u l).at_ = u.at_ + l.length ∧ (Clean u → Clean (cpushes (devOps 0 c) u l))
  | [], u, h, _, _ => ⟨h, rfl, fun hc => hc⟩
  | b :: l, u, h, hle, hT => by
    rw [List.length_cons] at hle hT
    obtain ⟨h1, h2, h3⟩ := push_inv h (by omega) (b := b) (by have := hT 0 (by omega); simpa using this)
    obtain ⟨q1, q2, q3⟩ := pushes_inv l h1 (by omega) (fun i hi => by
      have := hT (i + 1) (by omega)
      rw [h2, Nat.add_assoc, Nat.add_comm 1 i, this]
      simp)
    rw [cpushes_cons]
    exact ⟨q1, by rw [q2, h2, List.length_cons]; omega, fun hc => q3 (h3 hc)⟩
end Go.Proofs.Ytcpkmhhlcmnfdaa

