/- A cursor over a flash with nothing armed: a flush; which sectors are erased, and how often. -/
import Derived.Test.YtcpkmhhlcmnfdaaCu2
namespace Go.Proofs.Ytcpkmhhlcmnfdaa
open Go.RowKit
set_option linter.unusedVariables false
set_option maxRecDepth 100000

theorem cpad_len {h : List UInt8} (hl : h.length ≤ 8) : (cpad h).length = 8 := by unfold cpad; simp; omega
theorem cpad_get {h : List UInt8} {i : Nat} (hi : i < 8) : (cpad h).getD i 0 = if i < h.length then h.getD i 0 else 255 := by
  unfold cpad
  by_cases q : i < h.length
  · rw [if_pos q]; simp [List.getD, List.getElem?_append_left q]
  · rw [if_neg q]
    simp only [List.getD]
    rw [List.getElem?_append_right (by omega), List.getElem?_replicate, if_pos (by omega)]
    rfl

theorem flush_inv {T : Nat → UInt8} {c : Nat} {u : Cu Dl} (h : Inv T c u) (hp : ∀ j, u.at_ ≤ j → j < u.at_ / 8 * 8 + 8 → j < u.x.hi * 1024 → (255 : UInt8) &&& ~~~(u.x.d.b.getD j 0) = 0) :
    ∃ u', cflush (devOps 0 c) u = (0, u') ∧ Inv T c u' ∧ u'.at_ = u.at_ ∧ (∀ j, j < u.at_ → u'.x.d.b.getD j 0 = T j) ∧ (∀ j, u.at_ ≤ j → j < (u.at_ + 7) / 8 * 8 → u'.x.d.b.getD j 0 = 255) ∧ (Clean u → Clean u') ∧
      (u.at_ % 8 = 0 → u' = u) ∧ (u.at_ % 8 ≠ 0 → ∃ d', Worded u.x.d d' c u.x.hi (hiNext c u.x.hi u.x.ent (u.at_ / 1024)) (u.at_ / 8 * 8) (cpad u.held) ∧ u' = ⟨⟨d', hiNext c u.x.hi u.x.ent (u.at_ / 1024), entNext u.x.ent (u.at_ / 1024)⟩, u.at_, u.held, 0⟩ ∧ u.at_ / 1024 < hiNext c u.x.hi u.x.ent (u.at_ / 1024)) := by
  obtain ⟨⟨d, hi, ent⟩, a, held, dead⟩ := u
  have h' := h
  obtain ⟨hcalm, hdead, hle, hheld, hdone, hrest, hhic, hent, hpre, hsk⟩ := h
  dsimp only at *
  have hhl : held.length = a % 8 := by rw [hheld]; simp
  unfold cflush
  dsimp only
  by_cases h0 : a % 8 = 0
  · rw [if_neg (by omega)]
    rw [hdead]
    subst hdead
    refine ⟨_, rfl, h', rfl, fun j hj => hdone j (by omega), fun j h1 h2 => by omega, fun hc => hc, fun _ => rfl, fun hn => absurd h0 hn⟩
  · rw [if_pos (by omega)]
    have ews : a - held.length = a / 8 * 8 := by omega
    have ewd : a / 8 * 8 / 1024 = a / 1024 := by omega
    rw [ews]
    have hmg : ∀ i, i < 8 → (cpad held).getD i 0 = if i < a % 8 then T (a / 8 * 8 + i) else 255 := fun i hi8 => by
      rw [cpad_get hi8, hhl]
      by_cases q : i < a % 8
      · rw [if_pos q, if_pos q, hheld, range_map_get _ q]
      · rw [if_neg q, if_neg q]
    obtain ⟨d', e, hw, hl⟩ := word_calm hcalm (cpad_len (h := held) (by omega)) (ws := a / 8 * 8) (by omega) (by omega) hhic hent (by omega) (fun h1 i hi8 => by
      rw [hmg i hi8]
      by_cases q : i < a % 8
      · rw [if_pos q]; exact hrest _ (by omega) (by omega)
      · rw [if_neg q]; exact hp _ (by omega) (by omega) (by omega))
    rw [e]
    unfold cflushed
    dsimp only
    have hw2 := hw
    rw [ewd] at hw hw2 hl ⊢
    obtain ⟨hcalm', hword, hold, hfresh, hi1, hhic', -⟩ := hw
    have hentn : entNext ent (a / 1024) ≤ hiNext c hi ent (a / 1024) := by unfold entNext; split <;> omega
    have hl8 : a / 8 * 8 + 8 ≤ 1024 * c := by omega
    have hwd : ∀ j, a / 8 * 8 ≤ j → j < a / 8 * 8 + 8 → d'.b.getD j 0 = if j < a then T j else 255 := fun j h1 h2 => by
      have := hword (j - a / 8 * 8) (by omega)
      rw [hmg _ (by omega), show a / 8 * 8 + (j - a / 8 * 8) = j by omega] at this
      rw [this]
      by_cases q : j < a
      · rw [if_pos q, if_pos (by omega)]
      · rw [if_neg q, if_neg (by omega)]
    have hbef : ∀ j, j < a / 8 * 8 → d'.b.getD j 0 = T j := fun j hj => by
      rw [hold j (by omega) (.inl hj) (by omega)]
      exact hdone j hj
    have haft : ∀ j, j < 1024 * c → a / 8 * 8 + 8 ≤ j → j < hiNext c hi ent (a / 1024) * 1024 → d'.b.getD j 0 = (if j < hi * 1024 then d.b.getD j 0 else 255) := fun j h1 h2 h3 => by
      by_cases q : j < hi * 1024
      · rw [if_pos q]; exact hold j h1 (.inr h2) (.inl q)
      · rw [if_neg q]; exact hfresh j h1 (.inr h2) (by omega) h3
    refine ⟨_, rfl, ⟨hcalm', rfl, hle, hheld, hbef, fun j h1 h2 => ?_, hhic', hentn, fun hn => hl, by dsimp only; omega⟩, rfl, fun j hj => ?_, fun j h1 h2 => ?_, fun hcl j h1 h2 => ?_, fun hn => absurd hn h0, fun _ => ⟨d', hw2, rfl, hl⟩⟩
    · dsimp only at h1 h2 ⊢
      by_cases q : j < a / 8 * 8 + 8
      · rw [hwd j h1 q]
        split
        · exact (tz_and _ _).2 (by simp)
        · exact u8_and_not255 _
      · rw [haft j (by omega) (by omega) h2]
        split
        · exact hrest j h1 (by assumption)
        · exact u8_and_not255 _
    · dsimp only at hj ⊢
      by_cases q : j < a / 8 * 8
      · exact hbef j q
      · rw [hwd j (by omega) (by omega), if_pos hj]
    · dsimp only at h1 h2 ⊢
      rw [hwd j (by omega) (by omega), if_neg (by omega)]
    · dsimp only at h1 h2 ⊢
      by_cases q : j < a / 8 * 8 + 8
      · rw [hwd j (by omega) q, if_neg (by omega)]
      · rw [haft j (by omega) (by omega) h2]
        split
        · exact hcl j h1 (by assumption)
        · rfl

/-- a write that fits -/
theorem write_inv {T : Nat → UInt8} {c : Nat} {u : Cu Dl} (h : Inv T c u) {l : List UInt8} (hle : u.at_ + l.length ≤ 1024 * c) (hT : ∀ i, i < l.length → T (u.at_ + i) = l.getD i 0) :
    ∃ u', cwrite (devOps 0 c) u l = (0, u') ∧ Inv T c u' ∧ u'.at_ = u.at_ + l.length ∧ (Clean u → Clean u') ∧ u' = cpushes (devOps 0 c) u l := by
  obtain ⟨h1, h2, h3⟩ := pushes_inv l h hle hT
  refine ⟨_, ?_, h1, h2, h3, rfl⟩
  unfold cwrite
  rw [if_neg (by rw [h.dead]; simp), if_neg (by show ¬ c * 1024 < _; omega), h1.dead]

/-- which sectors were erased since d0, and what stands where none was -/
structure Wear (d0 : Dl) (c : Nat) (u : Cu Dl) : Prop where
  orig : ∀ j, u.x.hi * 1024 ≤ j → j < 1024 * c → u.x.d.b.getD j 0 = d0.b.getD j 0
  one : ∀ s, s < c → s < u.x.hi → ¬ SecBlank d0 s → u.x.d.worn.getD s 0 = 1
  none_ : ∀ s, s < c → (s < u.x.hi → SecBlank d0 s) → u.x.d.worn.getD s 0 = 0
  hi : (u.x.hi = 0 ∧ u.x.ent = 0) ∨ (u.x.hi = min c (u.x.ent + 1) ∧ 0 < u.x.ent)
  ent : u.x.ent = (if u.at_ / 8 = 0 then 0 else (u.at_ / 8 * 8 - 1) / 1024 + 1) ∨ (u.at_ % 8 ≠ 0 ∧ u.x.ent = u.at_ / 1024 + 1)
theorem wear_word {d0 : Dl} {c : Nat} {u : Cu Dl} (h : Wear d0 c u) (hc : u.at_ / 1024 < c) {d' : Dl} {m : List UInt8} (hw : Worded u.x.d d' c u.x.hi (hiNext c u.x.hi u.x.ent (u.at_ / 1024)) (u.at_ / 8 * 8) m) (hlt : u.at_ / 1024 < hiNext c u.x.hi u.x.ent (u.at_ / 1024)) {a : Nat} {held : List UInt8} {dd : Int}
    (ha : (a % 8 ≠ 0 ∧ a / 8 = u.at_ / 8) ∨ a = u.at_ / 8 * 8 + 8) : Wear d0 c ⟨⟨d', hiNext c u.x.hi u.x.ent (u.at_ / 1024), entNext u.x.ent (u.at_ / 1024)⟩, a, held, dd⟩ := by
  obtain ⟨⟨d, hi, ent⟩, b, held', dead⟩ := u
  obtain ⟨horig, hone, hnone, hhi, hent⟩ := h
  obtain ⟨-, -, hold, -, hi1, hic, hwear⟩ := hw
  dsimp only at *
  have hents : ent ≤ b / 1024 + 1 := by
    rcases hent with e | ⟨_, e⟩
    · rw [e]; split <;> omega
    · omega
  have en : entNext ent (b / 1024) = b / 1024 + 1 := by unfold entNext; split <;> omega
  have hn : hiNext c hi ent (b / 1024) = min c (b / 1024 + 2) := by
    unfold hiNext
    split
    · rcases hhi with ⟨_, e⟩ | ⟨e, _⟩ <;> omega
    · rcases hhi with ⟨e, _⟩ | ⟨e, _⟩ <;> omega
  rw [en]
  rw [hn] at hlt hold hi1 hic hwear ⊢
  have hsb : ∀ s, hi ≤ s → s < c → (SecBlank d s ↔ SecBlank d0 s) := fun s h1 h2 => by
    constructor
    · intro hb j q1 q2; rw [← horig j (by omega) (by omega)]; exact hb j q1 q2
    · intro hb j q1 q2; rw [horig j (by omega) (by omega)]; exact hb j q1 q2
  refine ⟨fun j h1 h2 => ?_, fun s h1 h2 h3 => ?_, fun s h1 h2 => ?_, .inr ⟨rfl, by dsimp only; omega⟩, ?_⟩
  · dsimp only at h1 ⊢
    rw [hold j h2 (by omega) (.inr h1)]
    exact horig j (by omega) h2
  · dsimp only at h2 ⊢
    rcases hwear s h1 with ⟨e, q1, q2, q3⟩ | ⟨e, q1⟩
    · have := hnone s h1 (fun q => by omega)
      omega
    · by_cases q : s < hi
      · rw [e]; exact hone s h1 q h3
      · exact absurd ((hsb s (by omega) h1).1 (q1 (by omega) h2)) h3
  · dsimp only at h2 ⊢
    rcases hwear s h1 with ⟨e, q1, q2, q3⟩ | ⟨e, q1⟩
    · exact absurd ((hsb s q1 h1).2 (h2 q2)) q3
    · rw [e]
      exact hnone s h1 (fun q => h2 (by omega))
  · dsimp only
    rcases ha with ⟨h1, h2⟩ | h1
    · right
      exact ⟨h1, by omega⟩
    · left
      subst h1
      rw [if_neg (by omega)]
      omega
end Go.Proofs.Ytcpkmhhlcmnfdaa

