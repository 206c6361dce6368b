/- A cursor in plain states: written while power may go; begun anew; numbers. -/
import Derived.Test.YtcpkmhhlcmnfdaaCu4
namespace Go.Proofs.Ytcpkmhhlcmnfdaa
open Go.RowKit
set_option linter.unusedVariables false
set_option maxRecDepth 100000

section
variable {T : Nat → UInt8} {c kt lim : Nat}
theorem wk_prep {x : Cp Dl} (h : Wk T c kt lim x.d) (hc : kt ≤ lim) (hlim : lim ≤ 1024 * c) (hh : lim ≤ x.hi * 1024) (s : Nat) : Wk T c kt lim (cprep (devOps 0 c) x s).2.d ∧ lim ≤ (cprep (devOps 0 c) x s).2.hi * 1024 := by
  unfold cprep
  split
  · exact ⟨h, hh⟩
  · rename_i hs
    have hs2 : lim ≤ s * 1024 := by show lim ≤ s * 1024; have : ¬ s < x.hi := fun q => hs (.inl q); omega
    split
    · exact ⟨h, hh⟩
    · split
      · exact ⟨h, by dsimp only; omega⟩
      · have he := wk_erase h hc hlim hs2
        split
        · exact ⟨he, by dsimp only; omega⟩
        · exact ⟨he, hh⟩
theorem wk_enter {x : Cp Dl} (h : Wk T c kt lim x.d) (hc : kt ≤ lim) (hlim : lim ≤ 1024 * c) (hh : lim ≤ x.hi * 1024) (s : Nat) : Wk T c kt lim (center (devOps 0 c) x s).2.d ∧ lim ≤ (center (devOps 0 c) x s).2.hi * 1024 := by
  unfold center
  split
  · exact ⟨h, hh⟩
  · obtain ⟨h1, hh1⟩ := wk_prep h hc hlim hh s
    split
    · exact ⟨h1, hh1⟩
    · obtain ⟨h2, hh2⟩ := wk_prep h1 hc hlim hh1 (s + 1)
      unfold centers
      split
      · exact ⟨h2, hh2⟩
      · exact ⟨h2, hh2⟩
theorem wk_word {x : Cp Dl} (h : Wk T c kt lim x.d) (hc : kt ≤ lim) (hlim : lim ≤ 1024 * c) (hh : lim ≤ x.hi * 1024) {ws : Nat} {m : List UInt8} (hm : m.length = 8) (hT : ∀ i, i < 8 → m.getD i 0 = T (ws + i)) :
    Wk T c kt lim (cword (devOps 0 c) x ws m).2.d ∧ lim ≤ (cword (devOps 0 c) x ws m).2.hi * 1024 := by
  obtain ⟨h1, hh1⟩ := wk_enter h hc hlim hh (ws / 1024)
  unfold cword cprog
  split
  · exact ⟨h1, hh1⟩
  · exact ⟨wk_prog h1 hc hlim hm hT, hh1⟩

structure WkU (T : Nat → UInt8) (c kt lim : Nat) (u : Cu Dl) : Prop where
  wk : Wk T c kt lim u.x.d
  hh : lim ≤ u.x.hi * 1024
  held : u.dead = 0 → u.held = (List.range (u.at_ % 8)).map fun i => T (u.at_ / 8 * 8 + i)
theorem wk_push {u : Cu Dl} (h : WkU T c kt lim u) (hc : kt ≤ lim) (hlim : lim ≤ 1024 * c) {b : UInt8} (hb : u.dead = 0 → T u.at_ = b) :
    WkU T c kt lim (cpush (devOps 0 c) u b) ∧ ((cpush (devOps 0 c) u b).dead = 0 → u.dead = 0 ∧ (cpush (devOps 0 c) u b).at_ = u.at_ + 1) := by
  by_cases hd : u.dead = 0
  · have hheld := h.held hd
    have hb' := hb hd
    have hhl : u.held.length = u.at_ % 8 := by rw [hheld]; simp
    have hext : u.held ++ [b] = (List.range (u.at_ % 8 + 1)).map fun i => T (u.at_ / 8 * 8 + i) := by
      rw [List.range_succ, List.map_append, ← hheld, List.map_cons, List.map_nil]
      rw [show u.at_ / 8 * 8 + u.at_ % 8 = u.at_ by omega, hb']
    unfold cpush
    rw [if_neg (by rw [hd]; simp)]
    by_cases h8 : (u.held ++ [b]).length = 8
    · rw [if_pos h8]
      have h7 : u.at_ % 8 = 7 := by simp [hhl] at h8; omega
      have ews : u.at_ + 1 - 8 = u.at_ / 8 * 8 := by omega
      rw [ews]
      obtain ⟨h1, h2⟩ := wk_word h.wk hc hlim h.hh (ws := u.at_ / 8 * 8) h8 (fun i hi8 => by rw [hext, h7, range_map_get _ hi8])
      unfold cput
      refine ⟨⟨h1, h2, fun q => ?_⟩, fun _ => ⟨hd, rfl⟩⟩
      dsimp only at q ⊢
      rw [if_pos q, show (u.at_ + 1) % 8 = 0 by omega]
      rfl
    · rw [if_neg h8]
      have h7 : u.at_ % 8 < 7 := by simp [hhl] at h8; omega
      refine ⟨⟨h.wk, h.hh, fun _ => ?_⟩, fun _ => ⟨hd, rfl⟩⟩
      dsimp only
      rw [hext, show (u.at_ + 1) / 8 * 8 = u.at_ / 8 * 8 by omega, show (u.at_ + 1) % 8 = u.at_ % 8 + 1 by omega]
  · rw [cpush_dead _ hd]
    exact ⟨h, fun q => absurd q hd⟩
theorem wk_pushes : ∀ (l : List UInt8) {u : Cu Dl}, WkU T c kt lim u → kt ≤ lim → lim ≤ 1024 * c → (u.dead = 0 → ∀ i, i < l.length → T (u.at_ + i) = l.getD i 0) →
    WkU T c kt lim (cpushes (devOps 0 c) u l) ∧ ((cpushes (devOps 0 c) u l).dead = 0 → u.dead = 0 ∧ (cpushes (devOps 0 c) u l).at_ = u.at_ + l.length)
  | [], u, h, _, _, _ => ⟨h, fun q => ⟨q, rfl⟩⟩
  | b :: l, u, h, hc, hlim, hT => by
    obtain ⟨h1, h2⟩ := wk_push h hc hlim (b := b) (fun hd => by have := hT hd 0 (by simp); simpa using this)
    obtain ⟨q1, q2⟩ := wk_pushes l h1 hc hlim (fun hd i hi => by
      obtain ⟨e1, e2⟩ := h2 hd
      have := hT e1 (i + 1) (by simpa using hi)
      rw [e2, Nat.add_assoc, Nat.add_comm 1 i, this]
      simp)
    rw [cpushes_cons]
    refine ⟨q1, fun hd => ?_⟩
    obtain ⟨e1, e2⟩ := q2 hd
    obtain ⟨e3, e4⟩ := h2 e1
    exact ⟨e3, by rw [e2, e4, List.length_cons]; omega⟩
/-- Write: whatever it answers -/
theorem wk_write {u : Cu Dl} (h : WkU T c kt lim u) (hc : kt ≤ lim) (hlim : lim ≤ 1024 * c) {l : List UInt8} (hT : u.dead = 0 → ∀ i, i < l.length → T (u.at_ + i) = l.getD i 0) :
    WkU T c kt lim (cwrite (devOps 0 c) u l).2 ∧ ((cwrite (devOps 0 c) u l).1 = 0 → (cwrite (devOps 0 c) u l).2.dead = 0 ∧ (cwrite (devOps 0 c) u l).2.at_ = u.at_ + l.length) := by
  unfold cwrite
  split
  · rename_i hd
    exact ⟨h, fun q => absurd q hd⟩
  · split
    · exact ⟨h, fun q => by simp at q⟩
    · obtain ⟨q1, q2⟩ := wk_pushes l h hc hlim hT
      exact ⟨q1, fun q => ⟨q, (q2 q).2⟩⟩
/-- Flush, where nothing but 255 shall stand behind -/
theorem wk_flush {u : Cu Dl} (h : WkU T c kt lim u) (hc : kt ≤ lim) (hlim : lim ≤ 1024 * c) (hT : u.dead = 0 → ∀ j, u.at_ ≤ j → j < u.at_ / 8 * 8 + 8 → T j = 255) : WkU T c kt lim (cflush (devOps 0 c) u).2 := by
  unfold cflush
  split
  · rename_i hd
    have hheld := h.held hd.1
    have hhl : u.held.length = u.at_ % 8 := by rw [hheld]; simp
    have ews : u.at_ - u.held.length = u.at_ / 8 * 8 := by omega
    rw [ews]
    obtain ⟨h1, h2⟩ := wk_word h.wk hc hlim h.hh (ws := u.at_ / 8 * 8) (cpad_len (h := u.held) (by omega)) (fun i hi8 => by
      rw [cpad_get hi8, hhl]
      by_cases q : i < u.at_ % 8
      · rw [if_pos q, hheld, range_map_get _ q]
      · rw [if_neg q, hT hd.1 _ (by omega) (by omega)])
    unfold cflushed
    exact ⟨h1, h2, fun _ => hheld⟩
  · exact h
end

/-- how far a cursor that begins at n takes sectors for prepared -/
def limOf (n : Nat) : Nat := (n + 1023) / 1024 * 1024
theorem le_limOf (n : Nat) : n ≤ limOf n := by unfold limOf; omega

/-- a flash over which power went, booted: a new cursor goes on -/
theorem first_inv {T : Nat → UInt8} {c kt : Nat} {d : Dl} (h : Wk T c kt (limOf kt) d) (hoff : d.off = false) (harm : d.armed = false) (hpk : d.pick.length = 0) (hk : kt ≤ 1024 * c) {held : List UInt8} (hh : held = (List.range (kt % 8)).map fun i => T (kt / 8 * 8 + i)) :
    Inv T c (cfirst d kt held) := by
  have hl : limOf kt = (kt + 1023) / 1024 * 1024 := rfl
  refine ⟨⟨hoff, harm, h.len, h.worn, hpk⟩, rfl, hk, hh, fun j hj => h.same j (by unfold cfirst at hj; dsimp only at hj; omega), fun j h1 h2 => ?_, ?_, ?_, fun hn => ?_, ?_⟩
  · unfold cfirst at h1 h2 ⊢
    dsimp only at h1 h2 ⊢
    by_cases q : j < kt
    · rw [h.same j q]; exact (tz_and _ _).2 (by simp)
    · exact h.rest j (by omega) (by omega)
  · unfold cfirst; dsimp only; omega
  · unfold cfirst; dsimp only; omega
  · unfold cfirst at hn ⊢; dsimp only at hn ⊢; omega
  · unfold cfirst; dsimp only; omega
/-- what it reads first -/
theorem first_read {T : Nat → UInt8} {c kt lim : Nat} {d : Dl} (h : Wk T c kt lim d) (hk : kt ≤ 1024 * c) : cut d.b (kt / 8 * 8) (kt % 8) = (List.range (kt % 8)).map fun i => T (kt / 8 * 8 + i) := by
  have hl := h.len
  refine list_ext_getD (by rw [cut_len (by omega)]; simp) fun i hi => ?_
  rw [cut_len (by omega)] at hi
  rw [cut_get hi, range_map_get _ hi]
  exact h.same _ (by omega)
theorem dgRead_calm {d : Dl} {c : Nat} (h : CalmD d c) {t n : Nat} (hf : t + n ≤ 1024 * c) : dgRead d 0 c (t : Int) (n : Int) = (cut d.b t n, 0) := by
  have hl := h.len
  unfold dgRead
  rw [h.off, if_neg (by simp), if_pos ⟨by omega, by omega, by omega⟩]
  unfold dreadOf
  rw [h.off, if_neg (by simp), if_pos ⟨by omega, by omega, by omega⟩, show (((0 : Nat) : Int) * 1024 + (t : Int)).toNat = t by omega, Int.toNat_natCast]
/-- a cursor that was flushed leaves what another begins with -/
theorem Inv.wk {T : Nat → UInt8} {c : Nat} {u : Cu Dl} (h : Inv T c u) (hd : ∀ j, j < u.at_ → u.x.d.b.getD j 0 = T j) (hl : limOf u.at_ ≤ u.x.hi * 1024) : Wk T c u.at_ (limOf u.at_) u.x.d :=
  ⟨h.calm.len, h.calm.worn, hd, fun j h1 h2 => h.rest j (by omega) (by omega)⟩
theorem Inv.wkU {T : Nat → UInt8} {c : Nat} {u : Cu Dl} (h : Inv T c u) (hd : ∀ j, j < u.at_ → u.x.d.b.getD j 0 = T j) (hl : limOf u.at_ ≤ u.x.hi * 1024) : WkU T c u.at_ (limOf u.at_) u := ⟨h.wk hd hl, hl, fun _ => h.held⟩
/-- behind a flush a new cursor takes no more for prepared than was -/
theorem lim_flush {T : Nat → UInt8} {c : Nat} {u u' : Cu Dl} (h : Inv T c u) (h' : Inv T c u') (ha : u'.at_ = u.at_) (h1 : u.at_ % 8 ≠ 0 → u.at_ / 1024 < u'.x.hi) : limOf u'.at_ ≤ u'.x.hi * 1024 := by
  have := h'.sk
  have := h'.pre
  unfold limOf
  omega
end Go.Proofs.Ytcpkmhhlcmnfdaa

