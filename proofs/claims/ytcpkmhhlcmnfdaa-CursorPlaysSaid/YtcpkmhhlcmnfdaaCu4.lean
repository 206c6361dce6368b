/- A cursor in plain states: wear of many bytes; what power that goes leaves; numbers. -/
import Derived.Test.YtcpkmhhlcmnfdaaCu3
namespace Go.Proofs.Ytcpkmhhlcmnfdaa
open Go.RowKit
set_option linter.unusedVariables false
set_option maxRecDepth 100000

theorem wear_push {T : Nat → UInt8} {d0 : Dl} {c : Nat} {u : Cu Dl} (h : Inv T c u) (hw : Wear d0 c u) (hlt : u.at_ < 1024 * c) {b : UInt8} (hb : T u.at_ = b) : Wear d0 c (cpush (devOps 0 c) u b) := by
  have hd := h.dead
  have hhl : u.held.length = u.at_ % 8 := by rw [h.held]; simp
  have hext : u.held ++ [b] = (List.range (u.at_ % 8 + 1)).map fun i => T (u.at_ / 8 * 8 + i) := by
    rw [List.range_succ, List.map_append, ← h.held, List.map_cons, List.map_nil]
    rw [show u.at_ / 8 * 8 + u.at_ % 8 = u.at_ by omega, hb]
  unfold cpush
  rw [if_neg (by rw [hd]; simp)]
  by_cases h8 : (u.held ++ [b]).length = 8
  · rw [if_pos h8]
    have h7 : u.at_ % 8 = 7 := by simp [hhl] at h8; omega
    have ews : u.at_ + 1 - 8 = u.at_ / 8 * 8 := by omega
    have ewd : u.at_ / 8 * 8 / 1024 = u.at_ / 1024 := by omega
    rw [ews]
    obtain ⟨d', e, hwd, hl⟩ := word_calm h.calm h8 (ws := u.at_ / 8 * 8) (by omega) (by omega) h.hic h.ent (by have := h.sk; omega) (fun h1 i hi8 => by
      rw [hext, h7, range_map_get _ hi8]
      exact h.rest _ (by omega) (by omega))
    rw [e, ewd]
    rw [ewd] at hwd hl
    unfold cput
    dsimp only
    exact wear_word hw (by omega) hwd hl (.inr (by omega))
  · rw [if_neg h8]
    have h7 : u.at_ % 8 < 7 := by simp [hhl] at h8; omega
    refine ⟨hw.orig, hw.one, hw.none_, hw.hi, ?_⟩
    dsimp only
    rcases hw.ent with e | ⟨e1, e2⟩
    · left
      rw [show (u.at_ + 1) / 8 = u.at_ / 8 by omega]
      exact e
    · right
      exact ⟨by omega, by omega⟩
theorem wear_pushes {T : Nat → UInt8} {d0 : Dl} {c : Nat} : ∀ (l : List UInt8) {u : Cu Dl}, Inv T c u → Wear d0 c u → u.at_ + l.length ≤ 1024 * c → (∀ i, i < l.length → T (u.at_ + i) = l.getD i 0) → Wear d0 c (cpushes (devOps 0 c) u l)
  | [], u, _, hw, _, _ => hw
  | b :: l, u, h, hw, hle, hT => by
    rw [List.length_cons] at hle hT
    have hb : T u.at_ = b := by have := hT 0 (by omega); simpa using this
    obtain ⟨h1, h2, h3⟩ := push_inv h (by omega) hb
    rw [cpushes_cons]
    exact wear_pushes l h1 (wear_push h hw (by omega) hb) (by omega) (fun i hi => by
      have := hT (i + 1) (by omega)
      rw [h2, Nat.add_assoc, Nat.add_comm 1 i, this]
      simp)
theorem wear_flush {T : Nat → UInt8} {d0 : Dl} {c : Nat} {u : Cu Dl} (h : Inv T c u) (hw : Wear d0 c u) (hp : ∀ j, u.at_ ≤ j → j < u.at_ / 8 * 8 + 8 → j < u.x.hi * 1024 → (255 : UInt8) &&& ~~~(u.x.d.b.getD j 0) = 0) :
    Wear d0 c (cflush (devOps 0 c) u).2 ∧ ((cflush (devOps 0 c) u).2.x.ent = if u.at_ = 0 then 0 else (u.at_ - 1) / 1024 + 1) := by
  obtain ⟨u', e, h1, h2, h3, h4, h5, h6, h7⟩ := flush_inv h hp
  rw [e]
  dsimp only
  by_cases h0 : u.at_ % 8 = 0
  · rw [h6 h0]
    refine ⟨hw, ?_⟩
    rcases hw.ent with q | ⟨q, _⟩
    · rw [q]
      by_cases hz : u.at_ = 0
      · rw [if_pos (by omega), if_pos hz]
      · rw [if_neg (by omega), if_neg hz]; omega
    · exact absurd h0 q
  · obtain ⟨d', hwd, rfl, hl⟩ := h7 h0
    have hle := h.le
    have hx := wear_word hw (by omega) hwd hl (a := u.at_) (held := u.held) (dd := 0) (.inl ⟨h0, rfl⟩)
    refine ⟨hx, ?_⟩
    rcases hx.ent with q | ⟨_, q⟩
    · dsimp only at q ⊢
      have hents : u.x.ent ≤ u.at_ / 1024 + 1 := by
        rcases hw.ent with e | ⟨_, e⟩
        · rw [e]; split <;> omega
        · omega
      have en : entNext u.x.ent (u.at_ / 1024) = u.at_ / 1024 + 1 := by unfold entNext; split <;> omega
      rw [en, if_neg (by omega)]
      omega
    · dsimp only at q ⊢
      rw [q, if_neg (by omega)]
      omega

/-- what stands, whatever came of the power: up to cut all of it, from there on up to lim what can be programmed to it -/
structure Wk (T : Nat → UInt8) (c kt lim : Nat) (d : Dl) : Prop where
  len : d.b.length = 1024 * c
  worn : d.worn.length = c
  same : ∀ j, j < kt → d.b.getD j 0 = T j
  rest : ∀ j, kt ≤ j → j < lim → T j &&& ~~~(d.b.getD j 0) = 0
theorem Wk.of {T : Nat → UInt8} {c kt lim : Nat} {d d' : Dl} (h : Wk T c kt lim d) (hl : d'.b.length = d.b.length) (hw : d'.worn.length = d.worn.length) (hg : ∀ j, j < d.b.length → j < lim ∨ j < kt → d'.b.getD j 0 = d.b.getD j 0 ∨ d'.b.getD j 0 = T j ∨ (T j &&& ~~~(d'.b.getD j 0) = 0 ∧ (d.b.getD j 0 = T j → d'.b.getD j 0 = T j))) (hc : kt ≤ 1024 * c) (hlim : lim ≤ 1024 * c) : Wk T c kt lim d' := by
  have hlen := h.len
  refine ⟨hl.trans h.len, hw.trans h.worn, fun j hj => ?_, fun j h1 h2 => ?_⟩
  · rcases hg j (by omega) (.inr hj) with e | e | ⟨_, e⟩
    · rw [e]; exact h.same j hj
    · exact e
    · exact e (h.same j hj)
  · rcases hg j (by omega) (.inl h2) with e | e | ⟨e, _⟩
    · rw [e]; exact h.rest j h1 h2
    · rw [e]; exact (tz_and _ _).2 (by simp)
    · exact e
theorem dgErase_any' (d : Dl) (c : Nat) (s : Nat) : (dgErase d 0 c (s : Int)).2.b.length = d.b.length ∧ (dgErase d 0 c (s : Int)).2.worn.length = d.worn.length ∧ ∀ j, j < d.b.length → j < s * 1024 → (dgErase d 0 c (s : Int)).2.b.getD j 0 = d.b.getD j 0 := by
  unfold dgErase
  split
  · exact ⟨rfl, rfl, fun _ _ _ => rfl⟩
  · split
    · unfold deraseOf
      split
      · exact ⟨rfl, rfl, fun _ _ _ => rfl⟩
      · split
        · rw [show (((0 : Nat) : Int) + (s : Int)).toNat = s by omega]
          unfold deraseIn
          obtain ⟨e1, e2, -⟩ := dstepOf_b (dwithW d (d.worn.set s (d.worn.getD s 0 + 1)))
          obtain ⟨t, f, hf⟩ : ∃ t f, dstepOf (dwithW d (d.worn.set s (d.worn.getD s 0 + 1))) = (t, f) := ⟨_, _, rfl⟩
          rw [hf] at e1 e2 ⊢
          dsimp only at e1 e2
          have e1' : f.b = d.b := e1
          have e2' : f.worn.length = d.worn.length := by rw [e2]; show (d.worn.set _ _).length = _; rw [List.length_set]
          cases t with
          | none => exact ⟨by show (laid f.b _ _).length = _; rw [laid_len, e1'], e2', fun j hj h2 => by show (laid f.b _ _).getD j 0 = _; rw [laid_get (by rw [e1']; exact hj), if_neg (by omega), e1']⟩
          | some p => exact ⟨by show (laid f.b _ _).length = _; rw [laid_len, e1'], e2', fun j hj h2 => by show (laid f.b _ _).getD j 0 = _; rw [laid_get (by rw [e1']; exact hj), if_neg (by omega), e1']⟩
        · exact ⟨rfl, rfl, fun _ _ _ => rfl⟩
    · exact ⟨rfl, rfl, fun _ _ _ => rfl⟩
theorem wk_erase {T : Nat → UInt8} {c kt lim : Nat} {d : Dl} (h : Wk T c kt lim d) (hc : kt ≤ lim) (hlim : lim ≤ 1024 * c) {s : Nat} (hs : lim ≤ s * 1024) : Wk T c kt lim (dgErase d 0 c (s : Int)).2 := by
  obtain ⟨h1, h2, h3⟩ := dgErase_any' d c s
  exact h.of h1 h2 (fun j hj hh => .inl (h3 j hj (by omega))) (by omega) hlim
theorem torn_can (o n p : UInt8) : n &&& ~~~(tornByte o n p) = 0 := by
  unfold tornByte
  rw [tz_and, ← UInt8.or_assoc]
  simp
theorem torn_same (n p : UInt8) : tornByte n n p = n := by unfold tornByte; simp
theorem tornB_at' {l m p : List UInt8} {i : Nat} (hi : i < m.length) : (tornB l m p).getD i 0 = tornByte (l.getD i 0) (m.getD i 0) (p.getD i 0) := by
  unfold tornB
  rw [getD_map_range _ _ _ hi]
theorem wk_prog {T : Nat → UInt8} {c kt lim : Nat} {d : Dl} (h : Wk T c kt lim d) (hc : kt ≤ lim) (hlim : lim ≤ 1024 * c) {ws : Nat} {m : List UInt8} (hm : m.length = 8) (hT : ∀ i, i < 8 → m.getD i 0 = T (ws + i)) : Wk T c kt lim (dgProg d 0 c (ws : Int) m).2 := by
  have hlen := h.len
  unfold dgProg
  split
  · exact h
  · split
    · rw [show ((0 : Nat) : Int) * 1024 + (ws : Int) = (ws : Int) by omega]
      unfold dprogOf
      split
      · exact h
      · split
        · exact h
        · split
          · exact h
          · split
            · exact h
            · rename_i q1 q2 q3
              rw [Int.toNat_natCast, hm]
              show Wk T c kt lim (dprogTo d ws m 1).2
              rw [dprogTo, if_pos (show (dprogTo d ws m 0).1 = 0 from rfl)]
              show Wk T c kt lim (dwordOf d (ws + 8 * 0) (cut m (8 * 0) 8)).2
              rw [Nat.mul_zero, Nat.add_zero, show cut m 0 8 = m by rw [← hm]; exact cut_self m]
              have hfit : ws + 8 ≤ d.b.length := by omega
              unfold dwordOf
              obtain ⟨e1, e2, -⟩ := dstepOf_b d
              obtain ⟨t, f, hf⟩ : ∃ t f, dstepOf d = (t, f) := ⟨_, _, rfl⟩
              rw [hf] at e1 e2 ⊢
              dsimp only at e1 e2
              cases t with
              | none =>
                refine h.of (by show (laid f.b _ _).length = _; rw [laid_len, e1]) (by show f.worn.length = _; rw [e2]) (fun j hj _ => ?_) (by omega) hlim
                show (laid f.b ws m).getD j 0 = _ ∨ (laid f.b ws m).getD j 0 = _ ∨ _
                by_cases q : ws ≤ j ∧ j < ws + 8
                · right; left
                  rw [laid_get (by rw [e1]; exact hj), if_pos (by omega), hT _ (by omega)]
                  congr 1
                  omega
                · left
                  rw [laid_get (by rw [e1]; exact hj), if_neg (by omega), e1]
              | some p =>
                refine h.of (by show (laid f.b _ _).length = _; rw [laid_len, e1]) (by show f.worn.length = _; rw [e2]) (fun j hj _ => ?_) (by omega) hlim
                show (laid f.b ws (tornB (cut f.b ws 8) m p)).getD j 0 = _ ∨ _ ∨ (T j &&& ~~~((laid f.b ws (tornB (cut f.b ws 8) m p)).getD j 0) = 0 ∧ (_ → (laid f.b ws (tornB (cut f.b ws 8) m p)).getD j 0 = T j))
                by_cases q : ws ≤ j ∧ j < ws + 8
                · right; right
                  rw [laid_get (by rw [e1]; exact hj), if_pos (by rw [tornB_len]; omega), tornB_at' (by omega), cut_get (by omega), hT _ (by omega), e1, show ws + (j - ws) = j by omega]
                  exact ⟨torn_can _ _ _, fun e => by rw [e]; exact torn_same _ _⟩
                · left
                  rw [laid_get (by rw [e1]; exact hj), if_neg (by rw [tornB_len]; omega), e1]
    · exact h
end Go.Proofs.Ytcpkmhhlcmnfdaa

