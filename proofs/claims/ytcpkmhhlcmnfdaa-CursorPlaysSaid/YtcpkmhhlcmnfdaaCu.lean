/- A cursor in plain states: what it does, told over whatever region; and what comes of it over a flash with nothing armed. No program is named here. -/
import Derived.Test.YtcpkmhhlcmnfdaaSim3
import Derived.Test.YtcpkmhhlcmnfdaaCalm
namespace Go.Proofs.Ytcpkmhhlcmnfdaa
open Go.RowKit
set_option linter.unusedVariables false
set_option maxRecDepth 100000

/-- what a cursor asks of its region -/
structure COps (D : Type) where
  c : Nat
  blank : D → Int → Bool × Int
  erase : D → Int → Int × D
  prog : D → Int → List UInt8 → Int × D
/-- a flash, the sectors that are prepared (those ahead of hi), those that are entered (ahead of ent) -/
structure Cp (D : Type) where
  d : D
  hi : Nat
  ent : Nat
structure Cu (D : Type) where
  x : Cp D
  at_ : Nat
  held : List UInt8
  dead : Int

section
variable {D : Type} (O : COps D)
def cprep (x : Cp D) (s : Nat) : Int × Cp D :=
  if s < x.hi ∨ O.c ≤ s then (0, x)
  else if (O.blank x.d (s : Int)).2 ≠ 0 then ((O.blank x.d (s : Int)).2, x)
  else if (O.blank x.d (s : Int)).1 = true then (0, ⟨x.d, s + 1, x.ent⟩)
  else if (O.erase x.d (s : Int)).1 = 0 then (0, ⟨(O.erase x.d (s : Int)).2, s + 1, x.ent⟩)
  else ((O.erase x.d (s : Int)).1, ⟨(O.erase x.d (s : Int)).2, x.hi, x.ent⟩)
def centers (r : Int × Cp D) (s : Nat) : Int × Cp D := if r.1 ≠ 0 then r else (0, ⟨r.2.d, r.2.hi, s + 1⟩)
def center (x : Cp D) (s : Nat) : Int × Cp D :=
  if s < x.ent then (0, x) else if (cprep O x s).1 ≠ 0 then cprep O x s else centers (cprep O (cprep O x s).2 (s + 1)) s
def cprog (r : Int × Cp D) (a : Nat) (m : List UInt8) : Int × Cp D :=
  if r.1 ≠ 0 then r else ((O.prog r.2.d (a : Int) m).1, ⟨(O.prog r.2.d (a : Int) m).2, r.2.hi, r.2.ent⟩)
def cword (x : Cp D) (a : Nat) (m : List UInt8) : Int × Cp D := cprog O (center O x (a / 1024)) a m
def cput (r : Int × Cp D) (a : Nat) (h : List UInt8) : Cu D := ⟨r.2, a, if r.1 = 0 then [] else h, r.1⟩
def cpush (u : Cu D) (b : UInt8) : Cu D :=
  if u.dead ≠ 0 then u
  else if (u.held ++ [b]).length = 8 then cput (cword O u.x (u.at_ + 1 - 8) (u.held ++ [b])) (u.at_ + 1) (u.held ++ [b])
  else ⟨u.x, u.at_ + 1, u.held ++ [b], 0⟩
def cpushes (u : Cu D) (l : List UInt8) : Cu D := l.foldl (cpush O) u
def cwrite (u : Cu D) (l : List UInt8) : Int × Cu D :=
  if u.dead ≠ 0 then (u.dead, u) else if O.c * 1024 < u.at_ + l.length then (2, u) else ((cpushes O u l).dead, cpushes O u l)
def cpad (h : List UInt8) : List UInt8 := h ++ List.replicate (8 - h.length) 255
def cflushed (r : Int × Cp D) (a : Nat) (h : List UInt8) : Int × Cu D := (r.1, ⟨r.2, a, h, r.1⟩)
def cflush (u : Cu D) : Int × Cu D :=
  if u.dead = 0 ∧ 0 < u.held.length then cflushed (cword O u.x (u.at_ - u.held.length) (cpad u.held)) u.at_ u.held else (u.dead, u)
/-- a new cursor, once its offset is right and the bytes are read -/
def cfirst (d : D) (n : Nat) (h : List UInt8) : Cu D := ⟨⟨d, (n + 1023) / 1024, n / 1024⟩, n, h, 0⟩
end

theorem cpush_dead {D : Type} (O : COps D) {u : Cu D} (h : u.dead ≠ 0) (b : UInt8) : cpush O u b = u := by unfold cpush; rw [if_pos h]
theorem cpushes_dead {D : Type} (O : COps D) {u : Cu D} (h : u.dead ≠ 0) : ∀ l, cpushes O u l = u
  | [] => rfl
  | b :: l => by
    show cpushes O (cpush O u b) l = u
    rw [cpush_dead O h]
    exact cpushes_dead O h l
theorem cpushes_append {D : Type} (O : COps D) (u : Cu D) (l m : List UInt8) : cpushes O u (l ++ m) = cpushes O (cpushes O u l) m := List.foldl_append ..
theorem cpushes_cons {D : Type} (O : COps D) (u : Cu D) (b : UInt8) (l : List UInt8) : cpushes O u (b :: l) = cpushes O (cpush O u b) l := rfl

def devOps (a c : Nat) : COps Dl := ⟨c, fun d s => dgBlank d a c s, fun d s => dgErase d a c s, fun d t m => dgProg d a c t m⟩
def refOps (a c : Nat) : COps Fl := ⟨c, fun d s => rgBlank d a c s, fun d s => rgErase d a c s, fun d t m => rgProg d a c t m⟩

/-- nothing armed, power on, c sectors -/
structure CalmD (d : Dl) (c : Nat) : Prop where
  off : d.off = false
  armed : d.armed = false
  len : d.b.length = 1024 * c
  worn : d.worn.length = c
  pick : d.pick.length = 0
/-- is a sector blank? -/
def SecBlank (d : Dl) (s : Nat) : Prop := ∀ j, s * 1024 ≤ j → j < (s + 1) * 1024 → d.b.getD j 0 = 255

theorem blank_calm {d : Dl} {c : Nat} (h : CalmD d c) {s : Nat} (hs : s < c) : ∃ q, dgBlank d 0 c (s : Int) = (q, 0) ∧ (q = true ↔ SecBlank d s) := by
  have hl := h.len
  have e : dgBlank d 0 c (s : Int) = ((cut d.b (s * 1024) 1024).all (· == 255), 0) := by
    unfold dgBlank dgRead
    rw [h.off, if_neg (by simp), if_pos ⟨by omega, by omega⟩, if_neg (by simp), if_pos ⟨by omega, by omega, by omega⟩]
    unfold dreadOf
    rw [h.off, if_neg (by simp), if_pos ⟨by omega, by omega, by omega⟩]
    show (List.all (cut d.b (((0 : Nat) : Int) * 1024 + (s : Int) * 1024).toNat 1024) _, _) = _
    rw [show (((0 : Nat) : Int) * 1024 + (s : Int) * 1024).toNat = s * 1024 by omega]
  refine ⟨_, e, ?_⟩
  rw [List.all_eq_true]
  constructor
  · intro hx j h1 h2
    have hi : j - s * 1024 < (cut d.b (s * 1024) 1024).length := by rw [cut_len (by omega)]; omega
    have := hx _ (List.getElem_mem hi)
    have g := cut_get (l := d.b) (a := s * 1024) (n := 1024) (i := j - s * 1024) (by omega)
    rw [show s * 1024 + (j - s * 1024) = j by omega] at g
    rw [← g]
    simp [List.getD, hi] at this ⊢
    exact this
  · intro hb x hx
    obtain ⟨i, hi, rfl⟩ := List.getElem_of_mem hx
    rw [cut_len (by omega)] at hi
    have g := cut_get (l := d.b) (a := s * 1024) (n := 1024) hi
    rw [hb _ (by omega) (by omega)] at g
    have hi2 : i < (cut d.b (s * 1024) 1024).length := by rw [cut_len (by omega)]; exact hi
    simp [List.getD, hi2] at g
    simp [g]

/-- sector s is prepared -/
structure Prepd (d d' : Dl) (c s : Nat) : Prop where
  calm : CalmD d' c
  get : ∀ j, j < 1024 * c → d'.b.getD j 0 = if s * 1024 ≤ j ∧ j < (s + 1) * 1024 then 255 else d.b.getD j 0
  same : SecBlank d s → d' = d
  wear : ¬ SecBlank d s → d'.worn = d.worn.set s (d.worn.getD s 0 + 1)
theorem erase_calm {d : Dl} {c : Nat} (h : CalmD d c) {s : Nat} (hs : s < c) (hn : ¬ SecBlank d s) : ∃ d', dgErase d 0 c (s : Int) = (0, d') ∧ Prepd d d' c s := by
  have hl := h.len
  have hw := h.worn
  have e : dgErase d 0 c (s : Int) = (0, dwithB ⟨d.b, d.worn.set s (d.worn.getD s 0 + 1), d.steps + 1, d.off, d.armed, d.after, d.pick⟩ (laid d.b (1024 * s) (List.replicate 1024 255))) := by
    unfold dgErase
    rw [if_neg (by rw [h.off]; simp), if_pos ⟨by omega, by omega⟩]
    unfold deraseOf
    rw [if_neg (by rw [h.off]; simp), if_pos (by omega), show (((0 : Nat) : Int) + (s : Int)).toNat = s by omega]
    unfold deraseIn
    rw [calm_step (dwithW d (d.worn.set s (d.worn.getD s 0 + 1))) h.armed]
    rfl
  refine ⟨_, e, ⟨h.off, h.armed, (laid_len _ _ _).trans hl, ?_, h.pick⟩, fun j hj => ?_, fun hb => absurd hb hn, fun _ => rfl⟩
  · show (d.worn.set _ _).length = c
    rw [List.length_set]
    exact hw
  · show (laid d.b (1024 * s) (List.replicate 1024 255)).getD j 0 = _
    rw [laid_get (by omega), List.length_replicate]
    by_cases hin : s * 1024 ≤ j ∧ j < (s + 1) * 1024
    · rw [if_pos hin, if_pos (by omega), getD_rep _ _ _ (by omega)]
    · rw [if_neg hin, if_neg (by omega)]
theorem prep_calm {d : Dl} {c : Nat} (h : CalmD d c) {hi ent s : Nat} (hs : ¬ (s < hi ∨ c ≤ s)) : ∃ d', cprep (devOps 0 c) ⟨d, hi, ent⟩ s = (0, ⟨d', s + 1, ent⟩) ∧ Prepd d d' c s := by
  have hsc : s < c := by omega
  obtain ⟨q, eq, hq⟩ := blank_calm h hsc
  unfold cprep devOps
  dsimp only
  rw [if_neg hs]
  simp only [eq]
  rw [if_neg (by simp)]
  by_cases hb : SecBlank d s
  · rw [if_pos (hq.2 hb)]
    refine ⟨d, rfl, h, fun j hj => ?_, fun _ => rfl, fun hn => absurd hb hn⟩
    by_cases hin : s * 1024 ≤ j ∧ j < (s + 1) * 1024
    · rw [if_pos hin]; exact hb j hin.1 hin.2
    · rw [if_neg hin]
  · rw [if_neg (fun e => hb (hq.1 e))]
    obtain ⟨d', e, hp⟩ := erase_calm h hsc hb
    simp only [e]
    exact ⟨d', rfl, hp⟩
theorem prep_not {d : Dl} {c hi ent s : Nat} (hs : s < hi ∨ c ≤ s) : cprep (devOps 0 c) ⟨d, hi, ent⟩ s = (0, ⟨d, hi, ent⟩) := by
  unfold cprep devOps
  dsimp only
  rw [if_pos hs]

/-- a word of a cursor over a flash with nothing armed: sector ws / 1024 and the next are prepared, the word is laid -/
structure Worded (d d' : Dl) (c hi hi' ws : Nat) (m : List UInt8) : Prop where
  calm : CalmD d' c
  word : ∀ i, i < 8 → d'.b.getD (ws + i) 0 = m.getD i 0
  old : ∀ j, j < 1024 * c → (j < ws ∨ ws + 8 ≤ j) → (j < hi * 1024 ∨ hi' * 1024 ≤ j) → d'.b.getD j 0 = d.b.getD j 0
  fresh : ∀ j, j < 1024 * c → (j < ws ∨ ws + 8 ≤ j) → hi * 1024 ≤ j → j < hi' * 1024 → d'.b.getD j 0 = 255
  hi1 : hi ≤ hi'
  hic : hi' ≤ c
  wear : ∀ s, s < c → (d'.worn.getD s 0 = d.worn.getD s 0 + 1 ∧ hi ≤ s ∧ s < hi' ∧ ¬ SecBlank d s) ∨ (d'.worn.getD s 0 = d.worn.getD s 0 ∧ (hi ≤ s → s < hi' → SecBlank d s))

theorem laid_calm {d : Dl} {c : Nat} (h : CalmD d c) {ws : Nat} {m : List UInt8} (hm : m.length = 8) (h8 : ws % 8 = 0) (hfit : ws + 8 ≤ 1024 * c) (hc : ∀ i, i < 8 → m.getD i 0 &&& ~~~(d.b.getD (ws + i) 0) = 0) :
    dgProg d 0 c (ws : Int) m = (0, calmed d (laid d.b ws m) 1) := by
  have hl := h.len
  unfold dgProg
  rw [if_neg (by rw [h.off]; simp), if_pos (by omega)]
  have := calm_prog d h.armed h.off ws m (by omega) h8 (by omega) (canB_true (cut_len (by omega)) fun i hi => by
    rw [cut_len (by omega), hm] at hi
    rw [cut_get (by omega)]
    exact hc i hi) (((0 : Nat) : Int) * 1024 + (ws : Int)) (by omega)
  rw [this, hm]
  rfl

theorem getD_set_int (l : List Int) (k i : Nat) (x : Int) (h : k < l.length) : (l.set k x).getD i 0 = if i = k then x else l.getD i 0 := by
  simp only [List.getD, List.getElem?_set]
  by_cases e : k = i
  · subst e; simp [h]
  · rw [if_neg e, if_neg (fun h => e h.symm)]

end Go.Proofs.Ytcpkmhhlcmnfdaa

