/- The program's cursor: its block, its numbers, preparing told sector by sector. -/
import Derived.Test.YtcpkmhhlcmnfdaaCuSpec
namespace Go.Proofs.Ytcpkmhhlcmnfdaa
open Go.RowKit
set_option linter.unusedVariables false
set_option maxRecDepth 100000

theorem set_arr {arr : Array Value} {i j : Nat} {v x : Value} (h : arr[j]? = some x) (hne : i ≠ j) : (arr.setIfInBounds i v)[j]? = some x := by
  rw [Array.getElem?_setIfInBounds, if_neg hne]; exact h
theorem set_self {arr : Array Value} {i : Nat} {v x : Value} (h : arr[i]? = some x) : (arr.setIfInBounds i v)[i]? = some v := by
  have := (Array.getElem?_eq_some_iff.1 h).1
  rw [Array.getElem?_setIfInBounds, if_pos rfl, if_pos this]

structure CuM (w : World) (g gf a c n hi : Nat) (wd : Nat → UInt8) (hl : Nat) (dead : Int) : Prop where
  row : ∃ arr, w.heap[g]? = some (.cells arr 85 (0, 0)) ∧ arr[0]? = some (.pointer (some ⟨gf, 0, none⟩)) ∧ arr[1]? = some (.int .i64 (a : Int)) ∧ arr[2]? = some (.int .i64 (c : Int)) ∧ arr[3]? = some (.int .i64 (n : Int)) ∧ (∀ i, i < 8 → arr[4 + i]? = some (bval (wd i))) ∧ arr[12]? = some (.int .i64 (hl : Int)) ∧ arr[13]? = some (.int .i64 (hi : Int)) ∧ arr[14]? = some (.int .i64 dead)
section
variable {w : World} {g gf a c n hi : Nat} {wd : Nat → UInt8} {hl : Nat} {dead : Int}
theorem CuM.only (u : CuM w g gf a c n hi wd hl dead) {F : Nat → Prop} {w' : World} (ho : Only F w w') (hg : ¬ F g) : CuM w' g gf a c n hi wd hl dead := by
  obtain ⟨arr, h, r⟩ := u.row
  exact ⟨arr, by rw [ho.block g (Array.getElem?_eq_some_iff.1 h).1 hg]; exact h, r⟩
theorem CuM.below (u : CuM w g gf a c n hi wd hl dead) {w' : World} (hb : Below w.heap.size w w') : CuM w' g gf a c n hi wd hl dead := u.only (F := fun _ => False) (Only.of_below hb) (fun h => h)
theorem CuM.blk (u : CuM w g gf a c n hi wd hl dead) : g < w.heap.size := by
  obtain ⟨arr, h, r⟩ := u.row
  exact (Array.getElem?_eq_some_iff.1 h).1
theorem CuM.fr (u : CuM w g gf a c n hi wd hl dead) (j : Nat) : w.frozen? ⟨g, j, none⟩ = false := by
  obtain ⟨arr, h, r⟩ := u.row
  exact frozen_of_row w g j _ _ h
theorem CuM.c0 (u : CuM w g gf a c n hi wd hl dead) : w.cell? ⟨g, 0, none⟩ = some (.pointer (some ⟨gf, 0, none⟩)) := by
  obtain ⟨arr, h, h0, h1, h2, h3, hw, h12, h13, h14⟩ := u.row
  rw [cell_of_row _ _ _ _ _ _ h]; exact h0
theorem CuM.c1 (u : CuM w g gf a c n hi wd hl dead) : w.cell? ⟨g, 1, none⟩ = some (.int .i64 (a : Int)) := by
  obtain ⟨arr, h, h0, h1, h2, h3, hw, h12, h13, h14⟩ := u.row
  rw [cell_of_row _ _ _ _ _ _ h]; exact h1
theorem CuM.c2 (u : CuM w g gf a c n hi wd hl dead) : w.cell? ⟨g, 2, none⟩ = some (.int .i64 (c : Int)) := by
  obtain ⟨arr, h, h0, h1, h2, h3, hw, h12, h13, h14⟩ := u.row
  rw [cell_of_row _ _ _ _ _ _ h]; exact h2
theorem CuM.c3 (u : CuM w g gf a c n hi wd hl dead) : w.cell? ⟨g, 3, none⟩ = some (.int .i64 (n : Int)) := by
  obtain ⟨arr, h, h0, h1, h2, h3, hw, h12, h13, h14⟩ := u.row
  rw [cell_of_row _ _ _ _ _ _ h]; exact h3
theorem CuM.cw (u : CuM w g gf a c n hi wd hl dead) {i : Nat} (hi : i < 8) : w.cell? ⟨g, 4 + i, none⟩ = some (bval (wd i)) := by
  obtain ⟨arr, h, h0, h1, h2, h3, hw, h12, h13, h14⟩ := u.row
  rw [cell_of_row _ _ _ _ _ _ h]; exact hw i hi
theorem CuM.c12 (u : CuM w g gf a c n hi wd hl dead) : w.cell? ⟨g, 12, none⟩ = some (.int .i64 (hl : Int)) := by
  obtain ⟨arr, h, h0, h1, h2, h3, hw, h12, h13, h14⟩ := u.row
  rw [cell_of_row _ _ _ _ _ _ h]; exact h12
theorem CuM.c13 (u : CuM w g gf a c n hi wd hl dead) : w.cell? ⟨g, 13, none⟩ = some (.int .i64 (hi : Int)) := by
  obtain ⟨arr, h, h0, h1, h2, h3, hw, h12, h13, h14⟩ := u.row
  rw [cell_of_row _ _ _ _ _ _ h]; exact h13
theorem CuM.c14 (u : CuM w g gf a c n hi wd hl dead) : w.cell? ⟨g, 14, none⟩ = some (.int .i64 dead) := by
  obtain ⟨arr, h, h0, h1, h2, h3, hw, h12, h13, h14⟩ := u.row
  rw [cell_of_row _ _ _ _ _ _ h]; exact h14
theorem CuM.setN (u : CuM w g gf a c n hi wd hl dead) (m : Nat) : CuM (w.setCell ⟨g, 3, none⟩ (.int .i64 (m : Int))) g gf a c m hi wd hl dead := by
  obtain ⟨arr, h, h0, h1, h2, h3, hw, h12, h13, h14⟩ := u.row
  exact ⟨_, heap_setCell_same _ _ _ _ _ _ h, set_arr h0 (by omega), set_arr h1 (by omega), set_arr h2 (by omega), set_self h3, fun i hi => set_arr (hw i hi) (by omega), set_arr h12 (by omega), set_arr h13 (by omega), set_arr h14 (by omega)⟩
theorem CuM.setW (u : CuM w g gf a c n hi wd hl dead) {j : Nat} (hj : j < 8) (x : UInt8) : CuM (w.setCell ⟨g, 4 + j, none⟩ (bval x)) g gf a c n hi (fun i => if i = j then x else wd i) hl dead := by
  obtain ⟨arr, h, h0, h1, h2, h3, hw, h12, h13, h14⟩ := u.row
  refine ⟨_, heap_setCell_same _ _ _ _ _ _ h, set_arr h0 (by omega), set_arr h1 (by omega), set_arr h2 (by omega), set_arr h3 (by omega), fun i hi => ?_, set_arr h12 (by omega), set_arr h13 (by omega), set_arr h14 (by omega)⟩
  by_cases e : i = j
  · subst e; show _ = some (bval (if i = i then x else wd i)); rw [if_pos rfl]; exact set_self (hw i hi)
  · show _ = some (bval (if i = j then x else wd i)); rw [if_neg e]; exact set_arr (hw i hi) (by omega)
theorem CuM.setH (u : CuM w g gf a c n hi wd hl dead) (m : Nat) : CuM (w.setCell ⟨g, 12, none⟩ (.int .i64 (m : Int))) g gf a c n hi wd m dead := by
  obtain ⟨arr, h, h0, h1, h2, h3, hw, h12, h13, h14⟩ := u.row
  exact ⟨_, heap_setCell_same _ _ _ _ _ _ h, set_arr h0 (by omega), set_arr h1 (by omega), set_arr h2 (by omega), set_arr h3 (by omega), fun i hi => set_arr (hw i hi) (by omega), set_self h12, set_arr h13 (by omega), set_arr h14 (by omega)⟩
theorem CuM.setHi (u : CuM w g gf a c n hi wd hl dead) (m : Nat) : CuM (w.setCell ⟨g, 13, none⟩ (.int .i64 (m : Int))) g gf a c n m wd hl dead := by
  obtain ⟨arr, h, h0, h1, h2, h3, hw, h12, h13, h14⟩ := u.row
  exact ⟨_, heap_setCell_same _ _ _ _ _ _ h, set_arr h0 (by omega), set_arr h1 (by omega), set_arr h2 (by omega), set_arr h3 (by omega), fun i hi => set_arr (hw i hi) (by omega), set_arr h12 (by omega), set_self h13, set_arr h14 (by omega)⟩
theorem CuM.setD (u : CuM w g gf a c n hi wd hl dead) (k : Int) : CuM (w.setCell ⟨g, 14, none⟩ (.int .i64 k)) g gf a c n hi wd hl k := by
  obtain ⟨arr, h, h0, h1, h2, h3, hw, h12, h13, h14⟩ := u.row
  exact ⟨_, heap_setCell_same _ _ _ _ _ _ h, set_arr h0 (by omega), set_arr h1 (by omega), set_arr h2 (by omega), set_arr h3 (by omega), fun i hi => set_arr (hw i hi) (by omega), set_arr h12 (by omega), set_arr h13 (by omega), set_self h14⟩
theorem CuM.bs (u : CuM w g gf a c n hi wd hl dead) {l : List UInt8} (h8 : l.length ≤ 8) (hl' : ∀ i, i < l.length → wd i = l.getD i 0) : Bs w (some ⟨g, 4, none⟩) l := fun _ =>
  ⟨g, 4, rfl, fun j hj => by rw [u.cw (by omega), hl' j hj]; rfl⟩
end

/-- a sector is made blank, if it is not -/
def dgClean (d : Dl) (a c : Nat) (s : Int) : Int × Dl := if (dgBlank d a c s).2 ≠ 0 ∨ (dgBlank d a c s).1 = true then ((dgBlank d a c s).2, d) else dgErase d a c s
theorem prep_clean {a c : Nat} {x : Cp Dl} {s : Nat} (h1 : x.hi ≤ s) (h2 : s < c) : cprep (devOps a c) x s = ((dgClean x.d a c (s : Int)).1, ⟨(dgClean x.d a c (s : Int)).2, if (dgClean x.d a c (s : Int)).1 = 0 then s + 1 else x.hi, x.ent⟩) := by
  unfold cprep devOps
  dsimp only
  rw [if_neg (by omega)]
  by_cases q1 : (dgBlank x.d a c (s : Int)).2 ≠ 0
  · have e : dgClean x.d a c (s : Int) = ((dgBlank x.d a c (s : Int)).2, x.d) := by unfold dgClean; rw [if_pos (.inl q1)]
    rw [e, if_pos q1]; dsimp only; rw [if_neg q1]
  · rw [if_neg q1]
    by_cases q2 : (dgBlank x.d a c (s : Int)).1 = true
    · have e0 : (dgBlank x.d a c (s : Int)).2 = 0 := by omega
      have e : dgClean x.d a c (s : Int) = (0, x.d) := by unfold dgClean; rw [if_pos (.inr q2), e0]
      rw [e, if_pos q2]; rfl
    · have e : dgClean x.d a c (s : Int) = dgErase x.d a c (s : Int) := by unfold dgClean; rw [if_neg (fun h => Or.elim h q1 q2)]
      rw [e, if_neg q2]
      by_cases q3 : (dgErase x.d a c (s : Int)).1 = 0
      · rw [if_pos q3, if_pos q3, q3]
      · rw [if_neg q3, if_neg q3]
theorem prep_skip {a c : Nat} {x : Cp Dl} {s : Nat} (h : s < x.hi ∨ c ≤ s) : cprep (devOps a c) x s = (0, x) := by
  unfold cprep devOps
  dsimp only
  rw [if_pos h]

/-- sectors from hi on are made ready, k of them -/
def preps (a c : Nat) : Nat → Cp Dl → Int × Cp Dl
  | 0, x => (0, x)
  | k + 1, x => if (dgClean x.d a c (x.hi : Int)).1 ≠ 0 then ((dgClean x.d a c (x.hi : Int)).1, ⟨(dgClean x.d a c (x.hi : Int)).2, x.hi, x.ent⟩) else preps a c k ⟨(dgClean x.d a c (x.hi : Int)).2, x.hi + 1, x.ent⟩

structure Ready (c : Nat) (x : Cp Dl) (s : Nat) : Prop where
  hi : s ≤ x.hi
  hic : x.hi ≤ c
  ent : x.ent ≤ s + 1
  ent2 : s ≤ x.ent
  sec : s < x.ent → min (s + 2) c ≤ x.hi

theorem preps_hi {a c : Nat} : ∀ (k : Nat) (x : Cp Dl), (preps a c k x).1 = 0 → (preps a c k x).2.hi = x.hi + k
  | 0, x, _ => rfl
  | k + 1, x, h => by
    unfold preps at h ⊢
    by_cases q : (dgClean x.d a c (x.hi : Int)).1 ≠ 0
    · rw [if_pos q] at h; exact absurd h q
    · rw [if_neg q] at h ⊢
      rw [preps_hi k _ h]
      dsimp only
      omega

theorem preps_center {a c : Nat} {x : Cp Dl} {s : Nat} (hr : Ready c x s) (hs : s < c) :
    (center (devOps a c) x s).1 = (preps a c (min (s + 2) c - x.hi) x).1 ∧ (center (devOps a c) x s).2.d = (preps a c (min (s + 2) c - x.hi) x).2.d ∧ (center (devOps a c) x s).2.hi = (preps a c (min (s + 2) c - x.hi) x).2.hi ∧
    ((center (devOps a c) x s).1 = 0 → (center (devOps a c) x s).2.ent = s + 1) := by
  obtain ⟨r1, r2, r3, -, r4⟩ := hr
  unfold center
  by_cases h1 : s < x.ent
  · rw [if_pos h1, show min (s + 2) c - x.hi = 0 by have := r4 h1; omega]
    exact ⟨rfl, rfl, rfl, fun _ => by dsimp only; omega⟩
  · rw [if_neg h1]
    by_cases h2 : min (s + 2) c ≤ x.hi
    · rw [show min (s + 2) c - x.hi = 0 by omega, prep_skip (by omega)]
      dsimp only
      rw [if_neg (by simp), prep_skip (by omega)]
      unfold centers
      rw [if_neg (by simp)]
      exact ⟨rfl, rfl, rfl, fun _ => rfl⟩
    · by_cases h3 : x.hi = s + 1
      · rw [show min (s + 2) c - x.hi = 1 by omega, prep_skip (.inl (by omega) : s < x.hi ∨ c ≤ s)]
        dsimp only
        rw [if_neg (by simp), prep_clean (by omega) (by omega)]
        unfold centers preps preps
        rw [h3]
        generalize dgClean x.d a c ((s + 1 : Nat) : Int) = r
        obtain ⟨rc, rd⟩ := r
        by_cases q : rc = 0
        · subst q; simp
        · simp [q]
      · have h4 : x.hi = s := by omega
        have e := prep_clean (a := a) (c := c) (x := x) (s := s) (by omega) hs
        rw [e]
        obtain ⟨k, hk⟩ : ∃ k, min (s + 2) c - x.hi = k + 1 := ⟨min (s + 2) c - x.hi - 1, by omega⟩
        rw [hk]
        unfold preps
        rw [h4]
        generalize dgClean x.d a c (s : Int) = r
        obtain ⟨rc, rd⟩ := r
        by_cases q : rc = 0
        · subst q
          by_cases h5 : s + 1 < c
          · obtain rfl : k = 1 := by omega
            have e2 := prep_clean (a := a) (c := c) (x := ⟨rd, s + 1, x.ent⟩) (s := s + 1) (by dsimp only; omega) h5
            simp only [ne_eq, not_true_eq_false, if_false, if_true]
            rw [e2]
            unfold centers preps preps
            dsimp only
            generalize dgClean rd a c ((s + 1 : Nat) : Int) = r2
            obtain ⟨rc2, rd2⟩ := r2
            by_cases q2 : rc2 = 0
            · subst q2; simp
            · simp [q2]
          · obtain rfl : k = 0 := by omega
            simp only [ne_eq, not_true_eq_false, if_false, if_true]
            rw [prep_skip (.inr (by omega))]
            unfold centers preps
            simp
        · simp [q]
theorem center_ready {a c : Nat} {x : Cp Dl} {s : Nat} (hr : Ready c x s) (hs : s < c) (h0 : (center (devOps a c) x s).1 = 0) : Ready c (center (devOps a c) x s).2 s ∧ Ready c (center (devOps a c) x s).2 (s + 1) := by
  obtain ⟨e1, e2, e3, e4⟩ := preps_center (a := a) hr hs
  have e5 := preps_hi (a := a) (c := c) (min (s + 2) c - x.hi) x (by rw [← e1]; exact h0)
  have e6 := e4 h0
  rw [← e3] at e5
  obtain ⟨r1, r2, r3, r5, r4⟩ := hr
  exact ⟨⟨by omega, by omega, by omega, by omega, fun _ => by omega⟩, ⟨by omega, by omega, by omega, by omega, fun _ => by omega⟩⟩
theorem word_ready {a c : Nat} {x : Cp Dl} {ws : Nat} {m : List UInt8} (hr : Ready c x (ws / 1024)) (hs : ws / 1024 < c) (h0 : (cword (devOps a c) x ws m).1 = 0) : Ready c (cword (devOps a c) x ws m).2 (ws / 1024) ∧ Ready c (cword (devOps a c) x ws m).2 (ws / 1024 + 1) := by
  unfold cword cprog at h0 ⊢
  by_cases q : (center (devOps a c) x (ws / 1024)).1 ≠ 0
  · rw [if_pos q] at h0; exact absurd h0 q
  · rw [if_neg q] at h0 ⊢
    have hk := center_ready (a := a) hr hs (by simpa using q)
    revert hk
    generalize center (devOps a c) x (ws / 1024) = r
    rintro ⟨k1, k2⟩
    exact ⟨⟨k1.hi, k1.hic, k1.ent, k1.ent2, k1.sec⟩, ⟨k2.hi, k2.hic, k2.ent, k2.ent2, k2.sec⟩⟩

/-- a cursor's numbers -/
structure CuN (c : Nat) (u : Cu Dl) : Prop where
  hl : u.held.length ≤ 8
  hat : u.held.length ≤ u.at_
  at_ : u.at_ ≤ c * 1024
  live : u.dead = 0 → u.held.length < 8 ∧ (u.at_ - u.held.length) % 8 = 0 ∧ Ready c u.x ((u.at_ - u.held.length) / 1024)
theorem push_n {a c : Nat} {u : Cu Dl} (h : CuN c u) (hlt : u.at_ < c * 1024) (b : UInt8) : CuN c (cpush (devOps a c) u b) := by
  unfold cpush
  by_cases hd : u.dead = 0
  · rw [if_neg (by simpa using hd)]
    obtain ⟨l1, l2, l3⟩ := h.live hd
    have hat := h.hat
    have e : (u.held ++ [b]).length = u.held.length + 1 := by simp
    by_cases h8 : (u.held ++ [b]).length = 8
    · rw [if_pos h8]
      have eb : u.at_ + 1 - 8 = u.at_ - u.held.length := by omega
      have hs : (u.at_ - u.held.length) / 1024 < c := by omega
      unfold cput
      refine ⟨?_, ?_, by dsimp only; omega, fun h0 => ?_⟩
      · dsimp only; split <;> simp_all
      · dsimp only; split
        · simp
        · omega
      · dsimp only at h0 ⊢
        rw [if_pos h0]
        rw [eb] at h0 ⊢
        obtain ⟨k1, k2⟩ := word_ready l3 hs h0
        refine ⟨by simp, by simp; omega, ?_⟩
        by_cases hq : (u.at_ - u.held.length) / 1024 = (u.at_ + 1) / 1024
        · rw [hq] at k1; simpa using k1
        · have : (u.at_ - u.held.length) / 1024 + 1 = (u.at_ + 1) / 1024 := by omega
          rw [this] at k2; simpa using k2
    · rw [if_neg h8]
      refine ⟨by dsimp only; omega, by dsimp only; omega, by dsimp only; omega, fun _ => ?_⟩
      dsimp only
      rw [e, show u.at_ + 1 - (u.held.length + 1) = u.at_ - u.held.length by omega]
      exact ⟨by omega, l2, l3⟩
  · rw [if_pos hd]; exact h
theorem push_at {a c : Nat} {u : Cu Dl} (hd : u.dead = 0) (b : UInt8) : (cpush (devOps a c) u b).at_ = u.at_ + 1 := by
  unfold cpush
  rw [if_neg (by simpa using hd)]
  split
  · rfl
  · rfl
theorem flush_n {a c : Nat} {u : Cu Dl} (h : CuN c u) : CuN c (cflush (devOps a c) u).2 := by
  unfold cflush
  by_cases q : u.dead = 0 ∧ 0 < u.held.length
  · rw [if_pos q]
    unfold cflushed
    have hat := h.hat
    have hat2 := h.at_
    obtain ⟨l1, l2, l3⟩ := h.live q.1
    exact ⟨h.hl, h.hat, h.at_, fun h0 => ⟨l1, l2, (word_ready l3 (by omega) h0).1⟩⟩
  · rw [if_neg q]; exact h
theorem first_n {c : Nat} {d : Dl} {n : Nat} {h : List UInt8} (hn : n ≤ c * 1024) (hh : h.length = n % 8) : CuN c (cfirst d n h) := by
  unfold cfirst
  refine ⟨by dsimp only; omega, by dsimp only; omega, hn, fun _ => ?_⟩
  dsimp only
  rw [hh]
  exact ⟨by omega, by omega, by dsimp only; omega, by dsimp only; omega, by dsimp only; omega, by dsimp only; omega, fun hx => by dsimp only at hx ⊢; omega⟩

theorem clean_cn {d : Dl} {a c : Nat} {s : Int} (r : Room d 1) : CN d (dgClean d a c s).2 1 := by
  have he : CN d (dgErase d a c s).2 1 := (dgErase_num d r.ok a c _ (by have := r.steps; omega) (fun y hy => by have := r.worn y hy; omega)).cn (by omega) (by omega)
  unfold dgClean
  split
  · exact (CN.refl r.ok).more (by omega)
  · exact he
theorem CN.blen {d d' : Dl} {k : Int} (h : CN d d' k) (ok : DlOk d) : d'.b.length = d.b.length := by rw [h.ok.len, ok.len, h.len]
end Go.Proofs.Ytcpkmhhlcmnfdaa

