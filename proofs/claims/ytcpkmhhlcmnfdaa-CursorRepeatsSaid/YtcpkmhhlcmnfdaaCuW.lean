/- Rows of writes where power may go; and rows of writes behind it. -/
import Derived.Test.YtcpkmhhlcmnfdaaCuJ
namespace Go.Proofs.Ytcpkmhhlcmnfdaa
open Go.RowKit
set_option linter.unusedVariables false
set_option maxRecDepth 100000

/-- writing b from n on, whatever comes of the power -/
structure JW (b : List UInt8) (c n B : Nat) (kk : Nat) (u : Cu Dl) (rest : List UInt8) : Prop where
  wk : WkU (tgt b) c n (limOf n) u
  hl : u.held.length ≤ 8
  hl0 : u.dead = 0 → u.held.length < 8
  tl : u.dead = 0 → u.at_ ≤ b.length ∧ rest = b.drop u.at_
  room : Room u.x.d (10 * (rest.length : Int) + 10 * ((B : Int) - (kk : Int)))
theorem cwrite_held {c : Nat} {u : Cu Dl} {l : List UInt8} (h1 : u.held.length ≤ 8) (h2 : u.dead = 0 → u.held.length < 8) : (cwrite (devOps 0 c) u l).2.held.length ≤ 8 ∧ ((cwrite (devOps 0 c) u l).2.dead = 0 → (cwrite (devOps 0 c) u l).2.held.length < 8) := by
  unfold cwrite
  split
  · exact ⟨h1, h2⟩
  · split
    · exact ⟨h1, h2⟩
    · exact pushes_held (devOps 0 c) l h1 h2
theorem jw_write {b : List UInt8} {c n B kk : Nat} {u : Cu Dl} {rest : List UInt8} {m : Nat} (h : JW b c n B kk u rest) (hlim : limOf n ≤ 1024 * c) (hk : kk < B) (hm : m ≤ rest.length) :
    ((cwrite (devOps 0 c) u (rest.take m)).1 = 0 → JW b c n B (kk + 1) (cwrite (devOps 0 c) u (rest.take m)).2 (rest.drop m)) ∧ Wk (tgt b) c n (limOf n) (cwrite (devOps 0 c) u (rest.take m)).2.x.d ∧ Room (cwrite (devOps 0 c) u (rest.take m)).2.x.d (10 * ((B : Int) - (kk : Int))) := by
  have htl : (rest.take m).length = m := by rw [List.length_take]; omega
  obtain ⟨q1, q2⟩ := wk_write h.wk (le_limOf n) hlim (l := rest.take m) (fun hd i hi => by
    obtain ⟨t1, t2⟩ := h.tl hd
    rw [t2] at hi ⊢
    exact tgt_take (fun j hj => tgt_lt hj) hi)
  have hcn := write_cn (a := 0) (c := c) (u := u) (rest.take m) (h.room.less (by rw [htl]; omega))
  rw [htl] at hcn q2
  have hrm : Room (cwrite (devOps 0 c) u (rest.take m)).2.x.d (10 * ((rest.drop m).length : Int) + 10 * ((B : Int) - (kk : Int))) :=
    Room.after (k := 10 * (m : Int)) (n := 10 * ((rest.drop m).length : Int) + 10 * ((B : Int) - (kk : Int))) (h.room.less (by rw [List.length_drop]; omega)) hcn
  obtain ⟨p1, p2⟩ := cwrite_held (c := c) (l := rest.take m) h.hl h.hl0
  refine ⟨fun h0 => ⟨q1, p1, p2, fun hd => ?_, hrm.less (by omega)⟩, q1.wk, hrm.less (by omega)⟩
  obtain ⟨e1, e2⟩ := q2 h0
  have hd0 : u.dead = 0 := by
    by_cases q : u.dead = 0
    · exact q
    · exfalso
      unfold cwrite at h0
      rw [if_pos q] at h0
      exact q h0
  obtain ⟨t1, t2⟩ := h.tl hd0
  have hrl : rest.length = b.length - u.at_ := by rw [t2, List.length_drop]
  exact ⟨by omega, by rw [e2, t2, List.drop_drop]⟩
theorem jw_end {b : List UInt8} {c n B kk : Nat} {u : Cu Dl} (h : JW b c n B kk u []) (hlim : limOf n ≤ 1024 * c) (hk : kk < B) : Wk (tgt b) c n (limOf n) (cflush (devOps 0 c) u).2.x.d ∧ Room (cflush (devOps 0 c) u).2.x.d (10 * ((B : Int) - (kk : Int)) - 10) := by
  have hcn := flush_cn (a := 0) (c := c) (h.room.less (by simp; omega)) h.hl
  have hrm := Room.after (k := 10) (n := 10 * ((B : Int) - (kk : Int)) - 10) (h.room.less (by simp; omega)) hcn
  refine ⟨(wk_flush h.wk (le_limOf n) hlim (fun hd j h1 h2 => ?_)).wk, hrm⟩
  obtain ⟨t1, t2⟩ := h.tl hd
  have := congrArg List.length t2
  rw [List.length_drop, List.length_nil] at this
  unfold tgt
  simp [List.getD, List.getElem?_eq_none (show b.length ≤ j by omega)]

/-- writing b behind that: nothing armed, what stands can be programmed -/
structure JD (b : List UInt8) (c B : Nat) (kk : Nat) (u : Cu Dl) (rest : List UInt8) : Prop where
  inv : Inv (tgt b) c u
  le : u.at_ ≤ b.length
  tl : rest = b.drop u.at_
  room : Room u.x.d (10 * (rest.length : Int) + 10 * ((B : Int) - (kk : Int)))
theorem jd_write {b : List UInt8} {c B kk : Nat} {u : Cu Dl} {rest : List UInt8} {m : Nat} (hb : b.length ≤ 1024 * c) (h : JD b c B kk u rest) (hk : kk < B) (hm : m ≤ rest.length) : (cwrite (devOps 0 c) u (rest.take m)).1 = 0 ∧ JD b c B (kk + 1) (cwrite (devOps 0 c) u (rest.take m)).2 (rest.drop m) := by
  have hr := h.tl
  have hle := h.le
  have hrl : rest.length = b.length - u.at_ := by rw [hr, List.length_drop]
  have htl : (rest.take m).length = m := by rw [List.length_take]; omega
  obtain ⟨u', e, i1, a1, c1, eu⟩ := write_inv h.inv (l := rest.take m) (by omega) (fun i hi => by rw [hr] at hi ⊢; exact tgt_take (fun j hj => tgt_lt hj) hi)
  have hcn := write_cn (a := 0) (c := c) (u := u) (rest.take m) (h.room.less (by rw [htl]; omega))
  rw [e] at hcn ⊢
  rw [htl] at a1 hcn
  refine ⟨rfl, i1, by dsimp only; omega, ?_, ?_⟩
  · dsimp only; rw [a1, hr, List.drop_drop]
  · dsimp only
    have := Room.after (k := 10 * (m : Int)) (n := 10 * ((rest.drop m).length : Int) + 10 * ((B : Int) - (kk : Int))) (h.room.less (by rw [List.length_drop]; omega)) hcn
    exact this.less (by omega)
theorem jd_end {b : List UInt8} {c B kk : Nat} {u : Cu Dl} (h : JD b c B kk u []) (hk : kk < B) (hb : b.length ≤ 1024 * c) : ∃ u', cflush (devOps 0 c) u = (0, u') ∧ u'.at_ = b.length ∧ CalmD u'.x.d c ∧ (∀ j, j < b.length → u'.x.d.b.getD j 0 = tgt b j) := by
  have hr := h.tl
  have hat : u.at_ = b.length := by
    have := congrArg List.length hr
    rw [List.length_drop, List.length_nil] at this
    have := h.le
    omega
  obtain ⟨u', e, i1, a1, d1, -⟩ := flush_inv h.inv (fun j h1 h2 h3 => by
    have := h.inv.rest j (by omega) h3
    unfold tgt at this
    simp only [List.getD, List.getElem?_eq_none (show b.length ≤ j by omega), Option.getD_none] at this ⊢
    exact this)
  rw [hat] at a1 d1
  exact ⟨u', e, a1, i1.calm, d1⟩
/-- a flash over which power went, once it has booted -/
def booted (d : Dl) : Dl := ⟨d.b, d.worn, d.steps, false, false, 0, []⟩
theorem booted_calm {T : Nat → UInt8} {c n lim : Nat} {d : Dl} (h : Wk T c n lim d) : CalmD (booted d) c := ⟨rfl, rfl, h.len, h.worn, rfl⟩
theorem booted_room {d : Dl} {k : Int} (h : Room d k) : Room (booted d) k :=
  ⟨⟨h.ok.len, h.ok.few, h.ok.worn, h.ok.s0, h.ok.s1, Int.le_refl _, by show (0 : Int) ≤ _; omega, by show (0 : Nat) ≤ _; omega⟩, h.steps, h.worn⟩
theorem jd_first {b : List UInt8} {c B n : Nat} {d : Dl} (h : Wk (tgt b) c n (limOf n) d) (hn : n ≤ b.length) (hb : b.length ≤ 1024 * c) (hr : Room d (10 * ((b.drop n).length : Int) + 10 * (B : Int))) :
    JD b c B 0 (cfirst (booted d) n (cut d.b (n / 8 * 8) (n % 8))) (b.drop n) := by
  have hwk : Wk (tgt b) c n (limOf n) (booted d) := ⟨h.len, h.worn, h.same, h.rest⟩
  exact ⟨first_inv hwk rfl rfl rfl (by omega) (first_read h (by omega)), hn, rfl, (booted_room hr).less (by omega)⟩
/-- the start of the row that the power may break -/
theorem jw_first {b : List UInt8} {c B n : Nat} {u : Cu Dl} {d : Dl} (hi : Inv (tgt b) c u) (hd : ∀ j, j < n → u.x.d.b.getD j 0 = tgt b j) (hat : u.at_ = n) (hlim : limOf n ≤ u.x.hi * 1024) (hn : n ≤ b.length) (hdb : d.b = u.x.d.b) (hdw : d.worn = u.x.d.worn)
    (hr : Room d (10 * ((b.drop n).length : Int) + 10 * (B : Int))) : JW b c n B 0 (turned u d) (b.drop n) := by
  have hwk := hi.wkU (by rw [hat]; exact hd) (by rw [hat]; exact hlim)
  rw [hat] at hwk
  have hh : u.held.length = u.at_ % 8 := by rw [hi.held]; simp
  exact ⟨⟨⟨by show d.b.length = _; rw [hdb]; exact hwk.wk.len, by show d.worn.length = _; rw [hdw]; exact hwk.wk.worn, fun j hj => by show d.b.getD j 0 = _; rw [hdb]; exact hwk.wk.same j hj, fun j h1 h2 => by show tgt b j &&& ~~~(d.b.getD j 0) = 0; rw [hdb]; exact hwk.wk.rest j h1 h2⟩, hwk.hh, hwk.held⟩,
    by show u.held.length ≤ 8; omega, fun _ => by show u.held.length < 8; omega, fun _ => ⟨by show u.at_ ≤ _; omega, by show _ = b.drop u.at_; rw [hat]⟩, hr.less (by omega)⟩
end Go.Proofs.Ytcpkmhhlcmnfdaa

