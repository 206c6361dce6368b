/- The invariants of a row of writes and flushes. -/
import Derived.Test.YtcpkmhhlcmnfdaaLaw4Alive
namespace Go.Proofs.Ytcpkmhhlcmnfdaa
open Go.RowKit
set_option linter.unusedVariables false
set_option maxRecDepth 100000

/-- what shall stand: the bytes b, and 255 behind them -/
def tgt (b : List UInt8) (j : Nat) : UInt8 := b.getD j 255
theorem tgt_drop {b : List UInt8} {n i m : Nat} (hi : i < ((b.drop n).take m).length) : tgt b (n + i) = ((b.drop n).take m).getD i 0 := by
  rw [List.length_take, List.length_drop] at hi
  unfold tgt
  have h1 : n + i < b.length := by omega
  simp only [List.getD, List.getElem?_take, List.getElem?_drop, if_pos (show i < m by omega), List.getElem?_eq_getElem h1]
  rfl

/-- writing goes well: nothing armed, all that is prepared behind is blank; b: what is written up to its end -/
structure JC (T : Nat → UInt8) (b : List UInt8) (c B : Nat) (X : Cu Dl → Prop) (kk : Nat) (u : Cu Dl) (rest : List UInt8) : Prop where
  inv : Inv T c u
  clean : Clean u
  le : u.at_ ≤ b.length
  tl : rest = b.drop u.at_
  room : Room u.x.d (10 * (rest.length : Int) + 10 * ((B : Int) - (kk : Int)))
  more : X u
section
variable {T : Nat → UInt8} {b : List UInt8} {c B : Nat} {X : Cu Dl → Prop}
theorem tgt_take (hT : ∀ j, j < b.length → T j = b.getD j 0) {n i m : Nat} (hi : i < ((b.drop n).take m).length) : T (n + i) = ((b.drop n).take m).getD i 0 := by
  rw [List.length_take, List.length_drop] at hi
  have h1 : n + i < b.length := by omega
  rw [hT _ h1]
  simp only [List.getD, List.getElem?_take, List.getElem?_drop, if_pos (show i < m by omega), List.getElem?_eq_getElem h1]
theorem jc_write (hT : ∀ j, j < b.length → T j = b.getD j 0) (hb : b.length ≤ 1024 * c) (hX : ∀ u l, Inv T c u → X u → u.at_ + l.length ≤ 1024 * c → (∀ i, i < l.length → T (u.at_ + i) = l.getD i 0) → X (cpushes (devOps 0 c) u l))
    {kk : Nat} {u : Cu Dl} {rest : List UInt8} {n : Nat} (h : JC T b c B X kk u rest) (hk : kk < B) (hn : n ≤ rest.length) : (cwrite (devOps 0 c) u (rest.take n)).1 = 0 ∧ JC T b c B X (kk + 1) (cwrite (devOps 0 c) u (rest.take n)).2 (rest.drop n) := by
  have hr := h.tl
  have hle := h.le
  have hrl : rest.length = b.length - u.at_ := by rw [hr, List.length_drop]
  have htl : (rest.take n).length = n := by rw [List.length_take]; omega
  have hTt : ∀ i, i < (rest.take n).length → T (u.at_ + i) = (rest.take n).getD i 0 := fun i hi => by rw [hr] at hi ⊢; exact tgt_take hT hi
  obtain ⟨u', e, i1, a1, c1, eu⟩ := write_inv h.inv (l := rest.take n) (by omega) hTt
  have hcn := write_cn (a := 0) (c := c) (u := u) (rest.take n) (h.room.less (by rw [htl]; omega))
  rw [e] at hcn ⊢
  rw [htl] at a1 hcn
  refine ⟨rfl, i1, c1 h.clean, by dsimp only; omega, ?_, ?_, ?_⟩
  · dsimp only; rw [a1, hr, List.drop_drop]
  · dsimp only
    have := Room.after (k := 10 * (n : Int)) (n := 10 * ((rest.drop n).length : Int) + 10 * ((B : Int) - (kk : Int))) (h.room.less (by rw [List.length_drop]; omega)) hcn
    exact this.less (by omega)
  · dsimp only
    rw [eu]
    exact hX u _ h.inv h.more (by omega) hTt
theorem jc_flush (hX : ∀ u, Inv T c u → Clean u → X u → X (cflush (devOps 0 c) u).2)
    {kk : Nat} {u : Cu Dl} {rest : List UInt8} (h : JC T b c B X kk u rest) (hk : kk < B) : (cflush (devOps 0 c) u).1 = 0 ∧ JC T b c B X (kk + 1) (cflush (devOps 0 c) u).2 rest := by
  obtain ⟨u', e, i1, a1, d1, p1, c1, -⟩ := flush_inv h.inv (clean_pad h.clean)
  have hx := hX u h.inv h.clean h.more
  have hhl : u.held.length ≤ 8 := by rw [h.inv.held]; simp; omega
  have hcn := flush_cn (a := 0) (c := c) (u := u) (h.room.less (by omega)) hhl
  rw [e] at hcn hx ⊢
  dsimp only at hcn
  refine ⟨rfl, i1, c1 h.clean, by dsimp only; rw [a1]; exact h.le, by dsimp only; rw [a1]; exact h.tl, ?_, hx⟩
  dsimp only
  exact (Room.after (k := 10) (n := 10 * (rest.length : Int) + 10 * ((B : Int) - (kk : Int)) - 10) (h.room.less (by omega)) hcn).less (by omega)
theorem jc_first {d : Dl} (hc : CalmD d c) (hr : Room d (10 * (b.length : Int) + 10 * (B : Int))) (hX : X (cfirst d 0 [])) : JC T b c B X 0 (cfirst d 0 []) b := by
  obtain ⟨h0, c0⟩ := inv_first0 (T := T) hc
  exact ⟨h0, c0, Nat.zero_le _, rfl, hr.less (by omega), hX⟩
/-- behind all of it, and the last flush -/
theorem jc_end {kk : Nat} {u : Cu Dl} (h : JC T b c B X kk u []) (hk : kk < B) (hb : b.length ≤ 1024 * c) : ∃ u', cflush (devOps 0 c) u = (0, u') ∧ u'.at_ = b.length ∧ CalmD u'.x.d c ∧ (∀ j, j < b.length → u'.x.d.b.getD j 0 = T j) ∧ (∀ j, b.length ≤ j → j < (b.length + 7) / 8 * 8 → u'.x.d.b.getD j 0 = 255) ∧ u.at_ = b.length ∧ Inv T c u' ∧ Clean u' ∧
    limOf b.length ≤ u'.x.hi * 1024 ∧ Room u'.x.d (10 * ((B : Int) - (kk : Int)) - 10) := by
  have hr := h.tl
  have hat : u.at_ = b.length := by
    have := congrArg List.length hr
    rw [List.length_drop, List.length_nil] at this
    have := h.le
    omega
  obtain ⟨u', e, i1, a1, d1, p1, c1, z1, z2⟩ := flush_inv h.inv (clean_pad h.clean)
  have hlim : limOf u'.at_ ≤ u'.x.hi * 1024 := lim_flush h.inv i1 a1 (fun hn => by
    obtain ⟨d', -, eu, hlt⟩ := z2 hn
    rw [eu]
    exact hlt)
  have hhl : u.held.length ≤ 8 := by rw [h.inv.held]; simp; omega
  have hcn := flush_cn (a := 0) (c := c) (u := u) (h.room.less (by simp; omega)) hhl
  rw [e] at hcn
  dsimp only at hcn
  have hrm := Room.after (k := 10) (n := 10 * ((B : Int) - (kk : Int)) - 10) (h.room.less (by simp; omega)) hcn
  rw [a1] at hlim
  rw [hat] at a1 d1 p1 hlim
  exact ⟨u', e, a1, i1.calm, d1, p1, hat, i1, c1 h.clean, hlim, hrm⟩
end
theorem tgt_lt {b : List UInt8} {j : Nat} (h : j < b.length) : tgt b j = b.getD j 0 := by unfold tgt; simp [List.getD, h]
theorem done_cut {b : List UInt8} {d : Dl} {c : Nat} (hc : CalmD d c) (hb : b.length ≤ 1024 * c) (h : ∀ j, j < b.length → d.b.getD j 0 = tgt b j) : cut d.b 0 b.length = b := by
  have hl := hc.len
  refine list_ext_getD (cut_len (by omega)) fun i hi => ?_
  rw [cut_len (by omega)] at hi
  rw [cut_get hi, Nat.zero_add, h i hi, tgt_lt hi]
/-- another cursor begins where one was flushed -/
theorem jc_again {T : Nat → UInt8} {b : List UInt8} {c B : Nat} {u : Cu Dl} {n : Nat} (hi : Inv T c u) (hcl : Clean u) (hd : ∀ j, j < n → u.x.d.b.getD j 0 = T j) (hat : u.at_ = n) (hlim : limOf n ≤ u.x.hi * 1024) (hn : n ≤ b.length) (hb : b.length ≤ 1024 * c) (hr : Room u.x.d (10 * ((b.drop n).length : Int) + 10 * (B : Int))) :
    JC T b c B (fun _ => True) 0 (cfirst u.x.d n (cut u.x.d.b (n / 8 * 8) (n % 8))) (b.drop n) := by
  have hwk : Wk T c n (limOf n) u.x.d := by
    have := hi.wk (by rw [hat]; exact hd) (by rw [hat]; exact hlim)
    rw [hat] at this
    exact this
  refine ⟨first_inv hwk hi.calm.off hi.calm.armed hi.calm.pick (by omega) (first_read hwk (by omega)), fun j h1 h2 => ?_, hn, rfl, hr.less (by omega), trivial⟩
  unfold cfirst at h1 h2 ⊢
  dsimp only at h1 h2 ⊢
  have : limOf n = (n + 1023) / 1024 * 1024 := rfl
  exact hcl j (by omega) (by omega)
end Go.Proofs.Ytcpkmhhlcmnfdaa

