/- The contract of bootjacklaw4.filled: a flash of four sectors, whatever its bytes. -/
import Derived.Test.YtcpkmhhlcmnfdaaCalm
import Derived.Test.YtcpkmhhlcmnfdaaPair
namespace Go.Proofs.Ytcpkmhhlcmnfdaa
open Go.RowKit
set_option linter.unusedVariables false
set_option maxRecDepth 100000

def wn4 : List Int := List.replicate 4 0
def Fill4 (w : World) (g gB gW cB cW : Nat) (wr : World) : Prop := ∃ b, (∀ N, DevFl wr g gB gW cB cW N (freshD b wn4)) ∧ b.length = 4096 ∧ Below w.heap.size w wr
/-- a new flash of four sectors, nothing armed, no step taken, whatever its bytes -/
def FilledPost (w : World) (e : Ending) (w' : World) : Prop :=
  ∃ g gB gW cB cW, e = .returned (.pointer (some ⟨g, 0, none⟩)) ∧ Fill4 w g gB gW cB cW w' ∧ w.heap.size ≤ g ∧ w.heap.size ≤ gB ∧ w.heap.size ≤ gW

theorem DevFl.lift {w w' : World} {g gB gW cB cW N : Nat} {d d' : Dl} (h : DevFl w g gB gW cB cW N d) (h' : DevFl w' g gB gW cB cW 0 d') (hg : w'.heap[g]? = w.heap[g]?) : DevFl w' g gB gW cB cW N d' := by
  obtain ⟨AP, cP, h1, h2, h3⟩ := h.cells
  obtain ⟨AP', cP', k1, k2, k3⟩ := h'.cells
  refine ⟨⟨AP', cP', k1, k2, fun k hk => ?_⟩, h'.bytes, h'.counts⟩
  rw [hg, h1] at k1
  simp at k1
  obtain ⟨-, -, -, -, -, -, e, -⟩ := k1
  subst e
  exact h3 k hk

theorem fill4_spoil {w w1 wr w2 : World} {g gB gW cB cW : Nat} (h : Fill4 w g gB gW cB cW wr) (hb1 : Below wr.heap.size wr w1) (hG : w.heap.size ≤ g ∧ w.heap.size ≤ gB ∧ w.heap.size ≤ gW) {d' : Dl} {b' : List UInt8} (hd : d' = freshD b' wn4) (hl : b'.length = 4096)
    (hf : DevFl w2 g gB gW cB cW 0 d') (ho : Only (fun k => k = gB) w1 w2) : Fill4 w g gB gW cB cW w2 := by
  obtain ⟨b, hd0, hlen, hb⟩ := h
  subst hd
  have h0 := (hd0 0).below hb1
  have hne := h0.ne
  have hblk := h0.blk
  refine ⟨b', fun N => (((hd0 N).below hb1).lift hf (ho.block g hblk.1 hne.1)), hl, (below_on hb hb1).trans (ho.below (by have := hb.size; have := hb1.size; omega) (fun j hj e => by omega))⟩

set_option maxHeartbeats 3200000 in
theorem filled_any (A : Option Addr) (l : List UInt8) (c : Nat) (w : World) (hb : Bs w A l) (hl : l.length ≤ 65536) :
    Calls Try.prog 11 #[.slice A l.length c] w (FilledPost w) := by
  have HN : Hid (Calls Try.prog 33 #[.int .i64 4] w (DNewPost w 4)) := Lib.hid (dnew_any 4 4 w (by show (if (4 : Int) < 1 then 1 else if 256 < (4 : Int) then 256 else 4) = ((4 : Nat) : Int); decide) (by omega) (by omega))
  have HA := Lib.hid hb
  obtain ⟨z, Hz⟩ : ∃ z : Nat, Hid (l.length = z) := ⟨_, rfl⟩
  rw [Hz.out] at hl ⊢
  clear hb
  go_enter Try.func11, Try.ntmps11
  go_wp2_with (go_at_call 33; refine HN.out.mono ?_; rintro e w1 ⟨g, gB, gW, cB, cW, rfl, hf, hb1, hg, hgB, hgW⟩; have HG : Hid (w.heap.size ≤ g ∧ w.heap.size ≤ gB ∧ w.heap.size ≤ gW) := Lib.hid ⟨hg, hgB, hgW⟩; have HF1 : Hid (Fill4 w g gB gW cB cW w1) := Lib.hid ⟨_, hf, blanks_len 4, hb1⟩; clear hf hb1 hg hgB hgW)
  go_loopw [4] (fun i wr => ∃ k : Nat, k ≤ 4 ∧ i = .int .i64 k ∧ Hid (Fill4 w g gB gW cB cW wr)) (fun i _ => 4 - (intOf i).toNat)
  case atStart => exact ⟨0, Nat.zero_le _, rfl, HF1⟩
  case round =>
    obtain ⟨k, hk, rfl, HK⟩ := hrel
    by_cases hlt : k < 4
    · by_cases hz : 0 < z
      · obtain ⟨wz, rfl⟩ : ∃ wz : World, wz = wr := ⟨_, rfl⟩
        have HAz : Hid (Bs wz A l) := Lib.hid (by obtain ⟨_, _, _, hb⟩ := HK.out; exact HA.out.below hb)
        go_wp2_with fail
        go_loopw [5, 6] (fun sl i wr => ∃ (k2 : Nat) (A2 : Option Addr) (c2 : Nat) (r : List UInt8), k2 ≤ 1024 ∧ i = .int .i64 k2 ∧ sl = .slice A2 k2 c2 ∧ Hid (r.length = k2) ∧
          Hid (Ob 5 wr wz.heap.size (.slice A2 k2 c2) r) ∧ Hid (Below wz.heap.size wz wr)) (fun _ i _ => 1024 - (intOf i).toNat)
        case atStart => exact ⟨0, none, 0, [], Nat.zero_le _, rfl, rfl, rfl, Ob.nil_ _ _ _, Below.refl _ _⟩
        case round =>
          obtain ⟨k2, A2, c2, r, hk2, rfl, rfl, Hr, Hown, Hbel⟩ := hrel
          by_cases hlt2 : k2 < 1024
          · obtain ⟨y, Hy⟩ : ∃ y : Nat, Hid ((k * 1024 + k2) % z = y) := ⟨_, rfl⟩
            have hyz : y < z := by rw [← Hy.out]; exact Nat.mod_lt _ hz
            have hrem : ((k : Int) * 1024 + (k2 : Int)) % (z : Int) = (y : Int) := by
              rw [show (k : Int) * 1024 + (k2 : Int) = ((k * 1024 + k2 : Nat) : Int) by omega, ← Int.natCast_emod, Hy.out]
            have HAr : Hid (Bs wr A l) := Lib.hid (HAz.out.below Hbel.out)
            obtain ⟨b0, o0, rfl, hc0⟩ := HAr.out.at_ (k := y) (by rw [Hz.out]; exact hyz)
            obtain ⟨v, Hv⟩ : ∃ v, Hid (l.getD y 0 = v) := ⟨_, rfl⟩
            rw [Hv.out] at hc0
            have hb1 : Below wr.heap.size wr (wr.alloc (.cells #[.int .u8 (v.toNat : Int)] 5)) := (Below.refl _ _).alloc (Nat.le_refl _) _
            have HB1 := Lib.hid hb1
            clear hb1
            go_wp2_with (with_reducible refine wpList_append_bs rfl (.tmp 25) (.tmp 36) 22 rfl wz.heap.size 5 Try.underlying22 info5 (.slice A2 k2 c2) r rfl (Hown.out.below HB1.out) (some ⟨wr.heap.size, 0, none⟩) [v] _ 1 rfl rfl (bs_lit1 wr 5 v) (by rw [Hr.out]; simp; omega) (by have := Hbel.out.size; have := HB1.out.size; omega) ?_)
            intro v5 w5 ho5 hgr5
            obtain ⟨A5, c5, rfl, -, -⟩ := ho5.form
            have Hlen : Hid ((r ++ [v]).length = k2 + 1) := Lib.hid (by rw [List.length_append, Hr.out]; rfl)
            rw [Hlen.out] at ho5
            rw [Hlen.out]
            have B5 : Hid (Below wz.heap.size wz w5) := Lib.hid ((Hbel.out.trans (HB1.out.mono Hbel.out.size)).grown hgr5 (by have := Hbel.out.size; have := HB1.out.size; omega) (fun j hj => Hown.out.fresh j (own_at hj)))
            have Ho5 := Lib.hid ho5
            clear hgr5 ho5
            go_wp2_with fail
            go_roundw
            case rel => exact ⟨k2 + 1, A5, c5, r ++ [v], by omega, by go_num, rfl, Hlen, Ho5, B5⟩
            case measure => simp [intOf]; omega
          · obtain rfl : k2 = 1024 := by omega
            obtain ⟨bx, hd0, hbl, hbw⟩ := HK.out
            have hd1 := (hd0 0).below Hbel.out
            have hsp := dspoil_any hd1 ((k : Int) * 1024) A2 r c2 (by have := Hown.out; rw [← Hr.out] at this; exact this.bs) (by omega) (by omega) (by show bx.length ≤ _; omega) (by rw [Hr.out]; omega)
            have hfit : 0 ≤ (k : Int) * 1024 ∧ (k : Int) * 1024 + (r.length : Int) ≤ ((freshD bx wn4).b.length : Int) := ⟨by omega, by show _ ≤ ((bx.length : Nat) : Int); rw [Hr.out]; omega⟩
            rw [if_pos hfit, if_pos hfit, Hr.out] at hsp
            obtain ⟨d', Hd'⟩ : ∃ d', Hid (dwithB (freshD bx wn4) (laid (freshD bx wn4).b ((k : Int) * 1024).toNat r) = d') := ⟨_, rfl⟩
            rw [Hd'.out] at hsp
            have HSP := Lib.hid hsp
            have Hbx : Hid (d' = freshD (laid bx ((k : Int) * 1024).toNat r) wn4 ∧ (laid bx ((k : Int) * 1024).toNat r).length = 4096) := Lib.hid ⟨Hd'.out.symm, (laid_len _ _ _).trans hbl⟩
            clear hd0 hd1 hbw hsp hfit hbl
            go_wp2_with (go_at_call 34; (with_reducible refine HSP.out.mono ?_); rintro e w6 ⟨rfl, hf6, ho6⟩; have HF6 := Lib.hid (fill4_spoil HK.out Hbel.out HG.out Hbx.out.1 Hbx.out.2 hf6 ho6); clear hf6 ho6)
            go_roundw
            case rel => exact ⟨k + 1, by omega, by go_num, HF6⟩
            case measure => simp [intOf]; omega
      · obtain rfl : z = 0 := by omega
        go_wp2_with fail
        go_ret
        exact ⟨g, gB, gW, cB, cW, rfl, HK.out, HG.out⟩
    · obtain rfl : k = 4 := by omega
      go_wp2_with fail
      go_ret
      exact ⟨g, gB, gW, cB, cW, rfl, HK.out, HG.out⟩
end Go.Proofs.Ytcpkmhhlcmnfdaa

