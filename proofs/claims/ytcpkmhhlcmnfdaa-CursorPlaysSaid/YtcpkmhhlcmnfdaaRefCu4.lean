/- The reference's cursor: Flush. -/
import Derived.Test.YtcpkmhhlcmnfdaaRefCu3
namespace Go.Proofs.Ytcpkmhhlcmnfdaa
open Go.RowKit
set_option linter.unusedVariables false
set_option maxRecDepth 100000

/-- what a region of Flush keeps: the offset, the held bytes' place -/
def FlS (w : World) (q : CuAd) (gf hB hW n : Nat) (AH : Option Addr) (hh cH : Nat) (W : World) : Prop :=
  W.cell? ⟨q.g, 3, none⟩ = some (.int .i64 (n : Int)) ∧ W.cell? ⟨q.g, 4, none⟩ = some (.slice AH hh cH) ∧ Only (ROwn q gf hB hW) w W
section
variable {w W W' : World} {q : CuAd} {gf hB hW n hh cH : Nat} {AH : Option Addr}
theorem FlS.drew (h : FlS w q gf hB hW n AH hh cH W) : FlS w q gf hB hW n AH hh cH W.drew := ⟨h.1, h.2.1, h.2.2.drew⟩
theorem FlS.set5 (h : FlS w q gf hB hW n AH hh cH W) (v : Value) : FlS w q gf hB hW n AH hh cH (W.setCell ⟨q.g, 5, none⟩ v) :=
  ⟨(World.cell?_setCell_other _ _ _ _ (by simp)).trans h.1, (World.cell?_setCell_other _ _ _ _ (by simp)).trans h.2.1, h.2.2.setCell (p := ⟨q.g, 5, none⟩) (.inl (.inr (.inr (.inr rfl)))) v⟩
theorem FlS.below (h : FlS w q gf hB hW n AH hh cH w) (hg : q.g < w.heap.size) (hb : Below w.heap.size w W) : FlS w q gf hB hW n AH hh cH W :=
  ⟨by rw [hb.cell (p := ⟨q.g, 3, none⟩) hg]; exact h.1, by rw [hb.cell (p := ⟨q.g, 4, none⟩) hg]; exact h.2.1, Only.of_below hb⟩
theorem FlS.word (h : FlS w q gf hB hW n AH hh cH W) (hq : q.g ≠ q.r ∧ q.g ≠ q.e) (hf : ¬ FlF gf hB hW q.g) (ho : Only (fun k => FlF gf hB hW k ∨ k = q.r ∨ k = q.e) W W') : FlS w q gf hB hW n AH hh cH W' := by
  have hn : ¬ (FlF gf hB hW q.g ∨ q.g = q.r ∨ q.g = q.e) := fun h => by
    rcases h with h | h | h
    · exact hf h
    · exact hq.1 h
    · exact hq.2 h
  have hlt := World.block_lt_of_cell? W _ h.1
  have e : ∀ o, W'.cell? ⟨q.g, o, none⟩ = W.cell? ⟨q.g, o, none⟩ := fun o => World.cell?_of_block (ho.block q.g hlt hn)
  exact ⟨by rw [e]; exact h.1, by rw [e]; exact h.2.1, h.2.2.trans (ho.mono fun _ _ h => by
    rcases h with h | h | h
    · exact .inl h
    · exact .inr (.inl h)
    · exact .inr (.inr (.inl h)))⟩
end
theorem ob_cap8 {E : TypeId} {w : World} {base n c : Nat} {A : Option Addr} {l : List UInt8} (ho : Ob E w base (.slice A n c) l) (h8 : l.length = 8) : 8 ≤ c := by
  have hn := ho.len
  obtain ⟨A', c', e, -, hf⟩ := ho.form
  injection e with e1 e2 e3
  subst e1
  subst e3
  rcases hf with rfl | ⟨g', rfl, -, -⟩
  · obtain ⟨bb, oo, e, -⟩ := ho.bs (by omega)
    cases e
  · have := ho.cap
    omega

set_option maxHeartbeats 6400000 in
theorem rflush_any {W : World} {q : CuAd} {gf hB hW kB kW N a c s0 : Nat} {F : Nat → Prop} {U : Cu Dl} {v : Cu Fl} (h : RCuP W q gf hB hW kB kW N a c s0 F v) (hFF : ∀ k, FlF gf hB hW k → F k) (hFs : ∀ k, F k → k < W.heap.size) (hS : SU U v) (num : CuN c U) (lo : U.dead = 0 → s0 ≤ (U.at_ - U.held.length) / 1024) (ha : a ≤ 65536) (hc : c ≤ 65535) (hcr : c + 1 ≤ q.cr) (rm : Room U.x.d 10) :
    Calls Try.prog 22 #[.pointer (some ⟨q.g, 0, none⟩)] W fun e w' => e = .returned (.int .i64 (cflush (refOps a c) v).1) ∧ RCuP w' q gf hB hW kB kW N a c s0 F (cflush (refOps a c) v).2 ∧ Only (ROwn q gf hB hW) W w' := by
  obtain ⟨rd, en, hu, hrd, hen⟩ := h.cu
  obtain ⟨AH, cH, hg, hbs, hcap, hao⟩ := hu.cells
  have k5 : W.cell? ⟨q.g, 5, none⟩ = some (.int .i64 v.dead) := by rw [cell_of_row _ _ _ _ _ _ hg]; rfl
  obtain ⟨hh, Hh⟩ : ∃ hh, Hid (v.held.length = hh) := ⟨_, rfl⟩
  rw [Hh.out] at hg hcap
  have k4 : W.cell? ⟨q.g, 4, none⟩ = some (.slice AH hh cH) := by rw [cell_of_row _ _ _ _ _ _ hg]; rfl
  have k3 : W.cell? ⟨q.g, 3, none⟩ = some (.int .i64 (v.at_ : Int)) := by rw [cell_of_row _ _ _ _ _ _ hg]; rfl
  have H := Lib.hid h
  by_cases hl : v.dead = 0 ∧ 0 < hh
  · obtain ⟨hd, hpos⟩ := hl
    have hsd : U.dead = 0 := by rw [hS.dead]; exact hd
    obtain ⟨l1, l2, l3⟩ := num.live hsd
    have hat := num.hat
    have hat2 := num.at_
    have hlo := lo hsd
    rw [hS.at_, hS.held, Hh.out] at l2 l3 hlo hat
    rw [hS.held, Hh.out] at l1
    rw [hS.at_] at hat2
    have hif : cflush (refOps a c) v = cflushed (cword (refOps a c) v.x (v.at_ - hh) (cpad v.held)) v.at_ v.held := by unfold cflush; rw [if_pos ⟨hd, by rw [Hh.out]; exact hpos⟩, Hh.out]
    rw [hif]
    clear hif
    obtain ⟨t, Ht⟩ : ∃ t, Hid (v.at_ - hh = t) := ⟨_, rfl⟩
    have htq : (v.at_ : Int) - (hh : Int) = (t : Int) := by have := Ht.out; omega
    have htw : IntKind.i64.wrap ((v.at_ : Int) - (hh : Int)) = (t : Int) := by rw [htq]; exact IntWalk.i64_in _ (by have := Ht.out; omega)
    have htw2 : IntKind.i64.wrap (t : Int) = (t : Int) := IntWalk.i64_in _ (by have := Ht.out; omega)
    obtain ⟨bl, Hbl⟩ : ∃ bl, Hid (8 - hh = bl) := ⟨_, rfl⟩
    have hblq : (8 : Int) - (hh : Int) = (bl : Int) := by have := Hbl.out; omega
    have hblw : IntKind.i64.wrap (8 - (hh : Int)) = (bl : Int) := by rw [hblq]; exact IntWalk.i64_in _ (by have := Hbl.out; omega)
    have hblw2 : IntKind.i64.wrap (bl : Int) = (bl : Int) := IntWalk.i64_in _ (by have := Hbl.out; omega)
    have Hpad : Hid (v.held ++ List.replicate bl 255 = cpad v.held ∧ (cpad v.held).length = 8) := Lib.hid (by
      have := Hbl.out
      unfold cpad
      rw [Hh.out, this]
      exact ⟨rfl, by simp [Hh.out]; omega⟩)
    have HBLK : Hid (∀ W', Calls Try.prog 36 #[.int .i64 (bl : Int)] W' (RetOb 5 W' (List.replicate bl 255))) := Lib.hid fun W' => by
      have h1 := rblank_any (bl : Int) W' (by omega) (by have := Hbl.out; omega)
      have e : (max 0 (min (bl : Int) 65536)).toNat = bl := by have := Hbl.out; omega
      unfold BlankPost at h1
      rw [e] at h1
      exact h1
    rw [Ht.out]
    obtain ⟨pc, py, Hq⟩ : ∃ pc py, Hid (cword (refOps a c) v.x t (cpad v.held) = (pc, py)) := ⟨_, _, rfl⟩
    rw [Hq.out]
    rw [hd] at k5 hu
    have HWD : Hid (∀ W' A6 c6, Below W.heap.size W W' → Bs W' A6 (cpad v.held) → (∀ k, At A6 k → W.heap.size ≤ k) → 8 ≤ c6 → Calls Try.prog 48 #[.pointer (some ⟨q.g, 0, none⟩), .int .i64 (t : Int), .slice A6 8 c6] W' (RWordPost W' q gf hB hW kB kW N a c s0 F v.at_ v.held 0 (pc, py))) := Lib.hid fun W' A6 c6 hb hbs6 hfr hc6 => by
      have ht := Ht.out
      have hu' := hu.only (F' := fun _ => False) (Only.of_below hb) (fun _ h => h.elim)
      have hbk := hu.blk
      have := rword_any (s0 := s0) (X := U.x) (H.out.fl.below hb) hS.sc (rm.less (by omega)) hFF hu' hrd hen ha hc hcr t (by omega) (by rw [← ht]; exact hlo) (by rw [← hS.sc.hi, ← ht]; exact l3.hi) (by rw [← hS.sc.ent, ← ht]; exact l3.ent2) A6 (cpad v.held) c6 hbs6 (fun _ j hj => by
        have h1 := hfr j hj
        exact ⟨by omega, by omega, fun hf => by have := hFs j (hFF _ hf); omega⟩) (by rw [Hpad.out.2]; exact hc6) (by rw [Hpad.out.2]; omega)
      rw [Hpad.out.2, Hq.out] at this
      exact this
    have HBS : Hid (∀ W', Only (ROwn q gf hB hW) W W' → Bs W' AH v.held) := Lib.hid fun W' hW => hbs.only hW (fun k hk hx => by
      obtain ⟨h1, h2, h3, h4⟩ := hao (by rw [Hh.out]; exact hpos) k hk
      rcases hx with hx | hx | hx | hx
      · exact h4 (hFF _ hx)
      · exact h2 hx
      · exact h3 hx
      · exact h1 hx)
    have S0 : FlS W q gf hB hW v.at_ AH hh cH W := ⟨k3, k4, Only.refl _ _⟩
    have L3 : ∀ W', FlS W q gf hB hW v.at_ AH hh cH W' → W'.cell? ⟨q.g, 3, none⟩ = some (.int .i64 (v.at_ : Int)) := fun _ h => h.1
    have L4 : ∀ W', FlS W q gf hB hW v.at_ AH hh cH W' → W'.cell? ⟨q.g, 4, none⟩ = some (.slice AH hh cH) := fun _ h => h.2.1
    have hqn : q.g ≠ q.r ∧ q.g ≠ q.e := ⟨hu.ne.1, hu.ne.2.1⟩
    have hoff := hu.off.1
    have hgl := hu.blk.1
    have kB0 : Below W.heap.size W W.drew := (Below.refl _ _).drew
    have dpos : decide ((0 : Int) < (hh : Int)) = true := decide_eq_true (by omega)
    clear h hu hrd hen hg hbs hcap hao
    go_enter Try.func22, Try.ntmps22
    go_wp2_with fail
    go_region_held3 (fun W' => FlS W q gf hB hW v.at_ AH hh cH W') (first | assumption | exact FlS.drew (by assumption) | exact FlS.set5 (by assumption) _) (first
      | (refine step_append_bs rfl (.const (.slice none 0 0)) (.tmp 31) 22 rfl W.heap.size 5 Try.underlying22 info5 (.slice none 0 0) [] rfl (Ob.nil_ _ _ _) AH v.held hh cH rfl Hh.out.symm (by first | exact HBS.out _ (FlS.drew (by assumption)).2.2 | exact HBS.out _ (show FlS _ _ _ _ _ _ _ _ _ _ by assumption).2.2) (by have := Hh.out; simp; omega) (by first | exact Nat.le_refl _ | exact kB.size) ?_; intro v5 w5 ho5 hgr5; have hb5 := below_of_grown hgr5; have kB : Below W.heap.size W w5 := (by first | exact below_on kB hb5 | exact below_on kB0 hb5); have O5 := Lib.hid ho5; (try (have O4 := Lib.hid (O4.out.below hb5))); have kS : FlS W q gf hB hW v.at_ AH hh cH w5 := FlS.below S0 hgl kB; obtain ⟨A5, c5, rfl, -, -⟩ := ho5.form; clear hb5 ho5 hgr5)
      | (go_at_call 36; refine (HBLK.out _).mono ?_; rintro e w4 ⟨v4, rfl, ho4, hb4⟩; obtain ⟨A4, c4, rfl, -, -⟩ := ho4.form; have O4 := Lib.hid (ho4.low (by first | exact kB.size | exact kB0.size)); have kB : Below W.heap.size W w4 := (by first | exact below_on kB hb4 | exact below_on kB0 hb4); (try (have O5 := Lib.hid (O5.out.below hb4))); have kS : FlS W q gf hB hW v.at_ AH hh cH w4 := FlS.below S0 hgl kB; clear ho4 hb4)
      | (refine step_append_bs rfl (.tmp 32) (.tmp 39) 22 rfl W.heap.size 5 Try.underlying22 info5 _ v.held rfl O5.out _ (List.replicate bl 255) _ _ rfl (by simp) O4.out.bs (by have := Hh.out; simp; omega) kB.size ?_; intro v6 w6 ho6 hgr6; have kB6 : Below W.heap.size W w6 := kB.grown hgr6 kB.size (fun k hk => O5.out.fresh k (own_at hk)); obtain ⟨A6, c6, rfl, hbs6, -⟩ := ho6.form; rw [Hpad.out.1, Hpad.out.2]; rw [Hpad.out.1] at ho6 hbs6; have hc6 : 8 ≤ c6 := ob_cap8 ho6 Hpad.out.2; have HW6 := Lib.hid (HWD.out w6 A6 c6 kB6 hbs6 (fun k hk => ho6.fresh k hk) hc6); have kS : FlS W q gf hB hW v.at_ AH hh cH w6 := FlS.below S0 hgl kB6; clear ho6 hgr6 hbs6 hc6)
      | (go_at_call 48; (with_reducible refine HW6.out.mono ?_); intro e w9 hp9; obtain ⟨rfl, hfl9, ⟨rd9, en9, hu9, hr9, he9⟩, ho9⟩ := hp9; have hd9 := rword_done hfl9 hu9 hr9 he9 hFF pc; obtain ⟨c95, f95, -, -, HD9⟩ := hd9; have HO9 := Lib.hid ho9; have kS : FlS W q gf hB hW v.at_ AH hh cH w9 := FlS.word (show FlS W q gf hB hW v.at_ AH hh cH w6 by assumption) hqn (fun hf => hoff (hFF _ hf)) ho9; clear hfl9 hu9 hr9 he9 ho9))
    all_goals
      go_wp2_with fail
      go_ret
      exact ⟨rfl, HD9.out.1, (kS.2.2).trans (HD9.out.2.2.1.mono fun _ _ h => .inr (.inr (.inr h)))⟩
  · have hif : cflush (refOps a c) v = (v.dead, v) := by unfold cflush; rw [if_neg (by rw [Hh.out]; exact hl)]
    rw [hif]
    clear hif h hu hrd hen hg hbs hcap hao
    by_cases hd : v.dead = 0
    · have hz : hh = 0 := by omega
      subst hz
      rw [hd] at k5 ⊢
      go_enter Try.func22, Try.ntmps22
      go_wp2_with fail
      go_ret
      exact ⟨rfl, H.out, Only.refl _ _⟩
    · have hd2 : (v.dead == 0) = false := by simpa using hd
      clear hl
      go_enter Try.func22, Try.ntmps22
      go_wp2_with fail
      go_ret
      exact ⟨rfl, H.out, Only.refl _ _⟩
end Go.Proofs.Ytcpkmhhlcmnfdaa

