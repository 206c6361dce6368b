/- The contract of the reference's Tree. -/
import Derived.Test.YtlbkpmcccipfhaaRefCod2
import Derived.Test.YtlbkpmcccipfhaaGbase
namespace Go.Proofs.Ytlbkpmcccipfhaa
open Go.RowKit
set_option linter.unusedVariables false
set_option maxRecDepth 100000

/-- a number's i lower bits, coded by a tree's chances from a node on -/
def codT (v : Nat) : Nat → Cd → Tm → Nat → Cd × Tm
  | 0, c, t, _ => (c, t)
  | i + 1, c, t, n => codT v i (c.bit (t.p n : Int) (decide (v / 2 ^ i % 2 = 0))) (t.turn (n : Int) ((v / 2 ^ i % 2 : Nat) : Int)) (2 * n + v / 2 ^ i % 2)
def Cd.tree (c : Cd) (t : Tm) (v : Int) : Cd × Tm := if 0 ≤ v ∧ v < ((2 ^ t.bits : Nat) : Int) then codT v.toNat t.bits c t 1 else (c, t)
theorem Cd.str_k (c : Cd) : c.str.k ≤ c.k + 1 := by unfold Cd.str; split <;> simp
theorem Cd.step_k (c : Cd) (b w1 : Nat) (z : Bool) : (c.step b w1 z).k ≤ c.k + 1 := by
  unfold Cd.step
  cases z
  · exact Cd.str_k _
  · exact Cd.str_k _
theorem Cd.bit_k (c : Cd) (p : Int) (z : Bool) : (c.bit p z).k ≤ c.k + 1 := Cd.step_k _ _ _ _
theorem Cd.half_k (c : Cd) (z : Bool) : (c.half z).k ≤ c.k + 1 := Cd.step_k _ _ _ _
theorem codT_ok (v : Nat) : ∀ (i : Nat) {c : Cd} {t : Tm} (n : Nat), c.ok → t.ok → (codT v i c t n).1.ok ∧ (codT v i c t n).2.ok ∧ (codT v i c t n).1.k ≤ c.k + i ∧ (codT v i c t n).2.bits = t.bits
  | 0, c, t, _, hc, ht => ⟨hc, ht, Nat.le_refl _, rfl⟩
  | i + 1, c, t, n, hc, ht => by
    obtain ⟨a, b, d, e⟩ := codT_ok v i (2 * n + v / 2 ^ i % 2) (Cd.bit_ok hc (t.p n : Int) (decide (v / 2 ^ i % 2 = 0))) (Tm.turn_ok ht (n : Int) ((v / 2 ^ i % 2 : Nat) : Int))
    have := Cd.bit_k c (t.p n : Int) (decide (v / 2 ^ i % 2 = 0))
    rw [Tm.turn_bits] at e
    exact ⟨a, b, by show (codT v i _ _ _).1.k ≤ _; omega, e⟩
theorem Cd.tree_ok {c : Cd} {t : Tm} (hc : c.ok) (ht : t.ok) (v : Int) : (c.tree t v).1.ok ∧ (c.tree t v).2.ok ∧ (c.tree t v).1.k ≤ c.k + 8 ∧ (c.tree t v).2.bits = t.bits := by
  unfold Cd.tree
  split
  · obtain ⟨a, b, d, e⟩ := codT_ok v.toNat t.bits 1 hc ht
    exact ⟨a, b, by have := ht.b2; omega, e⟩
  · exact ⟨hc, ht, by show c.k ≤ c.k + 8; omega, rfl⟩
theorem node_lt {b r node : Nat} (hr : 0 < r) (hrb : r ≤ b) (h : node < 2 ^ (b - r + 1)) : node < 2 ^ b :=
  Nat.lt_of_lt_of_le h (Nat.pow_le_pow_right (by decide) (by omega))

set_option maxHeartbeats 6400000 in
theorem rctree_any {W : World} {g gl base tg tr : Nat} {c : Cd} {t : Tm} (h : RCo W g gl base c) (ht : RTr W tg tr t) (h1 : g ≠ tg) (h2 : g ≠ tr) (h3 : gl ≠ tg) (h4 : gl ≠ tr) (hk : c.k ≤ 90000) (hbase : base ≤ W.heap.size) (v : Int) :
    Calls Try.prog 18 #[.pointer (some ⟨g, 0, none⟩), .pointer (some ⟨tg, 0, none⟩), .int .i64 v] W
    fun e w' => e = .returned (.tuple #[]) ∧ ∃ gl', RCo w' g gl' base (c.tree t v).1 ∧ RTr w' tg tr (c.tree t v).2 ∧ (gl' = gl ∨ W.heap.size ≤ gl') ∧ Only (fun j => j = g ∨ j = gl ∨ j = tr) W w' := by
  have ct1 : W.cell? ⟨tg, 1, none⟩ = some (.slice (some ⟨tr, 0, none⟩) (2 ^ t.bits) (2 ^ t.bits)) := by rw [cell_of_row _ _ _ _ _ _ ht.top]; rfl
  have ct0 : W.cell? ⟨tg, 0, none⟩ = some (.int .i64 (t.bits : Int)) := by rw [cell_of_row _ _ _ _ _ _ ht.top]; rfl
  have hb1 := ht.ok.b1
  have hb2 := ht.ok.b2
  obtain ⟨b, hb⟩ : ∃ b, t.bits = b := ⟨_, rfl⟩
  obtain ⟨m, hm⟩ : ∃ m, 2 ^ b = m := ⟨_, rfl⟩
  rw [hb] at hb1 hb2 ct0
  rw [hb, hm] at ct1
  have HR0 := Lib.hid h
  have HT0 := Lib.hid ht
  have HB := Lib.hid hb
  by_cases hv0 : v < 0
  · have d0 : decide (v < 0) = true := decide_eq_true hv0
    have e : c.tree t v = (c, t) := by unfold Cd.tree; rw [if_neg (by omega)]
    rw [e]
    clear h ht hb hm
    go_enter Try.func18, Try.ntmps18
    go_wp2_with fail
    refine bodyPost_ret (results_none rfl _ _ _) rfl ?_
    exact ⟨rfl, gl, HR0.out, HT0.out, .inl rfl, Only.refl _ _⟩
  · have d0 : decide (v < 0) = false := decide_eq_false hv0
    by_cases hv1 : (m : Int) ≤ v
    · have d1 : decide ((m : Int) ≤ v) = true := decide_eq_true hv1
      have e : c.tree t v = (c, t) := by unfold Cd.tree; rw [hb, hm, if_neg (by omega)]
      rw [e]
      clear h ht hb hm
      go_enter Try.func18, Try.ntmps18
      go_wp2_with fail
      refine bodyPost_ret (results_none rfl _ _ _) rfl ?_
      exact ⟨rfl, gl, HR0.out, HT0.out, .inl rfl, Only.refl _ _⟩
    · have d1 : decide ((m : Int) ≤ v) = false := decide_eq_false hv1
      obtain ⟨x, rfl⟩ : ∃ x : Nat, v = (x : Int) := ⟨v.toNat, by omega⟩
      have e : c.tree t (x : Int) = codT x b c t 1 := by unfold Cd.tree; rw [hb, hm, if_pos (by omega)]; rfl
      rw [e]
      have hm8 : m ≤ 256 := by rw [← hm]; exact Nat.pow_le_pow_right (n := 2) (by decide) hb2
      have hx : x < 256 := by omega
      have f0 : IntKind.i64.wrap ((b : Int) - 1) = (b : Int) - 1 := by rw [IntKind.wrap_i64]; omega
      have HI : Hid (∃ c' t' gl', codT x b c' t' 1 = codT x b c t 1 ∧ t'.bits = b ∧ c'.k + b ≤ 90000 + b ∧ RCo W g gl' base c' ∧ RTr W tg tr t' ∧ (gl' = gl ∨ W.heap.size ≤ gl') ∧ Only (fun j => j = g ∨ j = gl ∨ j = tr) W W) := Lib.hid ⟨c, t, gl, rfl, hb, by omega, h, ht, .inl rfl, Only.refl _ _⟩
      have HM := Lib.hid hm
      have HBASE := Lib.hid hbase
      have HNE : Hid (g ≠ tg ∧ g ≠ tr ∧ gl ≠ tg ∧ gl ≠ tr ∧ tg < W.heap.size ∧ tr < W.heap.size ∧ tg ≠ tr) := Lib.hid ⟨h1, h2, h3, h4, ht.lt.1, ht.lt.2, ht.ne⟩
      clear h ht hb e HR0 HT0 HB hk hbase h1 h2 h3 h4
      go_enter Try.func18, Try.ntmps18
      go_wp2_with fail
      clear ct0 ct1 f0 d0 d1
      go_loopw [6, 7] (fun n_ i_ wr => ∃ (r node : Nat) (c' : Cd) (t' : Tm) (gl' : Nat), r ≤ b ∧ n_ = .int .i64 (node : Int) ∧ i_ = .int .i64 ((r : Int) - 1) ∧ Hid (2 ^ (b - r) ≤ node) ∧ Hid (node < 2 ^ (b - r + 1)) ∧ Hid (codT x r c' t' node = codT x b c t 1) ∧ Hid (t'.bits = b) ∧ Hid (c'.k + r ≤ 90000 + b) ∧ Hid (RCo wr g gl' base c') ∧ Hid (RTr wr tg tr t') ∧ Hid (gl' = gl ∨ W.heap.size ≤ gl') ∧ Hid (Only (fun j => j = g ∨ j = gl ∨ j = tr) W wr)) (fun _ i_ _ => (intOf i_ + 1).toNat)
      case atStart =>
        obtain ⟨c', t', gl', a1, a2, a3, a4, a5, a6, a7⟩ := HI.out
        exact ⟨b, 1, c', t', gl', Nat.le_refl _, rfl, rfl, Lib.hid (by rw [Nat.sub_self]; decide), Lib.hid (by rw [Nat.sub_self]; decide), Lib.hid a1, Lib.hid a2, Lib.hid a3, Lib.hid a4, Lib.hid a5, Lib.hid a6, Lib.hid a7⟩
      case round =>
        clear HI
        obtain ⟨r, node, c', t', gl', hr, rfl, rfl, HN1, HN2, HCT, HBT, HKK, HR, HT, HGL, HO⟩ := hrel
        by_cases hr0 : 0 < r
        · obtain ⟨i, rfl⟩ : ∃ i, r = i + 1 := ⟨r - 1, by omega⟩
          have ei : ((i + 1 : Nat) : Int) - 1 = (i : Int) := by omega
          rw [ei]
          have hnode : node < m := by rw [← HM.out]; exact node_lt hr0 hr HN2.out
          have hnode1 : 1 ≤ node := Nat.le_trans (Nat.one_le_two_pow) HN1.out
          have hi8 : i < 8 := by omega
          have htop := HT.out.top
          rw [HBT.out, HM.out] at htop
          have ct1 : wr.cell? ⟨tg, 1, none⟩ = some (.slice (some ⟨tr, 0, none⟩) m m) := by rw [cell_of_row _ _ _ _ _ _ htop]; rfl
          have cx := HT.out.cell hnode1 (by rw [HBT.out, HM.out]; exact hnode)
          obtain ⟨q, hq⟩ : ∃ q, x / 2 ^ i = q := ⟨_, rfl⟩
          have hql : q < 256 := by rw [← hq]; exact Nat.lt_of_le_of_lt (Nat.div_le_self _ _) hx
          obtain ⟨z, hz⟩ : ∃ z, q % 2 = z := ⟨_, rfl⟩
          have hz2 : z < 2 := by omega
          have t1 : IntKind.u64.wrap (i : Int) = (i : Int) := by rw [IntKind.wrap_u64]; omega
          have t2 : (x : Int) / 2 ^ i = (q : Int) := by rw [← hq]; simp
          have t3 : bits .and .i64 (q : Int) 1 = (z : Int) := by rw [i64_and1 q hql, hz]
          have hct := HCT.out
          rw [codT, hq, hz] at hct
          have HCT2 := Lib.hid hct
          have hkk : c'.k ≤ 100000 := by have := HKK.out; omega
          have hsz := HO.out.size
          have HZD : Hid (decide ((z : Int) = 0) = decide (z = 0)) := Lib.hid (by
            by_cases h0 : z = 0
            · subst h0; rfl
            · rw [decide_eq_false h0, decide_eq_false (by omega)])
          have HCB := Lib.hid (rcbit_any HR.out hkk (Nat.le_trans HBASE.out hsz) (t'.p node : Int) (z : Int))
          have HTG : Hid (gl' ≠ tg ∧ gl' ≠ tr) := Lib.hid (by
            have hn := HNE.out
            rcases HGL.out with e | e
            · rw [e]; exact ⟨hn.2.2.1, hn.2.2.2.1⟩
            · exact ⟨by omega, by omega⟩)
          have n1 : IntKind.i64.wrap (2 * (node : Int)) = ((2 * node : Nat) : Int) := by rw [IntKind.wrap_i64]; omega
          have n2 : IntKind.i64.wrap (((2 * node : Nat) : Int) + (z : Int)) = ((2 * node + z : Nat) : Int) := by rw [IntKind.wrap_i64]; omega
          obtain ⟨n2x, hn2x⟩ : ∃ y, 2 * node = y := ⟨_, rfl⟩
          obtain ⟨nn, hnn⟩ : ∃ y, n2x + z = y := ⟨_, rfl⟩
          rw [hn2x] at n1 n2 HCT2
          rw [hnn] at n2 HCT2
          have HNA : Hid (2 ^ (b - i) ≤ nn ∧ nn < 2 ^ (b - i + 1)) := Lib.hid (by
            have a1 := HN1.out
            have a2 := HN2.out
            have e1 : b - i = b - (i + 1) + 1 := by omega
            rw [e1, Nat.pow_succ (m := b - (i + 1) + 1), Nat.pow_succ]
            rw [Nat.pow_succ] at a2
            omega)
          have n3 : IntKind.i64.wrap ((i : Int) - 1) = (i : Int) - 1 := by rw [IntKind.wrap_i64]; omega
          have d2 : decide (0 ≤ (i : Int)) = true := decide_eq_true (by omega)
          have b0 : 0 ≤ (i : Int) := by omega
          have b1' : 0 ≤ (node : Int) := by omega
          have b2' : (node : Int) < (m : Int) := by omega
          have HI8 : Hid (i ≤ b) := Lib.hid (by omega)
          have HKB : Hid (c'.k + (i + 1) ≤ 90000 + b) := HKK
          clear HR HCT HN1 HN2 hnode hnode1 hq hz hql hz2 hct hkk hsz hn2x hnn htop hr hr0 HKK
          go_wp2_with fail
          with_reducible refine HCB.out.mono ?_
          rintro e w2 ⟨rfl, gl2, hc2, hgl2, ho2⟩
          have HC2 := Lib.hid hc2
          have HT2 : Hid (RTr w2 tg tr t') := Lib.hid (HT.out.only ho2 (fun e => by rcases e with e | e; exact HNE.out.1 e.symm; exact HTG.out.1 e.symm) (fun e => by rcases e with e | e; exact HNE.out.2.1 e.symm; exact HTG.out.2 e.symm))
          have HGL2 : Hid (gl2 = gl ∨ W.heap.size ≤ gl2) := Lib.hid (by
            rcases hgl2 with e | e
            · rw [e]; exact HGL.out
            · exact .inr (Nat.le_trans HO.out.size e))
          have HO2 : Hid (Only (fun j => j = g ∨ j = gl ∨ j = tr) W w2) := Lib.hid (by
            refine ⟨ho2.os.trans HO.out.os, ho2.tape.trans HO.out.tape, ho2.output.trans HO.out.output, Nat.le_trans HO.out.size ho2.size, fun j hj hn => ?_⟩
            rw [ho2.block j (Nat.lt_of_lt_of_le hj HO.out.size) (fun e => by
              rcases e with e | e
              · exact hn (.inl e)
              · rcases HGL.out with e2 | e2
                · exact hn (.inr (.inl (e.trans e2)))
                · omega)]
            exact HO.out.block j hj hn)
          clear hc2 hgl2 ho2 HCB HT HGL HO cx ct1
          have HTU := Lib.hid (rturn15_any HT2.out (node : Int) (z : Int))
          go_wp2_with fail
          with_reducible refine HTU.out.mono ?_
          rintro e w3 ⟨rfl, ht3, ho3⟩
          have HT3 := Lib.hid ht3
          have HC3 : Hid (RCo w3 g gl2 base (c'.bit (t'.p node : Int) (decide (z = 0)))) := Lib.hid (by
            have h := HC2.out.only ho3 (fun e => HNE.out.2.1 e) (fun e => by
              rcases HGL2.out with e2 | e2
              · exact HNE.out.2.2.2.1 (e2.symm.trans e)
              · have := HNE.out.2.2.2.2.2.1; omega)
            rwa [HZD.out] at h)
          have HO3 : Hid (Only (fun j => j = g ∨ j = gl ∨ j = tr) W w3) := Lib.hid (HO2.out.join ho3 (fun j e => e) (fun j e => .inr (.inr e)))
          have HBT3 : Hid ((t'.turn (node : Int) (z : Int)).bits = b) := Lib.hid (by rw [Tm.turn_bits]; exact HBT.out)
          have HKK3 : Hid ((c'.bit (t'.p node : Int) (decide (z = 0))).k + i ≤ 90000 + b) := Lib.hid (by
            have := Cd.bit_k c' (t'.p node : Int) (decide (z = 0))
            have := HKB.out
            omega)
          clear ht3 ho3 HTU HT2 HC2 HO2 HBT HKB
          go_wp2_with fail
          go_roundw
          case rel => exact ⟨i, nn, _, _, gl2, HI8.out, rfl, rfl, Lib.hid HNA.out.1, Lib.hid HNA.out.2, HCT2, HBT3, HKK3, HC3, HT3, HGL2, HO3⟩
          case measure => simp [intOf] <;> omega
        · have hr00 : r = 0 := by omega
          subst hr00
          have d2 : decide (0 ≤ ((0 : Nat) : Int) - 1) = false := by decide
          have hct := HCT.out
          rw [codT] at hct
          have HE : Hid (∃ gl', RCo wr g gl' base (codT x b c t 1).1 ∧ RTr wr tg tr (codT x b c t 1).2 ∧ (gl' = gl ∨ W.heap.size ≤ gl') ∧ Only (fun j => j = g ∨ j = gl ∨ j = tr) W wr) := Lib.hid ⟨gl', by rw [← hct]; exact HR.out, by rw [← hct]; exact HT.out, HGL.out, HO.out⟩
          clear hct HR HT HGL HO HCT
          go_wp2_with fail
          refine bodyPost_end (results_none rfl _ _ _) rfl ?_
          exact ⟨rfl, HE.out⟩
end Go.Proofs.Ytlbkpmcccipfhaa

