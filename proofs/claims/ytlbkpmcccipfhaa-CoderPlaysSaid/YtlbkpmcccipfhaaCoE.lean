/- The landed coder: calls on nil, Tree; all of it together. -/
import Derived.Test.YtlbkpmcccipfhaaCoD
namespace Go.Proofs.Ytlbkpmcccipfhaa
open Go.RowKit
set_option linter.unusedVariables false
set_option maxRecDepth 100000

theorem pcbitno_any : CoBitNo := fun p bit W _ _ _ _ => by
  go_enter Try.func13, Try.ntmps13
  go_wp2_with fail
  go_ret
  exact ⟨rfl, Below.refl _ _⟩
theorem pchalfno_any : CoHalfNo := fun bit W _ _ => by
  go_enter Try.func15, Try.ntmps15
  go_wp2_with fail
  refine bodyPost_ret (results_none rfl _ _ _) rfl ?_
  exact ⟨rfl, Below.refl _ _⟩
theorem pcdoneno_any : CoDoneNo := fun W => by
  go_enter Try.func19, Try.ntmps19
  go_wp2_with fail
  go_ret
  exact ⟨_, rfl, Ob.nil_ _ _ _, Below.refl _ _⟩
theorem pctreeno_any {T : TrP} (D : MdC T) : CoTreeNo T := fun {W tg t G} h v _ _ => by
  have HS := Lib.hid (pcsize_any D h)
  go_enter Try.func17, Try.ntmps17
  go_wp2_with fail
  with_reducible refine HS.out.mono ?_
  rintro e w2 ⟨rfl, hb2⟩
  have HB2 := Lib.hid hb2
  clear hb2
  go_wp2_with fail
  refine bodyPost_ret (results_none rfl _ _ _) rfl ?_
  exact ⟨rfl, HB2.out⟩
set_option maxHeartbeats 800000 in
theorem pctreenil_any : CoTreeNil coT := fun {W g c F} h v _ _ => by
  have HS := Lib.hid (pcsizenil_any W)
  have t1 : wrap64 (2 ^ 0) = 1 := by decide +kernel
  clear h
  by_cases h0 : v < 0
  · have d0 : decide (v < 0) = true := decide_eq_true h0
    clear h0
    go_enter Try.func17, Try.ntmps17
    go_wp2_with fail
    with_reducible refine HS.out.mono ?_
    rintro e w2 ⟨rfl, rfl⟩
    go_wp2_with fail
    refine bodyPost_ret (results_none rfl _ _ _) rfl ?_
    exact ⟨rfl, Below.refl _ _⟩
  · have d0 : decide (v < 0) = false := decide_eq_false h0
    by_cases h1 : 1 ≤ v
    · have d1 : decide (1 ≤ v) = true := decide_eq_true h1
      clear h0 h1
      go_enter Try.func17, Try.ntmps17
      go_wp2_with fail
      with_reducible refine HS.out.mono ?_
      rintro e w2 ⟨rfl, rfl⟩
      go_wp2_with fail
      refine bodyPost_ret (results_none rfl _ _ _) rfl ?_
      exact ⟨rfl, Below.refl _ _⟩
    · have d1 : decide (1 ≤ v) = false := decide_eq_false h1
      clear h0 h1
      go_enter Try.func17, Try.ntmps17
      go_wp2_with fail
      with_reducible refine HS.out.mono ?_
      rintro e w2 ⟨rfl, rfl⟩
      go_wp2_with fail
      go_loopw [8] (fun i_ wr => i_ = .int .i64 (-1) ∧ wr = w2) (fun _ _ => 0)
      case atStart => exact ⟨by go_num, rfl⟩
      case round =>
        obtain ⟨rfl, rfl⟩ := hrel
        go_wp2_with fail
        refine bodyPost_end (results_none rfl _ _ _) rfl ?_
        exact ⟨rfl, Below.refl _ _⟩

/-- a coder and a tree on the way -/
structure TrI (C : CoP) (T : TrP) (W wr : World) (g tg : Nat) (F G : Nat → Prop) (c : Cd) (t : Tm) (F' G' : Nat → Prop) : Prop where
  co : C wr g c F'
  tr : T wr tg t G'
  fn : ∀ j, F' j → F j ∨ W.heap.size ≤ j
  gn : ∀ j, G' j → G j ∨ W.heap.size ≤ j
  dis : ∀ j, F' j → ¬ G' j
  on : Only (fun j => F j ∨ G j) W wr
section
variable {C : CoP} {T : TrP} {W wr w' : World} {g tg : Nat} {F G F' G' : Nat → Prop} {c c' : Cd} {t t' : Tm}
theorem TrI.low (B : CoB C) (E : TrB T) (h : TrI C T W wr g tg F G c t F' G') (hb : Below wr.heap.size wr w') : TrI C T W w' g tg F G c t F' G' :=
  ⟨B.below h.co hb, E.below h.tr hb, h.fn, h.gn, h.dis, h.on.trans (Only.of_below hb)⟩
theorem TrI.coder (B : CoB C) (E : TrB T) (h : TrI C T W wr g tg F G c t F' G') (hp : CoPost C wr g c' F' w') : ∃ F2, TrI C T W w' g tg F G c' t F2 G' := by
  obtain ⟨F2, h1, h2, h3⟩ := hp
  have hs := h.on.size
  refine ⟨F2, h1, E.keep F' h.tr h3 (fun j hj hf => h.dis j hf hj), fun j hj => ?_, h.gn, fun j hj hg => ?_, ⟨h3.os.trans h.on.os, h3.tape.trans h.on.tape, h3.output.trans h.on.output, Nat.le_trans h.on.size h3.size, fun k hk hn => ?_⟩⟩
  · rcases h2 j hj with a | a
    · exact h.fn j a
    · exact .inr (by omega)
  · rcases h2 j hj with a | a
    · exact h.dis j a hg
    · have := E.lt h.tr j hg; omega
  · rw [h3.block k (by omega) (fun hf => by
      rcases h.fn k hf with a | a
      · exact hn (.inl a)
      · omega)]
    exact h.on.block k hk hn
theorem TrI.tree {G2 : Nat → Prop} (B : CoB C) (E : TrB T) (h : TrI C T W wr g tg F G c t F' G') (h1 : T w' tg t' G2) (h2 : ∀ j, G2 j → G' j ∨ wr.heap.size ≤ j) (h3 : Only G' wr w') : TrI C T W w' g tg F G c t' F' G2 := by
  have hs := h.on.size
  refine ⟨B.keep G' h.co h3 (fun j hj hf => h.dis j hj hf), h1, h.fn, fun j hj => ?_, fun j hj hg => ?_, ⟨h3.os.trans h.on.os, h3.tape.trans h.on.tape, h3.output.trans h.on.output, Nat.le_trans h.on.size h3.size, fun k hk hn => ?_⟩⟩
  · rcases h2 j hj with a | a
    · exact h.gn j a
    · exact .inr (by omega)
  · rcases h2 j hg with a | a
    · exact h.dis j hj a
    · have := B.lt h.co j hj; omega
  · rw [h3.block k (by omega) (fun hf => by
      rcases h.gn k hf with a | a
      · exact hn (.inr a)
      · omega)]
    exact h.on.block k hk hn
end

set_option maxHeartbeats 1600000 in
theorem pctree_any {T : TrP} (D : MdC T) : CoTreeC coT T := fun {W g tg c t F G} h ht hdis hk v hv1 hv2 => by
  have hok := D.base.ok ht
  have hb1 := hok.b1
  have hb2 := hok.b2
  have HS0 := Lib.hid (pcsize_any D ht)
  have HI0 : Hid (TrI coT T W W g tg F G c t F G) := Lib.hid ⟨h, ht, fun j hj => .inl hj, fun j hj => .inl hj, hdis, Only.refl _ _⟩
  obtain ⟨b, hb⟩ : ∃ b, t.bits = b := ⟨_, rfl⟩
  rw [hb] at hb1 hb2 HS0
  obtain ⟨m, hm⟩ : ∃ m, 2 ^ b = m := ⟨_, rfl⟩
  have hm8 : m ≤ 256 := by rw [← hm]; exact Nat.pow_le_pow_right (n := 2) (by decide) hb2
  have t1 : wrap64 (2 ^ b) = (m : Int) := by
    have h8 : b = 1 ∨ b = 2 ∨ b = 3 ∨ b = 4 ∨ b = 5 ∨ b = 6 ∨ b = 7 ∨ b = 8 := by omega
    rw [← hm]
    rcases h8 with rfl | rfl | rfl | rfl | rfl | rfl | rfl | rfl <;> decide +kernel
  have t1' : wrap64 (2 ^ min b 64) = (m : Int) := by rw [Nat.min_eq_left (by omega)]; exact t1
  have HB := Lib.hid hb
  have b00 : 0 ≤ (b : Int) := by omega
  by_cases hv0 : v < 0
  · have d0 : decide (v < 0) = true := decide_eq_true hv0
    have e : c.tree t v = (c, t) := by unfold Cd.tree; rw [if_neg (by omega)]
    rw [e]
    clear h ht hb hm hdis hv0 hok
    go_enter Try.func17, Try.ntmps17
    go_wp2_with fail
    with_reducible refine HS0.out.mono ?_
    rintro e w2 ⟨rfl, hb2⟩
    have HI2 := Lib.hid (HI0.out.low coT_base D.base hb2)
    clear hb2
    go_wp2_with fail
    refine bodyPost_ret (results_none rfl _ _ _) rfl ?_
    exact ⟨rfl, F, G, HI2.out.co, HI2.out.tr, HI2.out.fn, HI2.out.gn, HI2.out.dis, HI2.out.on⟩
  · have d0 : decide (v < 0) = false := decide_eq_false hv0
    by_cases hv3 : (m : Int) ≤ v
    · have d1 : decide ((m : Int) ≤ v) = true := decide_eq_true hv3
      have e : c.tree t v = (c, t) := by unfold Cd.tree; rw [hb, hm, if_neg (by omega)]
      rw [e]
      clear h ht hb hm hdis hv0 hv3 hok
      go_enter Try.func17, Try.ntmps17
      go_wp2_with fail
      with_reducible refine HS0.out.mono ?_
      rintro e w2 ⟨rfl, hb2⟩
      have HI2 := Lib.hid (HI0.out.low coT_base D.base hb2)
      clear hb2
      go_wp2_with fail
      refine bodyPost_ret (results_none rfl _ _ _) rfl ?_
      exact ⟨rfl, F, G, HI2.out.co, HI2.out.tr, HI2.out.fn, HI2.out.gn, HI2.out.dis, HI2.out.on⟩
    · have d1 : decide ((m : Int) ≤ v) = false := decide_eq_false hv3
      obtain ⟨x, rfl⟩ : ∃ x : Nat, v = (x : Int) := ⟨v.toNat, by omega⟩
      have e : c.tree t (x : Int) = codT x b c t 1 := by unfold Cd.tree; rw [hb, hm, if_pos (by omega)]; rfl
      rw [e]
      have hx : x < 256 := by omega
      have f0 : IntKind.i64.wrap ((b : Int) - 1) = (b : Int) - 1 := by rw [IntKind.wrap_i64]; omega
      have HK := Lib.hid hk
      have HM := Lib.hid hm
      have d1' : decide (m ≤ x) = false := decide_eq_false (by omega)
      have d0' : decide ((x : Int) < 0) = false := d0
      clear h ht hb hm hdis hv0 hv3 hok e hv1 hv2 hk d0
      go_enter Try.func17, Try.ntmps17
      go_wp2_with fail
      with_reducible refine HS0.out.mono ?_
      rintro e w2 ⟨rfl, hbb2⟩
      have HI2 := Lib.hid (HI0.out.low coT_base D.base hbb2)
      clear hbb2 HI0 HS0
      go_wp2_with fail
      clear f0 d0' d1 d1' t1 t1' b00
      go_loopw [7, 8] (fun n_ i_ wr => ∃ (r node : Nat) (c' : Cd) (t' : Tm) (F' G' : Nat → Prop), r ≤ b ∧ n_ = .int .i64 (node : Int) ∧ i_ = .int .i64 ((r : Int) - 1) ∧ Hid (2 ^ (b - r) ≤ node) ∧ Hid (node < 2 ^ (b - r + 1)) ∧ Hid (codT x r c' t' node = codT x b c t 1) ∧ Hid (t'.bits = b) ∧ Hid (c'.k + r ≤ 80000 + b) ∧ Hid (TrI coT T W wr g tg F G c' t' F' G')) (fun _ i_ _ => (intOf i_ + 1).toNat)
      case atStart =>
        exact ⟨b, 1, c, t, F, G, Nat.le_refl _, rfl, rfl, Lib.hid (by rw [Nat.sub_self]; decide), Lib.hid (by rw [Nat.sub_self]; decide), Lib.hid rfl, HB, Lib.hid (by have := HK.out; omega), HI2⟩
      case round =>
        clear HI2 HB
        obtain ⟨r, node, c', t', F', G', hr, rfl, rfl, HN1, HN2, HCT, HBT, HKK, HR⟩ := hrel
        by_cases hr0 : 0 < r
        · obtain ⟨i, rfl⟩ : ∃ i, r = i + 1 := ⟨r - 1, by omega⟩
          have ei : ((i + 1 : Nat) : Int) - 1 = (i : Int) := by omega
          rw [ei]
          have hnode : node < m := by rw [← HM.out]; exact node_lt hr0 hr HN2.out
          have hnode1 : 1 ≤ node := Nat.le_trans (Nat.one_le_two_pow) HN1.out
          have hi8 : i < 8 := by omega
          obtain ⟨q, hq⟩ : ∃ q, x / 2 ^ i = q := ⟨_, rfl⟩
          have hql : q < 256 := by rw [← hq]; exact Nat.lt_of_le_of_lt (Nat.div_le_self _ _) hx
          obtain ⟨z, hz⟩ : ∃ z, q % 2 = z := ⟨_, rfl⟩
          have hz2 : z < 2 := by omega
          have t1 : IntKind.u64.wrap (i : Int) = (i : Int) := by rw [IntKind.wrap_u64]; omega
          have t2 : (x : Int) / 2 ^ i = (q : Int) := by rw [← hq]; simp
          have t3 : bits .and .i64 (q : Int) 1 = (z : Int) := by rw [i64_and1 q hql, hz]
          have hct := HCT.out
          rw [codT, hq, hz] at hct
          have HCT2 := Lib.hid hct
          have HZD : Hid (decide ((z : Int) = 0) = decide (z = 0)) := Lib.hid (by
            by_cases h0 : z = 0
            · subst h0; rfl
            · rw [decide_eq_false h0, decide_eq_false (by omega)])
          have HAT : Hid (Calls Try.prog 20 #[.pointer (some ⟨tg, 0, none⟩), .int .i64 (node : Int)] wr (RetV wr (.int .i64 (t'.p node : Int)))) := Lib.hid (by
            have h := D.at_ HR.out.tr (node : Int) (by omega) (by omega)
            have e : t'.at_ (node : Int) = t'.p node := by
              unfold Tm.at_
              rw [if_pos ⟨by omega, by rw [HBT.out, HM.out]; omega⟩]
              rfl
            rwa [e] at h)
          have hpp := (D.base.ok HR.out.tr).hi node
          obtain ⟨pn, hpn⟩ : ∃ y, t'.p node = y := ⟨_, rfl⟩
          rw [hpn] at HAT HCT2 hpp
          have HCB : Hid (∀ V, coT V g c' F' → Calls Try.prog 13 #[.pointer (some ⟨g, 0, none⟩), .int .i64 (pn : Int), .int .i64 (z : Int)] V fun e w' => e = .returned (.int .i64 (adI (pn : Int) (z : Int) : Int)) ∧ CoPost coT V g (c'.bit (pn : Int) (decide (z = 0))) F' w') := Lib.hid fun V hV => by
            have h := pcbit_any hV (by have := HKK.out; omega) (pn : Int) (z : Int)
            rwa [HZD.out] at h
          have n1 : IntKind.i64.wrap (2 * (node : Int)) = ((2 * node : Nat) : Int) := by rw [IntKind.wrap_i64]; omega
          have n2 : IntKind.i64.wrap (((2 * node : Nat) : Int) + (z : Int)) = ((2 * node + z : Nat) : Int) := by rw [IntKind.wrap_i64]; omega
          obtain ⟨n2x, hn2x⟩ : ∃ y, 2 * node = y := ⟨_, rfl⟩
          obtain ⟨nn, hnn⟩ : ∃ y, n2x + z = y := ⟨_, rfl⟩
          rw [hn2x] at n1 n2 HCT2
          rw [hnn] at n2 HCT2
          have HNA : Hid (2 ^ (b - i) ≤ nn ∧ nn < 2 ^ (b - i + 1)) := Lib.hid (by
            have a1 := HN1.out
            have a2 := HN2.out
            have e1 : b - i = b - (i + 1) + 1 := by omega
            rw [e1, Nat.pow_succ (m := b - (i + 1) + 1), Nat.pow_succ]
            rw [Nat.pow_succ] at a2
            omega)
          have n3 : IntKind.i64.wrap ((i : Int) - 1) = (i : Int) - 1 := by rw [IntKind.wrap_i64]; omega
          have d2 : decide (0 ≤ (i : Int)) = true := decide_eq_true (by omega)
          have b0 : 0 ≤ (i : Int) := by omega
          have HI8 : Hid (i ≤ b) := Lib.hid (by omega)
          have HNB : Hid (-9223372036854775808 ≤ (node : Int) ∧ (node : Int) ≤ 9223372036854775807 ∧ -9223372036854775808 ≤ (z : Int) ∧ (z : Int) ≤ 9223372036854775807) := Lib.hid (by omega)
          clear HCT HN1 HN2 hnode hnode1 hq hz hql hz2 hct hn2x hnn hr hr0 hpn hpp
          go_wp2_with fail
          with_reducible refine HAT.out.mono ?_
          rintro e w3 ⟨rfl, hb3⟩
          have HR3 := Lib.hid (HR.out.low coT_base D.base hb3)
          clear hb3 HR HAT
          go_wp2_with fail
          with_reducible refine (HCB.out _ HR3.out.co).mono ?_
          rintro e w4 ⟨rfl, hp4⟩
          obtain ⟨F2, hi4⟩ := HR3.out.coder coT_base D.base hp4
          have HR4 := Lib.hid hi4
          clear hp4 hi4 HR3 HCB
          have HTU := Lib.hid (D.turn HR4.out.tr (node : Int) (z : Int) HNB.out.1 HNB.out.2.1 HNB.out.2.2.1 HNB.out.2.2.2)
          go_wp2_with fail
          with_reducible refine HTU.out.mono ?_
          rintro e w5 ⟨rfl, G2, h51, h52, h53⟩
          have HR5 := Lib.hid (HR4.out.tree coT_base D.base h51 h52 h53)
          have HBT3 : Hid ((t'.turn (node : Int) (z : Int)).bits = b) := Lib.hid (by rw [Tm.turn_bits]; exact HBT.out)
          have HKK3 : Hid ((c'.bit (pn : Int) (decide (z = 0))).k + i ≤ 80000 + b) := Lib.hid (by
            have := Cd.bit_k c' (pn : Int) (decide (z = 0))
            have := HKK.out
            omega)
          clear h51 h52 h53 HTU HR4 HBT HKK
          go_wp2_with fail
          go_roundw
          case rel => exact ⟨i, nn, _, _, F2, G2, HI8.out, rfl, rfl, Lib.hid HNA.out.1, Lib.hid HNA.out.2, HCT2, HBT3, HKK3, HR5⟩
          case measure => simp [intOf] <;> omega
        · have hr00 : r = 0 := by omega
          subst hr00
          have d2 : decide (0 ≤ ((0 : Nat) : Int) - 1) = false := by decide
          have hct := HCT.out
          rw [codT] at hct
          have HE : Hid (TrI coT T W wr g tg F G (codT x b c t 1).1 (codT x b c t 1).2 F' G') := Lib.hid (by rw [← hct]; exact HR.out)
          clear hct HR HCT
          go_wp2_with fail
          refine bodyPost_end (results_none rfl _ _ _) rfl ?_
          exact ⟨rfl, F', G', HE.out.co, HE.out.tr, HE.out.fn, HE.out.gn, HE.out.dis, HE.out.on⟩

theorem cd16 : Cd16 coT trH where
  base := coT_base
  tb := mdC.base
  adapt := mdC.adapt
  tnew := mdC.new
  tat := mdC.at_
  tturn := mdC.turn
  new := pcnew_any
  bit := fun h hk p bit _ _ _ _ => pcbit_any h (by omega) p bit
  half := fun h hk bit _ _ => pchalf_any h (by omega) bit
  done := pcdone_any
  tree := pctree_any mdC
  bitNo := pcbitno_any
  halfNo := pchalfno_any
  doneNo := pcdoneno_any
  treeNo := pctreeno_any mdC
  treeNil := pctreenil_any
end Go.Proofs.Ytlbkpmcccipfhaa

