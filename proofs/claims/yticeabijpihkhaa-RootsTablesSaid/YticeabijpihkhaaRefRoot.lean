/- The contract of the reference's root, at 2 and at 3. -/
import Derived.Test.YticeabijpihkhaaRefTimes
namespace Go.Proofs.Yticeabijpihkhaa
open Go.RowKit
set_option linter.unusedVariables false
set_option maxRecDepth 100000

theorem us_lit2 (w : World) (E : TypeId) (x y : Nat) : Us (w.alloc (.cells #[.int .u64 (x : Int), .int .u64 (y : Int)] E)) (some ⟨w.heap.size, 0, none⟩) [x, y] := fun _ =>
  ⟨_, _, rfl, fun j hj => by
    have hj2 : j < 2 := by simpa using hj
    have := heap_alloc_new w (.cells #[.int .u64 (x : Int), .int .u64 (y : Int)] E)
    rw [cell_of_row _ _ _ _ _ _ this]
    rcases j with _ | _ | j
    · rfl
    · rfl
    · omega⟩

set_option maxHeartbeats 1600000 in
theorem root2_any (p : Nat) (hp : p < 18446744073709551616) (w : World) :
    Calls Try.prog 24 #[.int .u64 (p : Int), .int .i64 2] w fun e w' => e = .returned (.int .u64 ((sqv false p : Nat) : Int)) ∧ Below w.heap.size w w' := by
  by_cases hlt : p < 4294967296
  · have mk8 : ∀ u : World, (Instr.makeSlice 26 (.int .i64 8) (.int .i64 8)).run Try.prog u = .ok (.slice (some ⟨u.heap.size, 0, none⟩) 8 8) (u.alloc (.cells (madeCells #[.int .u64 0] 8) 22)) := fun u => make_full64 8 (by omega) u
    have mk5 : ∀ u : World, (Instr.makeSlice 26 (.int .i64 5) (.int .i64 5)).run Try.prog u = .ok (.slice (some ⟨u.heap.size, 0, none⟩) 5 5) (u.alloc (.cells (madeCells #[.int .u64 0] 5) 22)) := fun u => make_full64 5 (by omega) u
    obtain ⟨M8, hM8⟩ : ∃ M, madeCells #[.int .u64 0] 8 = M := ⟨_, rfl⟩
    obtain ⟨M5, hM5⟩ : ∃ M, madeCells #[.int .u64 0] 5 = M := ⟨_, rfl⟩
    have HU8 : Hid (Uo 22 (w.alloc (.cells M8 22)) w.heap.size (.slice (some ⟨w.heap.size, 0, none⟩) 8 8) (List.replicate 8 0)) := Lib.hid (by rw [← hM8]; exact own_made64 w 8 (by omega))
    have HU5 : Hid (∀ u : World, Uo 22 (u.alloc (.cells M5 22)) u.heap.size (.slice (some ⟨u.heap.size, 0, none⟩) 5 5) (List.replicate 5 0)) := Lib.hid (fun u => by rw [← hM5]; exact own_made64 u 5 (by omega))
    rw [hM8] at mk8
    rw [hM5] at mk5
    clear hM8 hM5
    obtain ⟨p0, hp0⟩ : ∃ p0, p % 65536 = p0 := ⟨_, rfl⟩
    obtain ⟨p1, hp1⟩ : ∃ p1, p / 65536 = p1 := ⟨_, rfl⟩
    have a1 : bits .and .u64 (p : Int) 65535 = (p0 : Int) := by rw [and16 p (by omega), hp0]
    have a2 : (p : Int) / 65536 = (p1 : Int) := by omega
    have HG0 : Hid (List.replicate 8 0 ++ [p0, p1] = goalL false p) := Lib.hid (by rw [← hp0, ← hp1]; rfl)
    have HGD := Lib.hid (goalL_dig false hlt)
    have HGV := Lib.hid (goalL_val false p)
    have HSV : Hid (sqv false p = rt false p % 18446744073709551616) := Lib.hid (by unfold sqv; rw [if_pos hlt])
    have HL2 := Lib.hid (us_lit2 (w.alloc (.cells M8 22)) 22 p0 p1)
    have htest : ¬ 4294967296 ≤ (p : Int) := by omega
    obtain ⟨V, hV⟩ : ∃ V, sqv false p = V := ⟨_, rfl⟩
    rw [hV] at HSV ⊢
    clear hp0 hp1 hV hlt hp
    go_enter Try.func24, Try.ntmps24
    go_wp2_with (at_builtin; refine wpList_append_us rfl (.tmp 13) (.tmp 18) 26 rfl w.heap.size 22 Try.underlying26 info64 (.slice (some ⟨w.heap.size, 0, none⟩) 8 8) (List.replicate 8 0) rfl (HU8.out.below ((Below.refl _ _).alloc (Nat.le_refl _) _)) (some ⟨w.heap.size + 1, 0, none⟩) [p0, p1] 2 2 rfl rfl (by have := HL2.out; rwa [World.size_alloc] at this) (by simp) (by simp; omega) ?_)
    intro v1 w1 ho1 hgr1
    have ho2 : Uo 22 w1 w.heap.size v1 (goalL false p) := by rw [← HG0.out]; exact ho1
    obtain ⟨AG, cG, rfl, hug, -⟩ := ho2.form
    obtain ⟨G, HGL⟩ : ∃ G, Hid (goalL false p = G) := ⟨_, rfl⟩
    have hGl : G.length = 10 := by rw [← HGL.out]; rfl
    rw [HGL.out] at HGD HGV hug ⊢
    rw [hGl]
    have HB1 : Hid (Below w.heap.size w w1) := Lib.hid ((((Below.refl _ w).alloc (Nat.le_refl _) _).alloc (by simp) _).grown hgr1 (by simp; omega) (fun k hk => by simp [Value.ownBlock] at hk; omega))
    have HUG := Lib.hid hug
    obtain ⟨g, hg⟩ : ∃ g, w1.heap.size = g := ⟨_, rfl⟩
    have hu5 := HU5.out w1
    have hb5 : Below w1.heap.size w1 (w1.alloc (.cells M5 22)) := (Below.refl _ _).alloc (Nat.le_refl _) _
    rw [hg] at hu5 hb5
    have HU6 := Lib.hid hu5
    have HB6 := Lib.hid hb5
    clear ho1 ho2 hgr1 hug HU8 HL2 mk8 HG0 hu5 hb5 HU5
    go_wp2_with fail
    go_loopw [7] (fun i wr => ∃ (j : Nat) (y : List Nat), Hid (j ≤ 80) ∧ i = .int .i64 ((j : Int) - 1) ∧ Hid (Low y j) ∧ Hid (Uo 22 wr g (.slice (some ⟨g, 0, none⟩) 5 5) y) ∧ Hid (grt (fun y => decide (pw false y ≤ p * sc false)) j (vl y) = rt false p) ∧ Hid (Below g w1 wr)) (fun i _ => (intOf i + 1).toNat)
    case atStart => exact ⟨80, List.replicate 5 0, Lib.hid (by omega), rfl, Lib.hid low_start, HU6, Lib.hid rfl, HB6⟩
    case round =>
      clear HU6 HB6 mk5
      obtain ⟨j, y, hj, rfl, HL, HO, HG, HBe⟩ := hrel
      rcases j with _ | i
      · have e0 : ((0 : Nat) : Int) - 1 = -1 := rfl
        rw [e0]
        have hv := HG.out
        simp only [grt] at hv
        have hyl := HL.out.1
        have h5 := vl_5 hyl
        have hdd := HL.out.2.1
        obtain ⟨d0, h0⟩ : ∃ d, dg y 0 = d := ⟨_, rfl⟩
        obtain ⟨d1, h1⟩ : ∃ d, dg y 1 = d := ⟨_, rfl⟩
        obtain ⟨d2, h2⟩ : ∃ d, dg y 2 = d := ⟨_, rfl⟩
        obtain ⟨d3, h3⟩ : ∃ d, dg y 3 = d := ⟨_, rfl⟩
        have k0 := hdd 0
        have k1 := hdd 1
        have k2 := hdd 2
        have k3 := hdd 3
        rw [h0] at k0 h5
        rw [h1] at k1 h5
        rw [h2] at k2 h5
        rw [h3] at k3 h5
        obtain ⟨bo, oo, eo, co⟩ := HO.out.bs (by omega)
        injection eo with eo
        injection eo with e1 e2
        subst e1
        subst e2
        have c0 := co 0 (by omega)
        have c1 := co 1 (by omega)
        have c2 := co 2 (by omega)
        have c3 := co 3 (by omega)
        simp only [Nat.zero_add] at c0 c1 c2 c3
        change wr.cell? _ = some (.int .u64 ((dg y 0 : Nat) : Int)) at c0
        change wr.cell? _ = some (.int .u64 ((dg y 1 : Nat) : Int)) at c1
        change wr.cell? _ = some (.int .u64 ((dg y 2 : Nat) : Int)) at c2
        change wr.cell? _ = some (.int .u64 ((dg y 3 : Nat) : Int)) at c3
        rw [h0] at c0
        rw [h1] at c1
        rw [h2] at c2
        rw [h3] at c3
        have HVV : Hid (V = d0 + d1 * 65536 + d2 * 4294967296 + d3 * 281474976710656) := Lib.hid (by rw [HSV.out, ← hv]; omega)
        have HW : Hid (IntKind.u64.wrap (IntKind.u64.wrap (IntKind.u64.wrap ((d0 : Int) + IntKind.u64.wrap ((d1 : Int) * 65536)) + IntKind.u64.wrap ((d2 : Int) * 4294967296)) + IntKind.u64.wrap ((d3 : Int) * 281474976710656)) = (V : Int)) := Lib.hid (by simp only [IntKind.wrap_u64]; rw [HVV.out]; omega)
        have HBE : Hid (Below w.heap.size w wr) := Lib.hid (HB1.out.trans (HBe.out.mono (by have := HB1.out.size; omega)))
        clear hv hyl h5 hdd h0 h1 h2 h3 co HG HL HO HBe e0 k0 k1 k2 k3
        go_wp2_with fail
        go_quiet (fail)
        go_wp2_with fail
        rw [HW.out]
        go_ret
        exact ⟨rfl, below_drewN' HBE.out nq⟩
      · have e1 : ((i + 1 : Nat) : Int) - 1 = (i : Int) := by omega
        rw [e1]
        have hi : i < 80 := hj.out
        clear e1 hj
        obtain ⟨q, hq⟩ : ∃ q, i / 16 = q := ⟨_, rfl⟩
        obtain ⟨s, hs⟩ : ∃ s, i % 16 = s := ⟨_, rfl⟩
        obtain ⟨e, he⟩ : ∃ e, 2 ^ s = e := ⟨_, rfl⟩
        obtain ⟨D, hD⟩ : ∃ D, dg y q = D := ⟨_, rfl⟩
        obtain ⟨n1, hn1⟩ : ∃ n1, D + e = n1 := ⟨_, rfl⟩
        obtain ⟨y1, hy1⟩ : ∃ y1, y.set q n1 = y1 := ⟨_, rfl⟩
        have hlow := low_digit HL.out
        have hset := low_set HL.out hi
        have hyl := HL.out.1
        have hkeep := low_keep HL.out
        rw [hq, hs, he, hD, hn1] at hlow hset
        rw [hy1] at hset
        have hql : q < 5 := by omega
        have hsl : s < 16 := by omega
        have Hyq : Hid (y1.getD q 0 = n1) := Lib.hid (by
          have := dg_set (l := y) (k := q) (j := q) (x := n1) (by omega)
          rw [if_pos rfl, hy1] at this
          exact this)
        have hback : y1.set q D = y := by
          rw [← hy1, List.set_set, ← hD]
          unfold dg
          rw [List.getD_eq_getElem?_getD]
          have : q < y.length := by omega
          simp [List.getElem?_eq_getElem this]
        have hel : e ≤ n1 := by omega
        have w1' : (i : Int) / 16 = (q : Int) := by omega
        have w2 : (i : Int) % 16 = (s : Int) := by omega
        have w3 : IntKind.u64.wrap (2 ^ s) = (e : Int) := by
          have e2 : (2 : Int) ^ s = ((2 ^ s : Nat) : Int) := by simp
          rw [e2, he, IntKind.wrap_u64]
          omega
        have w4 : (D : Int) + (e : Int) = (n1 : Int) := by omega
        have w5 : IntKind.u64.wrap (n1 : Int) = (n1 : Int) := by rw [IntKind.wrap_u64]; omega
        have w6 : (n1 : Int) - (e : Int) = (D : Int) := by omega
        have w7 : IntKind.u64.wrap (D : Int) = (D : Int) := by rw [IntKind.wrap_u64]; omega
        have w8 : IntKind.u64.wrap (s : Int) = (s : Int) := by rw [IntKind.wrap_u64]; omega
        have co1 : wr.cell? ⟨g, q, none⟩ = some (.int .u64 (D : Int)) := by
          obtain ⟨bo, oo, eo, co⟩ := HO.out.bs.at_ (k := q) (by omega)
          injection eo with eo
          injection eo with e1 e2
          subst e1
          subst e2
          rw [Nat.zero_add] at co
          rw [← hD]
          exact co
        have hfz := HO.out.frozen q
        obtain ⟨W2, hW2⟩ : ∃ W2, wr.setCell ⟨g, q, none⟩ (.int .u64 (n1 : Int)) = W2 := ⟨_, rfl⟩
        have hO2 : Uo 22 W2 g (.slice (some ⟨g, 0, none⟩) 5 5) y1 := by rw [← hW2, ← hy1]; exact HO.out.set_ q n1
        have hB2 : Below g w1 W2 := by rw [← hW2]; exact HBe.out.setCell (p := ⟨g, q, none⟩) (Nat.le_refl _) _
        have hy1l : y1.length = 5 := hset.1.1
        have ht1 := rtimes_any (some ⟨g, 0, none⟩) (some ⟨g, 0, none⟩) y1 y1 5 5 W2 hO2.bs hO2.bs (by omega) (by omega) hset.1.2.1 hset.1.2.1
        rw [hy1l] at ht1
        have HT1 : Hid (Calls Try.prog 31 #[.slice (some ⟨g, 0, none⟩) 5 5, .slice (some ⟨g, 0, none⟩) 5 5] W2 (TimesPost W2 10 (vl y1 * vl y1))) := Lib.hid ht1
        have HG2 : Hid (grt (fun y => decide (pw false y ≤ p * sc false)) i (if pw false (vl y1) ≤ p * sc false then vl y1 else vl y) = rt false p) := Lib.hid (by
          rw [← HG.out, hset.2]
          simp only [grt, decide_eq_true_eq])
        have HO2 := Lib.hid hO2
        have HB2 := Lib.hid hB2
        have HL1 := Lib.hid hset.1
        have HL0 := Lib.hid hkeep
        have Hback := Lib.hid hback
        have Hi : Hid (i ≤ 80) := Lib.hid (by omega)
        have Hy1l := Lib.hid hy1l
        clear hlow hset hkeep hback HG HL HO HBe hO2 hB2 hy1l ht1 hD hn1 hy1 he hs hyl
        go_wp2_with fail
        go_loud (with_reducible refine HT1.out.mono ?_)
        rintro ee w3 ⟨A3, c3, z3, rfl, hu3, hz3, hd3, hv3, hb3⟩
        have HO3 := Lib.hid (HO2.out.below hb3)
        have HB3 : Hid (Below g w1 w3) := Lib.hid (HB2.out.trans (hb3.mono (by have := HB2.out.size; omega)))
        have HU3 := Lib.hid hu3
        have HZ3 := Lib.hid hz3
        have HD3 := Lib.hid hd3
        have HV3 := Lib.hid hv3
        clear hu3 hz3 hd3 hv3 hb3 HO2 HB2 HT1 co1 hfz hW2
        obtain ⟨w4, rfl⟩ : ∃ w4, w4 = w3 := ⟨_, rfl⟩
        obtain ⟨A4, rfl⟩ : ∃ x, x = A3 := ⟨_, rfl⟩
        obtain ⟨c4, rfl⟩ : ∃ x, x = c3 := ⟨_, rfl⟩
        obtain ⟨z4, rfl⟩ : ∃ x, x = z3 := ⟨_, rfl⟩
        have HO4 := HO3
        have HB4 := HB3
        have HU4z := HU3
        have HZ4 := HZ3
        have HD4 := HD3
        have HV4 : Hid (vl z4 = pw false (vl y1)) := HV3
        clear HO3 HB3 HU3 HZ3 HD3 HV3
        have HU4 := Lib.hid (HUG.out.below (w' := w4) (hg ▸ HB4.out))
        have hab := rabove_any A4 AG z4 G c4 cG w4 HU4z.out HU4.out (by have := HZ4.out; omega) (by omega) HD4.out HGD.out
        rw [hGl, HZ4.out, HV4.out, HGV.out] at hab
        have co4 : w4.cell? ⟨g, q, none⟩ = some (.int .u64 (n1 : Int)) := by
          obtain ⟨bo, oo, eo, co⟩ := HO4.out.bs.at_ (k := q) (by have := Hy1l.out; omega)
          injection eo with eo
          injection eo with e1 e2
          subst e1
          subst e2
          rw [Nat.zero_add] at co
          rw [co, Hyq.out]
        have hfz4 := HO4.out.frozen q
        by_cases hF : pw false (vl y1) ≤ p * sc false
        · rw [if_pos hF] at HG2
          have HAb : Hid (Calls Try.prog 32 #[.slice A4 10 c4, .slice AG 10 cG] w4 fun e w' => e = .returned (.bool false) ∧ w4 = w') := Lib.hid (by
            rw [decide_eq_false (by exact Nat.not_lt.2 hF)] at hab; exact hab)
          clear hab hF
          go_wp2_with fail
          go_loud (with_reducible refine HAb.out.mono ?_)
          rintro ee w5 ⟨rfl, rfl⟩
          go_wp2_with fail
          go_roundw
          case rel => exact ⟨i, y1, Hi, by go_num, HL1, HO4, HG2, HB4⟩
          case measure => simp [intOf]
        · rw [if_neg hF] at HG2
          have HAb : Hid (Calls Try.prog 32 #[.slice A4 10 c4, .slice AG 10 cG] w4 fun e w' => e = .returned (.bool true) ∧ w4 = w') := Lib.hid (by
            rw [decide_eq_true (by exact Nat.not_le.1 hF)] at hab; exact hab)
          have HO5 : Hid (Uo 22 (w4.setCell ⟨g, q, none⟩ (uval D)) g (.slice (some ⟨g, 0, none⟩) 5 5) y) := Lib.hid (by have := HO4.out.set_ q D; rwa [Hback.out] at this)
          have HB5 : Hid (Below g w1 (w4.setCell ⟨g, q, none⟩ (uval D))) := Lib.hid (HB4.out.setCell (p := ⟨g, q, none⟩) (Nat.le_refl _) _)
          clear hab hF
          go_wp2_with fail
          go_loud (with_reducible refine HAb.out.mono ?_)
          rintro ee w5 ⟨rfl, rfl⟩
          go_wp2_with fail
          go_roundw
          case rel => exact ⟨i, y, Hi, by go_num, HL0, HO5, HG2, HB5⟩
          case measure => simp [intOf]

  · have hz : sqv false p = 0 := by unfold sqv; rw [if_neg hlt]
    rw [hz]
    have htest : 4294967296 ≤ (p : Int) := by omega
    clear hz hlt hp
    go_enter Try.func24, Try.ntmps24
    go_wp2_with fail
    go_ret
    exact ⟨rfl, Below.refl _ _⟩

set_option maxHeartbeats 1600000 in
theorem root3_any (p : Nat) (hp : p < 18446744073709551616) (w : World) :
    Calls Try.prog 24 #[.int .u64 (p : Int), .int .i64 3] w fun e w' => e = .returned (.int .u64 ((sqv true p : Nat) : Int)) ∧ Below w.heap.size w w' := by
  by_cases hlt : p < 4294967296
  · have mk8 : ∀ u : World, (Instr.makeSlice 26 (.int .i64 12) (.int .i64 12)).run Try.prog u = .ok (.slice (some ⟨u.heap.size, 0, none⟩) 12 12) (u.alloc (.cells (madeCells #[.int .u64 0] 12) 22)) := fun u => make_full64 12 (by omega) u
    have mk5 : ∀ u : World, (Instr.makeSlice 26 (.int .i64 5) (.int .i64 5)).run Try.prog u = .ok (.slice (some ⟨u.heap.size, 0, none⟩) 5 5) (u.alloc (.cells (madeCells #[.int .u64 0] 5) 22)) := fun u => make_full64 5 (by omega) u
    obtain ⟨M8, hM8⟩ : ∃ M, madeCells #[.int .u64 0] 12 = M := ⟨_, rfl⟩
    obtain ⟨M5, hM5⟩ : ∃ M, madeCells #[.int .u64 0] 5 = M := ⟨_, rfl⟩
    have HU8 : Hid (Uo 22 (w.alloc (.cells M8 22)) w.heap.size (.slice (some ⟨w.heap.size, 0, none⟩) 12 12) (List.replicate 12 0)) := Lib.hid (by rw [← hM8]; exact own_made64 w 12 (by omega))
    have HU5 : Hid (∀ u : World, Uo 22 (u.alloc (.cells M5 22)) u.heap.size (.slice (some ⟨u.heap.size, 0, none⟩) 5 5) (List.replicate 5 0)) := Lib.hid (fun u => by rw [← hM5]; exact own_made64 u 5 (by omega))
    rw [hM8] at mk8
    rw [hM5] at mk5
    clear hM8 hM5
    obtain ⟨p0, hp0⟩ : ∃ p0, p % 65536 = p0 := ⟨_, rfl⟩
    obtain ⟨p1, hp1⟩ : ∃ p1, p / 65536 = p1 := ⟨_, rfl⟩
    have a1 : bits .and .u64 (p : Int) 65535 = (p0 : Int) := by rw [and16 p (by omega), hp0]
    have a2 : (p : Int) / 65536 = (p1 : Int) := by omega
    have HG0 : Hid (List.replicate 12 0 ++ [p0, p1] = goalL true p) := Lib.hid (by rw [← hp0, ← hp1]; rfl)
    have HGD := Lib.hid (goalL_dig true hlt)
    have HGV := Lib.hid (goalL_val true p)
    have HSV : Hid (sqv true p = rt true p % 18446744073709551616) := Lib.hid (by unfold sqv; rw [if_pos hlt])
    have HL2 := Lib.hid (us_lit2 (w.alloc (.cells M8 22)) 22 p0 p1)
    have htest : ¬ 4294967296 ≤ (p : Int) := by omega
    obtain ⟨V, hV⟩ : ∃ V, sqv true p = V := ⟨_, rfl⟩
    rw [hV] at HSV ⊢
    clear hp0 hp1 hV hlt hp
    go_enter Try.func24, Try.ntmps24
    go_wp2_with (at_builtin; refine wpList_append_us rfl (.tmp 13) (.tmp 18) 26 rfl w.heap.size 22 Try.underlying26 info64 (.slice (some ⟨w.heap.size, 0, none⟩) 12 12) (List.replicate 12 0) rfl (HU8.out.below ((Below.refl _ _).alloc (Nat.le_refl _) _)) (some ⟨w.heap.size + 1, 0, none⟩) [p0, p1] 2 2 rfl rfl (by have := HL2.out; rwa [World.size_alloc] at this) (by simp) (by simp; omega) ?_)
    intro v1 w1 ho1 hgr1
    have ho2 : Uo 22 w1 w.heap.size v1 (goalL true p) := by rw [← HG0.out]; exact ho1
    obtain ⟨AG, cG, rfl, hug, -⟩ := ho2.form
    obtain ⟨G, HGL⟩ : ∃ G, Hid (goalL true p = G) := ⟨_, rfl⟩
    have hGl : G.length = 14 := by rw [← HGL.out]; rfl
    rw [HGL.out] at HGD HGV hug ⊢
    rw [hGl]
    have HB1 : Hid (Below w.heap.size w w1) := Lib.hid ((((Below.refl _ w).alloc (Nat.le_refl _) _).alloc (by simp) _).grown hgr1 (by simp; omega) (fun k hk => by simp [Value.ownBlock] at hk; omega))
    have HUG := Lib.hid hug
    obtain ⟨g, hg⟩ : ∃ g, w1.heap.size = g := ⟨_, rfl⟩
    have hu5 := HU5.out w1
    have hb5 : Below w1.heap.size w1 (w1.alloc (.cells M5 22)) := (Below.refl _ _).alloc (Nat.le_refl _) _
    rw [hg] at hu5 hb5
    have HU6 := Lib.hid hu5
    have HB6 := Lib.hid hb5
    clear ho1 ho2 hgr1 hug HU8 HL2 mk8 HG0 hu5 hb5 HU5
    go_wp2_with fail
    go_loopw [7] (fun i wr => ∃ (j : Nat) (y : List Nat), Hid (j ≤ 80) ∧ i = .int .i64 ((j : Int) - 1) ∧ Hid (Low y j) ∧ Hid (Uo 22 wr g (.slice (some ⟨g, 0, none⟩) 5 5) y) ∧ Hid (grt (fun y => decide (pw true y ≤ p * sc true)) j (vl y) = rt true p) ∧ Hid (Below g w1 wr)) (fun i _ => (intOf i + 1).toNat)
    case atStart => exact ⟨80, List.replicate 5 0, Lib.hid (by omega), rfl, Lib.hid low_start, HU6, Lib.hid rfl, HB6⟩
    case round =>
      clear HU6 HB6 mk5
      obtain ⟨j, y, hj, rfl, HL, HO, HG, HBe⟩ := hrel
      rcases j with _ | i
      · have e0 : ((0 : Nat) : Int) - 1 = -1 := rfl
        rw [e0]
        have hv := HG.out
        simp only [grt] at hv
        have hyl := HL.out.1
        have h5 := vl_5 hyl
        have hdd := HL.out.2.1
        obtain ⟨d0, h0⟩ : ∃ d, dg y 0 = d := ⟨_, rfl⟩
        obtain ⟨d1, h1⟩ : ∃ d, dg y 1 = d := ⟨_, rfl⟩
        obtain ⟨d2, h2⟩ : ∃ d, dg y 2 = d := ⟨_, rfl⟩
        obtain ⟨d3, h3⟩ : ∃ d, dg y 3 = d := ⟨_, rfl⟩
        have k0 := hdd 0
        have k1 := hdd 1
        have k2 := hdd 2
        have k3 := hdd 3
        rw [h0] at k0 h5
        rw [h1] at k1 h5
        rw [h2] at k2 h5
        rw [h3] at k3 h5
        obtain ⟨bo, oo, eo, co⟩ := HO.out.bs (by omega)
        injection eo with eo
        injection eo with e1 e2
        subst e1
        subst e2
        have c0 := co 0 (by omega)
        have c1 := co 1 (by omega)
        have c2 := co 2 (by omega)
        have c3 := co 3 (by omega)
        simp only [Nat.zero_add] at c0 c1 c2 c3
        change wr.cell? _ = some (.int .u64 ((dg y 0 : Nat) : Int)) at c0
        change wr.cell? _ = some (.int .u64 ((dg y 1 : Nat) : Int)) at c1
        change wr.cell? _ = some (.int .u64 ((dg y 2 : Nat) : Int)) at c2
        change wr.cell? _ = some (.int .u64 ((dg y 3 : Nat) : Int)) at c3
        rw [h0] at c0
        rw [h1] at c1
        rw [h2] at c2
        rw [h3] at c3
        have HVV : Hid (V = d0 + d1 * 65536 + d2 * 4294967296 + d3 * 281474976710656) := Lib.hid (by rw [HSV.out, ← hv]; omega)
        have HW : Hid (IntKind.u64.wrap (IntKind.u64.wrap (IntKind.u64.wrap ((d0 : Int) + IntKind.u64.wrap ((d1 : Int) * 65536)) + IntKind.u64.wrap ((d2 : Int) * 4294967296)) + IntKind.u64.wrap ((d3 : Int) * 281474976710656)) = (V : Int)) := Lib.hid (by simp only [IntKind.wrap_u64]; rw [HVV.out]; omega)
        have HBE : Hid (Below w.heap.size w wr) := Lib.hid (HB1.out.trans (HBe.out.mono (by have := HB1.out.size; omega)))
        clear hv hyl h5 hdd h0 h1 h2 h3 co HG HL HO HBe e0 k0 k1 k2 k3
        go_wp2_with fail
        go_quiet (fail)
        go_wp2_with fail
        rw [HW.out]
        go_ret
        exact ⟨rfl, below_drewN' HBE.out nq⟩
      · have e1 : ((i + 1 : Nat) : Int) - 1 = (i : Int) := by omega
        rw [e1]
        have hi : i < 80 := hj.out
        clear e1 hj
        obtain ⟨q, hq⟩ : ∃ q, i / 16 = q := ⟨_, rfl⟩
        obtain ⟨s, hs⟩ : ∃ s, i % 16 = s := ⟨_, rfl⟩
        obtain ⟨e, he⟩ : ∃ e, 2 ^ s = e := ⟨_, rfl⟩
        obtain ⟨D, hD⟩ : ∃ D, dg y q = D := ⟨_, rfl⟩
        obtain ⟨n1, hn1⟩ : ∃ n1, D + e = n1 := ⟨_, rfl⟩
        obtain ⟨y1, hy1⟩ : ∃ y1, y.set q n1 = y1 := ⟨_, rfl⟩
        have hlow := low_digit HL.out
        have hset := low_set HL.out hi
        have hyl := HL.out.1
        have hkeep := low_keep HL.out
        rw [hq, hs, he, hD, hn1] at hlow hset
        rw [hy1] at hset
        have hql : q < 5 := by omega
        have hsl : s < 16 := by omega
        have Hyq : Hid (y1.getD q 0 = n1) := Lib.hid (by
          have := dg_set (l := y) (k := q) (j := q) (x := n1) (by omega)
          rw [if_pos rfl, hy1] at this
          exact this)
        have hback : y1.set q D = y := by
          rw [← hy1, List.set_set, ← hD]
          unfold dg
          rw [List.getD_eq_getElem?_getD]
          have : q < y.length := by omega
          simp [List.getElem?_eq_getElem this]
        have hel : e ≤ n1 := by omega
        have w1' : (i : Int) / 16 = (q : Int) := by omega
        have w2 : (i : Int) % 16 = (s : Int) := by omega
        have w3 : IntKind.u64.wrap (2 ^ s) = (e : Int) := by
          have e2 : (2 : Int) ^ s = ((2 ^ s : Nat) : Int) := by simp
          rw [e2, he, IntKind.wrap_u64]
          omega
        have w4 : (D : Int) + (e : Int) = (n1 : Int) := by omega
        have w5 : IntKind.u64.wrap (n1 : Int) = (n1 : Int) := by rw [IntKind.wrap_u64]; omega
        have w6 : (n1 : Int) - (e : Int) = (D : Int) := by omega
        have w7 : IntKind.u64.wrap (D : Int) = (D : Int) := by rw [IntKind.wrap_u64]; omega
        have w8 : IntKind.u64.wrap (s : Int) = (s : Int) := by rw [IntKind.wrap_u64]; omega
        have co1 : wr.cell? ⟨g, q, none⟩ = some (.int .u64 (D : Int)) := by
          obtain ⟨bo, oo, eo, co⟩ := HO.out.bs.at_ (k := q) (by omega)
          injection eo with eo
          injection eo with e1 e2
          subst e1
          subst e2
          rw [Nat.zero_add] at co
          rw [← hD]
          exact co
        have hfz := HO.out.frozen q
        obtain ⟨W2, hW2⟩ : ∃ W2, wr.setCell ⟨g, q, none⟩ (.int .u64 (n1 : Int)) = W2 := ⟨_, rfl⟩
        have hO2 : Uo 22 W2 g (.slice (some ⟨g, 0, none⟩) 5 5) y1 := by rw [← hW2, ← hy1]; exact HO.out.set_ q n1
        have hB2 : Below g w1 W2 := by rw [← hW2]; exact HBe.out.setCell (p := ⟨g, q, none⟩) (Nat.le_refl _) _
        have hy1l : y1.length = 5 := hset.1.1
        have ht1 := rtimes_any (some ⟨g, 0, none⟩) (some ⟨g, 0, none⟩) y1 y1 5 5 W2 hO2.bs hO2.bs (by omega) (by omega) hset.1.2.1 hset.1.2.1
        rw [hy1l] at ht1
        have HT1 : Hid (Calls Try.prog 31 #[.slice (some ⟨g, 0, none⟩) 5 5, .slice (some ⟨g, 0, none⟩) 5 5] W2 (TimesPost W2 10 (vl y1 * vl y1))) := Lib.hid ht1
        have HG2 : Hid (grt (fun y => decide (pw true y ≤ p * sc true)) i (if pw true (vl y1) ≤ p * sc true then vl y1 else vl y) = rt true p) := Lib.hid (by
          rw [← HG.out, hset.2]
          simp only [grt, decide_eq_true_eq])
        have HO2 := Lib.hid hO2
        have HB2 := Lib.hid hB2
        have HL1 := Lib.hid hset.1
        have HL0 := Lib.hid hkeep
        have Hback := Lib.hid hback
        have Hi : Hid (i ≤ 80) := Lib.hid (by omega)
        have Hy1l := Lib.hid hy1l
        clear hlow hset hkeep hback HG HL HO HBe hO2 hB2 hy1l ht1 hD hn1 hy1 he hs hyl
        go_wp2_with fail
        go_loud (with_reducible refine HT1.out.mono ?_)
        rintro ee w3 ⟨A3, c3, z3, rfl, hu3, hz3, hd3, hv3, hb3⟩
        have HO3 := Lib.hid (HO2.out.below hb3)
        have HB3 : Hid (Below g w1 w3) := Lib.hid (HB2.out.trans (hb3.mono (by have := HB2.out.size; omega)))
        have HU3 := Lib.hid hu3
        have HZ3 := Lib.hid hz3
        have HD3 := Lib.hid hd3
        have HV3 := Lib.hid hv3
        clear hu3 hz3 hd3 hv3 hb3 HO2 HB2 HT1 co1 hfz hW2
        have ht2 := rtimes_any A3 (some ⟨g, 0, none⟩) z3 y1 c3 5 w3 HU3.out HO3.out.bs (by have := HZ3.out; omega) (by have := Hy1l.out; omega) HD3.out HL1.out.2.1
        rw [HZ3.out, Hy1l.out, HV3.out] at ht2
        have HT2 : Hid (Calls Try.prog 31 #[.slice A3 10 c3, .slice (some ⟨g, 0, none⟩) 5 5] w3 (TimesPost w3 15 (pw true (vl y1)))) := Lib.hid ht2
        clear ht2 HU3 HD3 HV3 HZ3
        go_wp2_with fail
        go_loud (with_reducible refine HT2.out.mono ?_)
        rintro ee w4 ⟨A4, c4, z4, rfl, hu4, hz4, hd4, hv4, hb4⟩
        have HO4 := Lib.hid (HO3.out.below hb4)
        have HB4 : Hid (Below g w1 w4) := Lib.hid (HB3.out.trans (hb4.mono (by have := HB3.out.size; omega)))
        have HU4z := Lib.hid hu4
        have HZ4 := Lib.hid hz4
        have HD4 := Lib.hid hd4
        have HV4 := Lib.hid hv4
        clear hu4 hz4 hd4 hv4 hb4 HO3 HB3 HT2
        have HU4 := Lib.hid (HUG.out.below (w' := w4) (hg ▸ HB4.out))
        have hab := rabove_any A4 AG z4 G c4 cG w4 HU4z.out HU4.out (by have := HZ4.out; omega) (by omega) HD4.out HGD.out
        rw [hGl, HZ4.out, HV4.out, HGV.out] at hab
        have co4 : w4.cell? ⟨g, q, none⟩ = some (.int .u64 (n1 : Int)) := by
          obtain ⟨bo, oo, eo, co⟩ := HO4.out.bs.at_ (k := q) (by have := Hy1l.out; omega)
          injection eo with eo
          injection eo with e1 e2
          subst e1
          subst e2
          rw [Nat.zero_add] at co
          rw [co, Hyq.out]
        have hfz4 := HO4.out.frozen q
        by_cases hF : pw true (vl y1) ≤ p * sc true
        · rw [if_pos hF] at HG2
          have HAb : Hid (Calls Try.prog 32 #[.slice A4 15 c4, .slice AG 14 cG] w4 fun e w' => e = .returned (.bool false) ∧ w4 = w') := Lib.hid (by
            rw [decide_eq_false (by exact Nat.not_lt.2 hF)] at hab; exact hab)
          clear hab hF
          go_wp2_with fail
          go_loud (with_reducible refine HAb.out.mono ?_)
          rintro ee w5 ⟨rfl, rfl⟩
          go_wp2_with fail
          go_roundw
          case rel => exact ⟨i, y1, Hi, by go_num, HL1, HO4, HG2, HB4⟩
          case measure => simp [intOf]
        · rw [if_neg hF] at HG2
          have HAb : Hid (Calls Try.prog 32 #[.slice A4 15 c4, .slice AG 14 cG] w4 fun e w' => e = .returned (.bool true) ∧ w4 = w') := Lib.hid (by
            rw [decide_eq_true (by exact Nat.not_le.1 hF)] at hab; exact hab)
          have HO5 : Hid (Uo 22 (w4.setCell ⟨g, q, none⟩ (uval D)) g (.slice (some ⟨g, 0, none⟩) 5 5) y) := Lib.hid (by have := HO4.out.set_ q D; rwa [Hback.out] at this)
          have HB5 : Hid (Below g w1 (w4.setCell ⟨g, q, none⟩ (uval D))) := Lib.hid (HB4.out.setCell (p := ⟨g, q, none⟩) (Nat.le_refl _) _)
          clear hab hF
          go_wp2_with fail
          go_loud (with_reducible refine HAb.out.mono ?_)
          rintro ee w5 ⟨rfl, rfl⟩
          go_wp2_with fail
          go_roundw
          case rel => exact ⟨i, y, Hi, by go_num, HL0, HO5, HG2, HB5⟩
          case measure => simp [intOf]

  · have hz : sqv true p = 0 := by unfold sqv; rw [if_neg hlt]
    rw [hz]
    have htest : 4294967296 ≤ (p : Int) := by omega
    clear hz hlt hp
    go_enter Try.func24, Try.ntmps24
    go_wp2_with fail
    go_ret
    exact ⟨rfl, Below.refl _ _⟩
end Go.Proofs.Yticeabijpihkhaa

