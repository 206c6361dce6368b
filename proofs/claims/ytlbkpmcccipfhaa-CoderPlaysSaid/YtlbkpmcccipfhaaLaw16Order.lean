/- CoderOrder walked, over whatever the program's coder is. Written by wip/tools/mk_order16.py. -/
import Derived.Test.YtlbkpmcccipfhaaLaw16Bits
import Derived.Test.YtlbkpmcccipfhaaSlicesO
import Derived.Test.YtlbkpmcccipfhaaGbase
namespace Go.Proofs.Ytlbkpmcccipfhaa
open Go.RowKit
set_option linter.unusedVariables false
set_option maxRecDepth 100000

theorem zipB_take (L M : List Bool) (P : List Int) (i : Nat) (hi : i ≤ L.length) (hm : L.length = M.length) (h : ∀ j, j < i → L.getD j false = M.getD j false) : (zipB L P).take i = (zipB M P).take i := by
  apply List.ext_getElem (by rw [List.length_take, List.length_take, zipB_len, zipB_len, hm])
  intro j h1 h2
  rw [List.length_take, zipB_len] at h1
  rw [List.getElem_take, List.getElem_take]
  simp only [zipB, List.getElem_map, List.getElem_range]
  rw [h j (by omega)]
theorem zipB_split (L : List Bool) (P : List Int) (i : Nat) (hi : i < L.length) : Cd.new.puts (zipB L P) = ((Cd.new.puts ((zipB L P).take i)).put (P.getD i 0) (!L.getD i false)).puts ((zipB L P).drop (i + 1)) := by
  rw [← zipB_succ L P i hi, ← Cd.puts_append, List.take_append_drop]
/-- rows alike up to one bit -/
theorem order_less (L M : List Bool) (P : List Int) (i : Nat) (hi : i < L.length) (hm : L.length = M.length) (h : ∀ j, j < i → L.getD j false = M.getD j false) (h0 : L.getD i false = false) (h1 : M.getD i false = true) :
    (Cd.new.puts (zipB L P)).low * 256 ^ (Cd.new.puts (zipB M P)).k < (Cd.new.puts (zipB M P)).low * 256 ^ (Cd.new.puts (zipB L P)).k := by
  have e := zipB_take L M P i (by omega) hm h
  have ok0 : (Cd.new.puts ((zipB L P).take i)).ok := Cd.puts_ok _ Cd.new_ok
  have hx := Cd.In.puts ((zipB L P).drop (i + 1)) (Cd.put_ok ok0 (P.getD i 0) (!L.getD i false))
  have hy := Cd.In.puts ((zipB M P).drop (i + 1)) (Cd.put_ok ok0 (P.getD i 0) (!M.getD i false))
  rw [← zipB_split L P i hi] at hx
  rw [e, ← zipB_split M P i (by omega)] at hy
  rw [h0] at hx
  rw [h1] at hy
  have okx : (Cd.new.puts (zipB L P)).ok := Cd.puts_ok _ Cd.new_ok
  have px := (Cd.In.put ok0 (P.getD i 0) true).trans hx
  have py : ((Cd.new.puts ((zipB M P).take i)).part (cutB (Cd.new.puts ((zipB M P).take i)) (P.getD i 0)) (cutW (Cd.new.puts ((zipB M P).take i)) (P.getD i 0)) false).In (Cd.new.puts (zipB M P)) := (Cd.In.put (by rw [← e]; exact ok0) (P.getD i 0) false).trans hy
  rw [← e] at py
  exact cod_less px py (by have := okx.lo; omega)
/-- with zeros behind -/
def padO (n : Nat) (l : List UInt8) : List UInt8 := l ++ List.replicate (n - l.length) 0
theorem padO_len {n : Nat} {l : List UInt8} (h : l.length ≤ n) : (padO n l).length = n := by simp [padO]; omega
theorem padO_get (n : Nat) (l : List UInt8) (i : Nat) : (padO n l).getD i 0 = l.getD i 0 := by
  unfold padO
  simp only [List.getD]
  by_cases h : i < l.length
  · rw [List.getElem?_append_left h]
  · rw [List.getElem?_append_right (by omega), List.getElem?_replicate, List.getElem?_eq_none (by omega)]
    split <;> rfl
theorem padO_num {n : Nat} {l : List UInt8} (h : l.length ≤ n) : bgN (padO n l) = bgN l * 256 ^ (n - l.length) := by
  have e : bgN (List.replicate (n - l.length) (0 : UInt8)) = 0 := by
    unfold bgN
    rw [List.reverse_replicate]
    induction (n - l.length) with
    | zero => rfl
    | succ k ih => rw [List.replicate_succ, leN, ih]; rfl
  rw [padO, bgN_append, e, List.length_replicate, Nat.add_zero]
theorem order_bytes {c d : Cd} (hc : c.ok) (hd : d.ok) (h : c.low * 256 ^ d.k < d.low * 256 ^ c.k) {n : Nat} (h1 : 4 + c.k ≤ n) (h2 : 4 + d.k ≤ n) : bgN (padO n c.out) < bgN (padO n d.out) := by
  have l1 := Cd.out_len c
  have l2 := Cd.out_len d
  rw [padO_num (by omega), padO_num (by omega), Cd.out_num hc, Cd.out_num hd, l1, l2]
  have p : 0 < 256 ^ (c.k + d.k + 4) := Nat.pow_pos (by decide)
  have e1 : 256 ^ (n - (4 + c.k)) * 256 ^ (c.k + d.k + 4) = 256 ^ d.k * 256 ^ n := by rw [← Nat.pow_add, ← Nat.pow_add]; congr 1; omega
  have e2 : 256 ^ (n - (4 + d.k)) * 256 ^ (c.k + d.k + 4) = 256 ^ c.k * 256 ^ n := by rw [← Nat.pow_add, ← Nat.pow_add]; congr 1; omega
  refine Nat.lt_of_mul_lt_mul_right (a := 256 ^ (c.k + d.k + 4)) ?_
  rw [Nat.mul_assoc, Nat.mul_assoc, e1, e2, ← Nat.mul_assoc, ← Nat.mul_assoc]
  exact Nat.mul_lt_mul_of_pos_right h (Nat.pow_pos (by decide))
theorem wp_append_os {P : Program} {ops : Array Oper} {o : Oper} {a : Act} {w : World} {K : Act → World → Prop} {Q : Exit → Act → World → Prop} (hgd : o.guard = none) (s x : Operand) (t : TypeId)
    (ho : o.op = .call { callee := .builtin .append, args := #[s, x], argTypes := #[t, t] }) (base : Nat) (e : TypeId) (ht : P.underlying t = some (.slice e))
    (he : (P.info? e).map (fun i => (i.zero, i.size, i.bytes)) = some (some (.bool false), 1, 1))
    (v : Value) (l : List Bool) (hs : a.eval s = v) (hown : Oob e w base v l) (A : Option Addr) (m : List Bool) (n c : Nat) (hx : a.eval x = .slice A n c) (hn : n = m.length) (hm : Osb w A m)
    (hlen : l.length + m.length ≤ 2147483648) (hbase : base ≤ w.heap.size)
    (h : ∀ v' w', Oob e w' base v' (l ++ m) → w.grownBy w' v.ownBlock → K (a.put o.dst v') w') : Oper.wp P o a w K Q := by
  have := step_append_os (P := P) (ops := ops) (K := K) (Q := Q) (E := False) hgd s x t ho base e ht he v l hs hown A m n c hx hn hm hlen hbase h
  rwa [if_pos (by simp [Region.wanted, hgd])] at this
theorem infoB1 : (Try.prog.info? 4).map (fun i => (i.zero, i.size, i.bytes)) = some (some (.bool false), 1, 1) := by kernel_rfl
theorem Oob.formN {E : TypeId} {w : World} {base n : Nat} {v : Value} {l : List Bool} (h : Oob E w base v l) (hn : l.length = n) (hpos : 0 < n) :
    ∃ g c, v = .slice (some ⟨g, 0, none⟩) n c ∧ base ≤ g ∧ g < w.heap.size := by
  subst hn
  obtain ⟨A, c, rfl, hb, hf⟩ := h.form
  rcases hf with rfl | ⟨g, rfl, hle, hlt⟩
  · obtain ⟨b, o, e, -⟩ := hb hpos
    cases e
  · exact ⟨g, c, rfl, hle, hlt⟩
theorem Oob.owned {E : TypeId} {w w' : World} {base B : Nat} {v : Value} {l : List Bool} (h : Oob E w base v l) (hg : w.grownBy w' v.ownBlock) (hB : B ≤ base) (hw : base ≤ w.heap.size) : Below B w w' :=
  ⟨hg.os, hg.tape, hg.output, hg.size, fun k hk => hg.block k (by omega) (fun e => by have := (World.ownsRow.lt h k e.symm).1; omega)⟩

set_option maxHeartbeats 12800000 in
theorem law16Order {C : CoP} {T : TrP} (D : Cd16 C T) (w : World) (A B E : Option Addr) (L M : List Bool) (P : List Int) (n m p ca cb ce : Nat) (hn : L.length = n) (hm : M.length = m) (hp : P.length = p) (hL : BoolRow w A L) (hM : BoolRow w B M) (hP : IntRow w E P) (hca : n ≤ ca) (hcb : m ≤ cb) (at_ : Int) (ha1 : -9223372036854775808 ≤ at_) (ha2 : at_ ≤ 9223372036854775807) :
    Calls Try.prog 4 #[.slice A n ca, .slice B m cb, .slice E p ce, .int .i64 at_] w fun e w' => e = .returned (.bool true) ∧ Below w.heap.size w w' := by
  have HAL := Lib.hid (fun W : World => alive16_any D W)
  have HL := Lib.hid hL
  have HM := Lib.hid hM
  have HP := Lib.hid hP
  have HLN := Lib.hid hn
  have HMN := Lib.hid hm
  have HPN := Lib.hid hp
  clear hL hM hP
  go_enter Try.func4, Try.ntmps4
  go_wp2_with fail
  with_reducible refine (HAL.out _).mono ?_
  rintro e v1 ⟨rfl, hb1⟩
  have HB1 := Lib.hid hb1
  clear hb1
  by_cases h2 : 200 < n
  · skip
    have d2 : decide ((200 : Int) < (n : Int)) = true := decide_eq_true (by omega)
    have d2' : decide (200 < n) = true := decide_eq_true (by omega)
    go_wp2_with fail
    go_ret
    exact ⟨rfl, HB1.out⟩
  · skip
    have d2 : decide ((200 : Int) < (n : Int)) = false := decide_eq_false (by omega)
    have d2' : decide (200 < n) = false := decide_eq_false (by omega)
    by_cases h4 : m ≠ n
    · skip
      have d4 : ((m : Int) == (n : Int)) = false := by simp; omega
      have d4' : decide ((m : Int) = (n : Int)) = false := decide_eq_false (by omega)
      have d4'' : (m == n) = false := by simp; omega
      have d4''' : decide (m = n) = false := decide_eq_false (by omega)
      go_wp2_with fail
      go_ret
      exact ⟨rfl, HB1.out⟩
    · skip
      obtain rfl : m = n := by omega
      by_cases h6 : p < m
      · skip
        have d6 : decide ((p : Int) < (m : Int)) = true := decide_eq_true (by omega)
        have d6' : decide (p < m) = true := decide_eq_true (by omega)
        go_wp2_with fail
        go_ret
        exact ⟨rfl, HB1.out⟩
      · skip
        have d6 : decide ((p : Int) < (m : Int)) = false := decide_eq_false (by omega)
        have d6' : decide (p < m) = false := decide_eq_false (by omega)
        by_cases h8 : at_ < 0
        · skip
          have d8 : decide (at_ < 0) = true := decide_eq_true (by omega)
          go_wp2_with fail
          go_ret
          exact ⟨rfl, HB1.out⟩
        · skip
          have d8 : decide (at_ < 0) = false := decide_eq_false (by omega)
          by_cases h10 : (m : Int) ≤ at_
          · skip
            have d10 : decide ((m : Int) ≤ at_) = true := decide_eq_true (by omega)
            go_wp2_with fail
            go_ret
            exact ⟨rfl, HB1.out⟩
          · skip
            have d10 : decide ((m : Int) ≤ at_) = false := decide_eq_false (by omega)
            obtain ⟨i, rfl⟩ : ∃ i : Nat, at_ = (i : Int) := ⟨at_.toNat, by omega⟩
            have hi : i < m := by omega
            have hm200 : m ≤ 200 := by omega
            have hxl : (L.set i false).length = m := by rw [List.length_set]; exact hn
            have hyl : ((L.take i ++ M.drop i).set i true).length = m := by rw [List.length_set, List.length_append, List.length_take, List.length_drop]; omega
            have hless := order_less (L.set i false) ((L.take i ++ M.drop i).set i true) P i (by omega) (by omega) (fun j hj => by
                simp only [List.getD, List.getElem?_set]
                rw [if_neg (by omega), if_neg (by omega), List.getElem?_append_left (by rw [List.length_take]; omega), List.getElem?_take, if_pos hj]) (by simp [List.getD, hn, hi]) (by
                simp only [List.getD, List.getElem?_set, if_true]
                rw [if_pos (by rw [List.length_append, List.length_take, List.length_drop]; omega)]; rfl)
            have hb0 : 0 ≤ (i : Int) := by omega
            have hbm : (i : Int) < (m : Int) := by omega
            obtain ⟨B2, hB2, hat2, hs2⟩ := so_sl_tail B w M HM.out cb (by omega) i (by omega) .i64
            rw [HMN.out] at hs2
            have sl1 : ∀ u, (Instr.slice 45 (.slice A m ca) none (some (.int .i64 (i : Int))) none).run Try.prog u = .ok (.slice A i ca) u := fun u => so_sl_head A m ca i (by omega) .i64 (i : Int) rfl u
            have sl2 : ∀ u, (Instr.slice 45 (.slice B m cb) (some (.int .i64 (i : Int))) none none).run Try.prog u = .ok (.slice B2 (m - i) (cb - i)) u := fun u => hs2 (i : Int) rfl u
            have HTL : Hid (∀ W : World, Below w.heap.size w W → Osb W A L) := Lib.hid fun W hb => (Osb.below HL.out hb)
            have HTI : Hid (∀ W : World, Below w.heap.size w W → Osb W A (L.take i)) := Lib.hid fun W hb => so_bs_take (Osb.below HL.out hb) i
            have HTD : Hid (∀ W : World, Below w.heap.size w W → Osb W B2 (M.drop i)) := Lib.hid fun W hb => Osb.below hB2 hb
            have HLESS := Lib.hid hless
            have HXL := Lib.hid hxl
            have HYL := Lib.hid hyl
            have HI := Lib.hid hi
            have H200 := Lib.hid hm200
            have HPP : Hid (m ≤ p) := Lib.hid (by omega)
            clear hless hxl hyl hB2 hat2 hs2
            go_wp2_with (refine wpList_append_os rfl (.const (.slice none 0 0)) (.tmp 50) 45 rfl v1.heap.size 4 Try.underlying45 infoB1 (.slice none 0 0) [] rfl (Oob.nil_ _ _ _) A L m ca rfl HLN.out.symm (HTL.out _ HB1.out) (by have := HLN.out; have := H200.out; simp only [List.length_nil]; omega) (Nat.le_refl _) ?_)
            intro v' w2 hob hgr
            (try rw [List.nil_append] at hob)
            have HB2 : Hid (Below w.heap.size w w2) := Lib.hid (below_then HB1.out (Oob.owned (Oob.nil_ 4 v1 v1.heap.size) hgr (Nat.le_refl _) (Nat.le_refl _)))
            obtain ⟨gx, cx, rfl, hgx, hgx2⟩ := hob.formN HLN.out (by have := HI.out; omega)
            have HOX := Lib.hid hob
            have HGX : Hid (w.heap.size ≤ gx ∧ gx < w2.heap.size) := Lib.hid ⟨Nat.le_trans HB1.out.size hgx, hgx2⟩
            clear hob hgr hgx hgx2 HB1
            go_upto_region 5 with fail
            refine wp_region_noPanic ?_
            refine wp_region_held_drew (S := fun V => Below w2.heap.size w2 V) (by kernel_rfl) (by exact (Below.refl _ _).drew) (fun hS => ?_)
            refine' take_at 0 rfl (by kernel_rfl) (by kernel_rfl) (by kernel_rfl) (fun _ _ _ h => h) (by rfl) hS ?_ ?_ ?_
            rotate_left 2
            · intro W hSW; go_simp; try with_reducible rfl
            · simp only [List.set_cons_succ, List.set_cons_zero]; rfl
            refine' take_at 1 rfl (by kernel_rfl) (by kernel_rfl) (by kernel_rfl) (fun _ _ _ h => h) (by rfl) hS ?_ ?_ ?_
            rotate_left 2
            · intro W hSW; go_simp; try with_reducible rfl
            · simp only [List.set_cons_succ, List.set_cons_zero]; rfl
            refine' take_at 2 rfl (by kernel_rfl) (by kernel_rfl) (by kernel_rfl) (fun _ _ _ h => h) (by rfl) hS ?_ ?_ ?_
            rotate_left 2
            · intro W hSW; go_simp; try with_reducible rfl
            · simp only [List.set_cons_succ, List.set_cons_zero]; rfl
            refine' take_at 4 rfl (by kernel_rfl) (by kernel_rfl) (by kernel_rfl) (fun _ _ _ h => h) (by rfl) hS ?_ ?_ ?_
            rotate_left 2
            · intro W hSW; go_simp; try with_reducible rfl
            · simp only [List.set_cons_succ, List.set_cons_zero]; rfl
            refine' take_at 5 rfl (by kernel_rfl) (by kernel_rfl) (by kernel_rfl) (fun _ _ _ h => h) (by rfl) hS ?_ ?_ ?_
            rotate_left 2
            · intro W hSW; go_simp; try with_reducible rfl
            · simp only [List.set_cons_succ, List.set_cons_zero]; rfl
            refine' take_at 6 rfl (by kernel_rfl) (by kernel_rfl) (by kernel_rfl) (fun _ _ _ h => h) (by rfl) hS ?_ ?_ ?_
            rotate_left 2
            · intro W hSW; go_simp; try with_reducible rfl
            · simp only [List.set_cons_succ, List.set_cons_zero]; rfl
            refine call_at 3 rfl (by kernel_rfl) (by rfl) (fun K hK => ?_)
            refine wp_append_os (ops := #[]) rfl (.const (.slice none 0 0)) (.tmp 54) 45 rfl w2.heap.size 4 Try.underlying45 infoB1 (.slice none 0 0) [] rfl (Oob.nil_ _ _ _) A (L.take i) i ca rfl (by rw [List.length_take, HLN.out]; have := HI.out; omega) (HTI.out _ HB2.out.drew) (by have := HLN.out; have := H200.out; simp only [List.length_nil, List.length_take]; omega) (Nat.le_refl _) ?_
            intro va wa hoa hga
            (try rw [List.nil_append] at hoa)
            have kA : Below w2.heap.size w2 wa := below_then (Below.refl _ _).drew (Oob.owned (Oob.nil_ 4 w2.drew w2.drew.heap.size) hga (Nat.le_refl _) (Nat.le_refl _))
            obtain ⟨Aa, caa, rfl, -, -⟩ := hoa.form
            rw [show (L.take i).length = i by rw [List.length_take, HLN.out]; have := HI.out; omega] at hoa ⊢
            have HOA := Lib.hid hoa
            clear hoa hga hS
            refine hK.out _ _ (by exact kA) (fun hS => ?_)
            clear hK K
            refine call_at 7 rfl (by kernel_rfl) (by rfl) (fun K hK => ?_)
            refine wp_append_os (ops := #[]) rfl (.tmp 55) (.tmp 58) 45 rfl w2.heap.size 4 Try.underlying45 infoB1 (.slice Aa i caa) (L.take i) rfl HOA.out B2 (M.drop i) (m - i) (cb - i) rfl (by rw [List.length_drop, HMN.out]) (HTD.out _ (below_then HB2.out kA)) (by have := HLN.out; have := HMN.out; have := H200.out; simp only [List.length_take, List.length_drop]; omega) kA.size ?_
            intro vb wb hob hgb
            have kB : Below w2.heap.size w2 wb := kA.trans (Oob.owned HOA.out hgb (Nat.le_refl _) kA.size)
            obtain ⟨gy, cy, rfl, hgy, hgy2⟩ := hob.formN (n := m) (by rw [List.length_append, List.length_take, List.length_drop, HLN.out, HMN.out]; have := HI.out; omega) (by have := HI.out; omega)
            have HOY := Lib.hid hob
            have HGY : Hid (w2.heap.size ≤ gy ∧ gy < wb.heap.size) := Lib.hid ⟨hgy, hgy2⟩
            clear hob hgb hgy hgy2 hS HOA
            refine hK.out _ _ (by exact kB) (fun hS => ?_)
            clear hK K
            refine' take_at 8 rfl (by kernel_rfl) (by kernel_rfl) (by kernel_rfl) (fun _ _ _ h => h) (by rfl) hS ?_ ?_ ?_
            rotate_left 2
            · intro W hSW; go_simp; try with_reducible rfl
            · rfl
            refine wpAnyH_done (by kernel_rfl) ?_ _
            refine NoPanic.normal ?_
            clear hS
            (try simp only [Act.put])
            have HOX3 := Lib.hid (HOX.out.below kB)
            have HB3 := Lib.hid (below_then HB2.out kB)
            have HGY3 : Hid (gx ≠ gy ∧ w.heap.size ≤ gy) := Lib.hid (by have := HGX.out; have := HGY.out; have := HB2.out.size; omega)
            clear kA kB HOX HB2 HGY sl1 sl2 HTL HTI HTD
            -- x[at] = false, y[at] = true
            have HSX : Hid (Oob 4 (wb.setCell ⟨gx, i, none⟩ (.bool false)) w2.heap.size (.slice (some ⟨gy, 0, none⟩) m cy) (L.take i ++ M.drop i) ∧ Oob 4 (wb.setCell ⟨gx, i, none⟩ (.bool false)) v1.heap.size (.slice (some ⟨gx, 0, none⟩) m cx) (L.set i false) ∧ Below w.heap.size w (wb.setCell ⟨gx, i, none⟩ (.bool false))) := Lib.hid ⟨by
              have h := HOY.out
              refine ⟨h.1, ?_⟩
              rcases h.2 with hn | ⟨g', cap, cur, e, hb', hg, rest⟩
              · exact .inl hn
              · refine .inr ⟨g', cap, cur, e, hb', ?_, rest⟩
                injection e with e1 e2 e3
                injection e1 with e1
                injection e1 with e1
                subst e1
                rw [Below.heap_setCell _ _ _ _ (fun e => HGY3.out.1 e.symm)]
                exact hg, HOX3.out.set_ i false, HB3.out.setCell (p := ⟨gx, i, none⟩) HGX.out.1 _⟩
            have cx0 : wb.cell? ⟨gx, i, none⟩ = some (.bool (L.getD i false)) := by
              obtain ⟨b', o', e', hc'⟩ := (Oob.bs HOX3.out) (by rw [HLN.out]; have := HI.out; omega)
              injection e' with e'
              injection e' with e1 e2
              subst e1
              subst e2
              have := hc' i (by rw [HLN.out]; exact HI.out)
              rwa [Nat.zero_add] at this
            have fx0 := Oob.frozen HOX3.out i
            generalize L.getD i false = old at *
            go_upto_region 7 with fail
            obtain ⟨w4, hw4⟩ : ∃ V, wb.setCell ⟨gx, i, none⟩ (.bool false) = V := ⟨_, rfl⟩
            rw [hw4] at HSX
            rw [hw4]
            clear hw4 cx0 fx0 HOX3 HOY HB3
            have HSY : Hid (Oob 4 (w4.setCell ⟨gy, i, none⟩ (.bool true)) v1.heap.size (.slice (some ⟨gx, 0, none⟩) m cx) (L.set i false) ∧ Oob 4 (w4.setCell ⟨gy, i, none⟩ (.bool true)) w2.heap.size (.slice (some ⟨gy, 0, none⟩) m cy) ((L.take i ++ M.drop i).set i true) ∧ Below w.heap.size w (w4.setCell ⟨gy, i, none⟩ (.bool true))) := Lib.hid ⟨by
              have h := HSX.out.2.1
              refine ⟨h.1, ?_⟩
              rcases h.2 with hn | ⟨g', cap, cur, e, hb', hg, rest⟩
              · exact .inl hn
              · refine .inr ⟨g', cap, cur, e, hb', ?_, rest⟩
                injection e with e1 e2 e3
                injection e1 with e1
                injection e1 with e1
                subst e1
                rw [Below.heap_setCell _ _ _ _ (fun e => HGY3.out.1 e)]
                exact hg, HSX.out.1.set_ i true, HSX.out.2.2.setCell (p := ⟨gy, i, none⟩) HGY3.out.2 _⟩
            have cy0 : w4.cell? ⟨gy, i, none⟩ = some (.bool ((L.take i ++ M.drop i).getD i false)) := by
              have hl : (L.take i ++ M.drop i).length = m := by have := HYL.out; rwa [List.length_set] at this
              obtain ⟨b', o', e', hc'⟩ := (Oob.bs HSX.out.1) (by rw [hl]; have := HI.out; omega)
              injection e' with e'
              injection e' with e1 e2
              subst e1
              subst e2
              have := hc' i (by rw [hl]; exact HI.out)
              rwa [Nat.zero_add] at this
            have fy0 := Oob.frozen HSX.out.1 i
            generalize (L.take i ++ M.drop i).getD i false = old2 at *
            go_upto_region 8 with fail
            obtain ⟨w5, hw5⟩ : ∃ V, w4.setCell ⟨gy, i, none⟩ (.bool true) = V := ⟨_, rfl⟩
            rw [hw5] at HSY
            rw [hw5]
            clear hw5 cy0 fy0 HSX
            obtain ⟨xs, hxs⟩ : ∃ l, L.set i false = l := ⟨_, rfl⟩
            obtain ⟨ys, hys⟩ : ∃ l, (L.take i ++ M.drop i).set i true = l := ⟨_, rfl⟩
            rw [hxs] at HSY HLESS HXL
            rw [hys] at HSY HLESS HYL
            have HX5 : Hid (BoolRow w5 (some ⟨gx, 0, none⟩) xs) := Lib.hid (Oob.bs HSY.out.1)
            have HY5 : Hid (BoolRow w5 (some ⟨gy, 0, none⟩) ys) := Lib.hid (Oob.bs HSY.out.2.1)
            have HB5 : Hid (Below w.heap.size w w5) := Lib.hid HSY.out.2.2
            clear hxs hys HSY
            have okx : (Cd.new.puts (zipB xs P)).ok := Cd.puts_ok _ Cd.new_ok
            have oky : (Cd.new.puts (zipB ys P)).ok := Cd.puts_ok _ Cd.new_ok
            have kx := puts_k (zipB xs P) Cd.new
            have ky := puts_k (zipB ys P) Cd.new
            rw [zipB_len, HXL.out] at kx
            rw [zipB_len, HYL.out] at ky
            have HBX := Lib.hid (bits16_any D (some ⟨gx, 0, none⟩) E xs P m p cx ce HXL.out HPN.out HPP.out (by have := H200.out; omega) w5 HX5.out (HP.out.below HB5.out))
            have HBY : Hid (∀ W : World, Below w5.heap.size w5 W → Calls Try.prog 22 #[.slice (some ⟨gy, 0, none⟩) m cy, .slice E p ce] W (RetOb 5 W (Cd.new.puts (zipB ys P)).out)) := Lib.hid fun W hb => bits16_any D (some ⟨gy, 0, none⟩) E ys P m p cy ce HYL.out HPN.out HPP.out (by have := H200.out; omega) W (HY5.out.below hb) (HP.out.below (below_then HB5.out hb))
            have e0 : Cd.new.k = 0 := rfl
            generalize Cd.new.puts (zipB xs P) = cX at *
            generalize Cd.new.puts (zipB ys P) = cY at *
            obtain ⟨N, hN1, hN2, hN3⟩ : ∃ N, 4 + cX.k ≤ N ∧ 4 + cY.k ≤ N ∧ (N = 4 + cX.k ∨ N = 4 + cY.k) := by
              rcases Nat.le_total cX.k cY.k with h | h
              · exact ⟨4 + cY.k, by omega, by omega, .inr rfl⟩
              · exact ⟨4 + cX.k, by omega, by omega, .inl rfl⟩
            have HLB := Lib.hid (order_bytes okx oky HLESS.out hN1 hN2)
            have lx := Cd.out_len cX
            have ly := Cd.out_len cY
            obtain ⟨ox, hox⟩ : ∃ l, cX.out = l := ⟨_, rfl⟩
            obtain ⟨oy, hoy⟩ : ∃ l, cY.out = l := ⟨_, rfl⟩
            rw [hox] at HBX HLB lx
            rw [hoy] at HBY HLB ly
            obtain ⟨na, hna⟩ : ∃ x, 4 + cX.k = x := ⟨_, rfl⟩
            obtain ⟨nb, hnb⟩ : ∃ x, 4 + cY.k = x := ⟨_, rfl⟩
            rw [hna] at lx hN1 hN3
            rw [hnb] at ly hN2 hN3
            have hm2 := H200.out
            have HNS : Hid (na ≤ N ∧ nb ≤ N ∧ (N = na ∨ N = nb) ∧ N ≤ 300) := Lib.hid ⟨hN1, hN2, hN3, by omega⟩
            have HLX := Lib.hid lx
            have HLY := Lib.hid ly
            clear okx oky kx ky e0 hox hoy hna hnb hN1 hN2 hN3 lx ly hm2 HLESS
            go_wp2_with fail
            with_reducible refine HBX.out.mono ?_
            rintro e w6 ⟨x6, rfl, ho6, hb6⟩
            obtain ⟨Aa, cA, rfl, hbsA⟩ := ho6.form16 HLX.out
            have HA6 := Lib.hid hbsA
            have HY6 := Lib.hid (HBY.out w6 hb6)
            have HB6 := Lib.hid (below_then HB5.out hb6)
            clear ho6 hb6 hbsA HBX HBY HX5 HY5 HB5
            go_wp2_with fail
            with_reducible refine HY6.out.mono ?_
            rintro e w7 ⟨x7, rfl, ho7, hb7⟩
            obtain ⟨Bb, cB, rfl, hbsB⟩ := ho7.form16 HLY.out
            have HA7 := Lib.hid (HA6.out.below hb7)
            have HB7 := Lib.hid hbsB
            have HBL7 := Lib.hid (below_then HB6.out hb7)
            clear ho7 hb7 hbsB HA6 HY6 HB6
            go_wp2_with fail
            go_loopw [14] (fun i_ wr => wr = w7 ∧ ∃ j : Nat, j ≤ N ∧ i_ = .int .i64 (j : Int) ∧ Hid ((padO N ox).take j = (padO N oy).take j)) (fun i_ _ => N - (intOf i_).toNat)
            case atStart => exact ⟨rfl, 0, by omega, rfl, Lib.hid rfl⟩
            case round =>
              obtain ⟨rfl, j, hj, rfl, HE⟩ := hrel
              have hns := HNS.out
              by_cases hjN : j < N
              · have n1 : IntKind.i64.wrap ((j : Int) + 1) = (j : Int) + 1 := by rw [IntKind.wrap_i64]; omega
                have b1 : 0 ≤ (j : Int) := by omega
                have hfst := bg_first (l := padO N ox) (m := padO N oy) (by rw [padO_len (by rw [HLX.out]; exact hns.1), padO_len (by rw [HLY.out]; exact hns.2.1)]) (i := j) (by rw [padO_len (by rw [HLX.out]; exact hns.1)]; exact hjN) HE.out HLB.out
                have hnx : (padO N ox).getD j 0 = (padO N oy).getD j 0 → (padO N ox).take (j + 1) = (padO N oy).take (j + 1) := fun e => by
                  have p1 : j < (padO N ox).length := by rw [padO_len (by rw [HLX.out]; exact hns.1)]; exact hjN
                  have p2 : j < (padO N oy).length := by rw [padO_len (by rw [HLY.out]; exact hns.2.1)]; exact hjN
                  rw [List.take_succ_eq_append_getElem p1, List.take_succ_eq_append_getElem p2, HE.out]
                  congr 2
                  simpa [List.getD, p1, p2] using e
                rw [padO_get, padO_get] at hfst hnx
                have HFST := Lib.hid hfst
                have HNX := Lib.hid hnx
                have HJN := Lib.hid hjN
                clear hfst hnx
                by_cases hja : j < na
                · by_cases hjb : j < nb
                  · have da : decide ((j : Int) < (na : Int)) = true := decide_eq_true (by omega)
                    have da' : decide (j < na) = true := decide_eq_true (by omega)
                    have db : decide ((j : Int) < (nb : Int)) = true := decide_eq_true (by omega)
                    have db' : decide (j < nb) = true := decide_eq_true (by omega)
                    obtain ⟨ba, oa, rfl, hca⟩ := HA7.out (by rw [HLX.out]; omega)
                    have ca := hca j (by rw [HLX.out]; omega)
                    obtain ⟨xa, hxa⟩ : ∃ x, (ox.getD j 0).toNat = x := ⟨_, rfl⟩
                    have xal : xa < 256 := by rw [← hxa]; exact (ox.getD j 0).toNat_lt
                    rw [hxa] at ca
                    have wa : IntKind.i64.wrap (xa : Int) = (xa : Int) := by rw [IntKind.wrap_i64]; omega
                    clear hca
                    obtain ⟨bb, ob, rfl, hcb⟩ := HB7.out (by rw [HLY.out]; omega)
                    have cb := hcb j (by rw [HLY.out]; omega)
                    obtain ⟨xb, hxb⟩ : ∃ x, (oy.getD j 0).toNat = x := ⟨_, rfl⟩
                    have xbl : xb < 256 := by rw [← hxb]; exact (oy.getD j 0).toNat_lt
                    rw [hxb] at cb
                    have wb : IntKind.i64.wrap (xb : Int) = (xb : Int) := by rw [IntKind.wrap_i64]; omega
                    clear hcb
                    by_cases hxy : xa = xb
                    · have HN2 : Hid ((padO N ox).take (j + 1) = (padO N oy).take (j + 1)) := Lib.hid (HNX.out (UInt8.toNat_inj.1 (by rw [hxa, hxb]; exact hxy)))
                      subst hxy
                      clear hxa hxb HFST HNX HE hns
                      go_wp2_with fail
                      go_roundw
                      case rel => exact ⟨by first | trivial | rfl, j + 1, by have := HJN.out; omega, by go_num, HN2⟩
                      case measure => have := HJN.out; simp [intOf]; omega
                    · have hlt : xa < xb := by
                        have := HFST.out (fun e => hxy (by rw [← hxa, ← hxb, e]))
                        rwa [hxa, hxb] at this
                      have e1 : decide ((xa : Int) < (xb : Int)) = true := decide_eq_true (by omega)
                      have e2 : ((xa : Int) == (xb : Int)) = false := by simp; omega
                      have e3 : decide ((xa : Int) = (xb : Int)) = false := decide_eq_false (by omega)
                      have e4 : decide (xa < xb) = true := decide_eq_true hlt
                      have e5 : decide (xa = xb) = false := decide_eq_false hxy
                      have e6 : (xa == xb) = false := by simpa using hxy
                      clear hxa hxb HFST HNX HE hns
                      go_wp2_with fail
                      go_ret
                      exact ⟨rfl, HBL7.out⟩
                  · have da : decide ((j : Int) < (na : Int)) = true := decide_eq_true (by omega)
                    have da' : decide (j < na) = true := decide_eq_true (by omega)
                    have db : decide ((j : Int) < (nb : Int)) = false := decide_eq_false (by omega)
                    have db' : decide (j < nb) = false := decide_eq_false (by omega)
                    obtain ⟨ba, oa, rfl, hca⟩ := HA7.out (by rw [HLX.out]; omega)
                    have ca := hca j (by rw [HLX.out]; omega)
                    obtain ⟨xa, hxa⟩ : ∃ x, (ox.getD j 0).toNat = x := ⟨_, rfl⟩
                    have xal : xa < 256 := by rw [← hxa]; exact (ox.getD j 0).toNat_lt
                    rw [hxa] at ca
                    have wa : IntKind.i64.wrap (xa : Int) = (xa : Int) := by rw [IntKind.wrap_i64]; omega
                    clear hca
                    have hxb : (oy.getD j 0).toNat = 0 := by rw [List.getD_eq_getElem?_getD, List.getElem?_eq_none (by rw [HLY.out]; omega)]; rfl
                    by_cases hxy : xa = 0
                    · have HN2 : Hid ((padO N ox).take (j + 1) = (padO N oy).take (j + 1)) := Lib.hid (HNX.out (UInt8.toNat_inj.1 (by rw [hxa, hxb]; exact hxy)))
                      subst hxy
                      clear hxa hxb HFST HNX HE hns
                      go_wp2_with fail
                      go_roundw
                      case rel => exact ⟨by first | trivial | rfl, j + 1, by have := HJN.out; omega, by go_num, HN2⟩
                      case measure => have := HJN.out; simp [intOf]; omega
                    · have hlt : xa < 0 := by
                        have := HFST.out (fun e => hxy (by rw [← hxa, ← hxb, e]))
                        rwa [hxa, hxb] at this
                      omega
                · have hjb : j < nb := by omega
                  have da : decide ((j : Int) < (na : Int)) = false := decide_eq_false (by omega)
                  have da' : decide (j < na) = false := decide_eq_false (by omega)
                  have db : decide ((j : Int) < (nb : Int)) = true := decide_eq_true (by omega)
                  have db' : decide (j < nb) = true := decide_eq_true (by omega)
                  have hxa : (ox.getD j 0).toNat = 0 := by rw [List.getD_eq_getElem?_getD, List.getElem?_eq_none (by rw [HLX.out]; omega)]; rfl
                  obtain ⟨bb, ob, rfl, hcb⟩ := HB7.out (by rw [HLY.out]; omega)
                  have cb := hcb j (by rw [HLY.out]; omega)
                  obtain ⟨xb, hxb⟩ : ∃ x, (oy.getD j 0).toNat = x := ⟨_, rfl⟩
                  have xbl : xb < 256 := by rw [← hxb]; exact (oy.getD j 0).toNat_lt
                  rw [hxb] at cb
                  have wb : IntKind.i64.wrap (xb : Int) = (xb : Int) := by rw [IntKind.wrap_i64]; omega
                  clear hcb
                  by_cases hxy : 0 = xb
                  · have HN2 : Hid ((padO N ox).take (j + 1) = (padO N oy).take (j + 1)) := Lib.hid (HNX.out (UInt8.toNat_inj.1 (by rw [hxa, hxb]; exact hxy)))
                    subst hxy
                    clear hxa hxb HFST HNX HE hns
                    go_wp2_with fail
                    go_roundw
                    case rel => exact ⟨by first | trivial | rfl, j + 1, by have := HJN.out; omega, by go_num, HN2⟩
                    case measure => have := HJN.out; simp [intOf]; omega
                  · have hlt : 0 < xb := by
                      have := HFST.out (fun e => hxy (by rw [← hxa, ← hxb, e]))
                      rwa [hxa, hxb] at this
                    have e1 : decide ((0 : Int) < (xb : Int)) = true := decide_eq_true (by omega)
                    have e2 : ((0 : Int) == (xb : Int)) = false := by simp; omega
                    have e3 : decide ((0 : Int) = (xb : Int)) = false := decide_eq_false (by omega)
                    have e7 : ((xb : Int) == 0) = false := by simp; omega
                    have e8 : decide ((xb : Int) = 0) = false := decide_eq_false (by omega)
                    have e9 : (xb == 0) = false := by simp; omega
                    have e10 : decide (xb = 0) = false := decide_eq_false (by omega)
                    have e11 : decide (0 < xb) = true := decide_eq_true hlt
                    clear hxa hxb HFST HNX HE hns
                    go_wp2_with fail
                    go_ret
                    exact ⟨rfl, HBL7.out⟩
              · have hj2 : j = N := by omega
                subst hj2
                have h := HE.out
                rw [List.take_of_length_le (by rw [padO_len (by rw [HLX.out]; exact hns.1)]; exact Nat.le_refl _), List.take_of_length_le (by rw [padO_len (by rw [HLY.out]; exact hns.2.1)]; exact Nat.le_refl _)] at h
                have := HLB.out
                rw [h] at this
                omega
end Go.Proofs.Ytlbkpmcccipfhaa

