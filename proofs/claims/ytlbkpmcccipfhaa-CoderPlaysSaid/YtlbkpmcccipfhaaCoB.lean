/- The landed coder's take. Written by wip/tools/mk_coder16.py. -/
import Derived.Test.YtlbkpmcccipfhaaCoA
import Derived.Test.YtlbkpmcccipfhaaGheld
namespace Go.Proofs.Ytlbkpmcccipfhaa
open Go.RowKit
set_option linter.unusedVariables false
set_option maxRecDepth 100000

theorem bgB_more (n x y : Nat) (hy : y < 256) : bgB (n + 1) (x * 256 + y) = bgB n x ++ [UInt8.ofNat y] := by
  rw [bgB, leB, List.reverse_cons, show (x * 256 + y) / 256 = x by omega, ← bgB]
  congr 2
  apply UInt8.toNat_inj.1
  simp
theorem row_one16 {W : World} {g : Nat} {y : UInt8} {fr : Nat × Nat} (h : W.heap[g]? = some (.cells #[.int .u8 (y.toNat : Int)] 5 fr)) : Bs W (some ⟨g, 0, none⟩) [y] := fun _ => ⟨g, 0, rfl, fun j hj => by
  have : j = 0 := by simp at hj; omega
  subst this
  rw [Nat.zero_add, cell_of_row _ _ _ _ _ _ h]
  rfl⟩
theorem wp_run16 {P : Program} {o : Oper} {a : Act} {w w' : World} {K : Act → World → Prop} {Q : Exit → Act → World → Prop} (v : Value) (hrun : (execOp (Act.eval a) o).run P w = .ok (.value v) w') (h : K (a.put o.dst v) w') : Oper.wp P o a w K Q := by
  unfold Oper.wp
  rw [hrun]
  exact h
theorem wp_append16 {o : Oper} {a : Act} {W : World} {K : Act → World → Prop} {Q : Exit → Act → World → Prop} (s x : Operand) (ho : o.op = .call { callee := .builtin .append, args := #[s, x], argTypes := #[38, 38] }) (hty : o.type = 38)
    {base n c q k : Nat} {A B : Option Addr} {l m : List UInt8} (hs : a.eval s = .slice A n c) (hx : a.eval x = .slice B q k) (hn : l.length = n) (hq : m.length = q) (h2 : Ob 5 W base (.slice A l.length c) l) (hbase : base ≤ W.heap.size) (hm : Bs W B m) (hlen : n + q ≤ 140737488355328)
    (h : ∀ A' c' w', Ob 5 w' base (.slice A' (n + q) c') (l ++ m) → W.grownBy w' (A.map (·.block)) → (∀ j, At A' j → At A j ∨ W.heap.size ≤ j) → K (a.put o.dst (.slice A' (n + q) c')) w') : Oper.wp Try.prog o a W K Q := by
  subst hn hq
  obtain ⟨A', c', w', hr, h4, h5, h6⟩ := run_append_loc (P := Try.prog) W base 38 38 5 Try.underlying38 info5 h2 hbase (k := k) hm hlen
  unfold Oper.wp execOp
  simp only [ho, hty, resolve, invoke, builtin, Sem.run_bind, Sem.run_pure, Result.andThen_ok, List.map_toArray, List.map_cons, List.map_nil, hs, hx, hr]
  exact h A' c' w' h4 h5 h6

/-- a coder's block, by a state -/
def PCs (W : World) (g : Nat) (A : Option Addr) (cap : Nat) (c : Cd) : Prop := PCr W g A cap (bgB c.k (c.low / 4294967296)) (c.low % 4294967296) (4294967295 - c.w)
def TkCut (W : World) (g : Nat) (A : Option Addr) (cap : Nat) (l : List UInt8) (z ls : Nat) (w3 : World) : Prop := PCr w3 g A cap l z ls ∧ Only (fun j => j = g ∨ At A j) W w3
/-- what a call on it leaves -/
def PcPost (W : World) (g : Nat) (A : Option Addr) (c' : Cd) (w' : World) : Prop := ∃ A' cap', PCs w' g A' cap' c' ∧ (∀ j, At A' j → At A j ∨ W.heap.size ≤ j) ∧ Only (fun j => j = g ∨ At A j) W w'

set_option maxHeartbeats 3200000 in
theorem pctake_any {W : World} {g : Nat} {A : Option Addr} {cap low k ls : Nat} (h : PCr W g A cap (bgB k (low / 4294967296)) (low % 4294967296) ls) (f wd : Nat) (hf : f < 4294967296) (hw1 : 65536 ≤ wd) (hw2 : wd < 4294967296) (hfit : low + f + wd ≤ 4294967296 * 256 ^ k) (hk : k ≤ 90000) :
    Calls Try.prog 28 #[.pointer (some ⟨g, 0, none⟩), .int .u32 (f : Int), .int .u32 (wd : Int)] W
    fun e w' => e = .returned (.tuple #[]) ∧ PcPost W g A (Cd.str ⟨low + f, wd, k⟩) w' := by
  have HADD := Lib.hid (add32_any (low % 4294967296) f (by omega) hf)
  have hlen0 : (bgB k (low / 4294967296)).length = k := bgB_len _ _
  obtain ⟨N, hN⟩ : ∃ N, (low + f) / 4294967296 = N := ⟨_, rfl⟩
  have hN2 : N < 256 ^ k := by
    rw [← hN]
    refine Nat.div_lt_of_lt_mul ?_
    generalize 4294967296 * 256 ^ k = q at *
    omega
  have hNl : low / 4294967296 ≤ N := by rw [← hN]; exact Nat.div_le_div_right (by omega)
  have HZ1 : Hid (low % 4294967296 + f = (low % 4294967296 + f) / 4294967296 * 4294967296 + (low + f) % 4294967296) := Lib.hid (by omega)
  have HZ2 : Hid (low / 4294967296 + (low % 4294967296 + f) / 4294967296 = N) := Lib.hid (by omega)
  have hz : (low % 4294967296 + f) % 4294967296 = (low + f) % 4294967296 := by omega
  rw [hz] at HADD
  obtain ⟨lo, hlo⟩ : ∃ x, low % 4294967296 = x := ⟨_, rfl⟩
  rw [hlo] at HADD h HZ1 HZ2
  obtain ⟨z, hz2⟩ : ∃ x, (low + f) % 4294967296 = x := ⟨_, rfl⟩
  rw [hz2] at HADD HZ1
  obtain ⟨d, hd⟩ : ∃ x, (lo + f) / 4294967296 = x := ⟨_, rfl⟩
  rw [hd] at HADD HZ1 HZ2
  have hd1 : d ≤ 1 := by omega
  have hzl : z < 4294967296 := by omega
  have HCAR : Hid (d = 1 → ∀ V, PCr V g A cap (bgB k (low / 4294967296)) z ls → Calls Try.prog 38 #[.pointer (some ⟨g, 0, none⟩)] V fun e w' => e = .returned (.tuple #[]) ∧ PCr w' g A cap (bgB k N) z ls ∧ Only (At A) V w') := Lib.hid fun hd V hV => by
    have hb : bgN (bgB k (low / 4294967296)) = low / 4294967296 := bgN_bgB (Nat.lt_of_le_of_lt hNl hN2)
    have e := HZ2.out
    have := pccarry_any hV (by rw [hb, hlen0]; omega) (by rw [hlen0]; omega)
    rw [hb, hlen0, show low / 4294967296 + 1 = N by omega] at this
    exact this
  have HSAME : Hid (d = 0 → bgB k (low / 4294967296) = bgB k N) := Lib.hid fun hd => by have e := HZ2.out; rw [show low / 4294967296 = N by omega]
  have hs : Cd.str ⟨low + f, wd, k⟩ = if wd < 16777216 then ⟨(low + f) * 256, wd * 256, k + 1⟩ else ⟨low + f, wd, k⟩ := rfl
  rw [hs]
  obtain ⟨s, hs2⟩ : ∃ s, low + f = s := ⟨_, rfl⟩
  rw [hs2] at hN hz2 ⊢
  obtain ⟨R, hR⟩ : ∃ R : Cd, (if wd < 16777216 then ⟨s * 256, wd * 256, k + 1⟩ else ⟨s, wd, k⟩) = R := ⟨_, rfl⟩
  rw [hR]
  have HRR := Lib.hid hR
  have HSN := Lib.hid hN
  have HSZ := Lib.hid hz2
  have c1 := h.c1
  have f1 := h.fz 1
  have HP1 := Lib.hid (h.set1 z)
  have HO1 : Hid (Only (fun j => j = g ∨ At A j) W (W.setCell ⟨g, 1, none⟩ (.int .u32 (z : Int)))) := Lib.hid ((Only.refl (fun j => j = g ∨ At A j) W).setCell (p := ⟨g, 1, none⟩) (.inl (.inl rfl)) _)
  have HAT : Hid (∀ j, At A j → j < W.heap.size) := Lib.hid fun j hj => h.at_ hj
  have HGL : Hid (g < W.heap.size) := Lib.hid h.lt
  obtain ⟨l0, hl0⟩ : ∃ x, bgB k (low / 4294967296) = x := ⟨_, rfl⟩
  rw [hl0] at HP1 HCAR HSAME
  obtain ⟨lN, hlN⟩ : ∃ x, bgB k N = x := ⟨_, rfl⟩
  rw [hlN] at HCAR HSAME
  have HLNN := Lib.hid hlN
  have hlnk : lN.length = k := by rw [← hlN]; exact bgB_len _ _
  have HLN := Lib.hid hlnk
  have HKL := Lib.hid hk
  have HN2 := Lib.hid hN2
  clear h hN hN2 hNl hz hz2 hs hs2 hl0 hlN hlnk hlen0 hfit hk HZ1 HZ2 hlo hd hf hR
  go_enter Try.func28, Try.ntmps28
  go_upto_region 0 with fail
  go_wp2_with fail
  with_reducible refine (HADD.out _).mono ?_
  rintro e w' ⟨rfl, rfl⟩
  go_upto_region 2 with fail
  obtain ⟨W1, hW1⟩ : ∃ W1, w'.setCell ⟨g, 1, none⟩ (.int .u32 (z : Int)) = W1 := ⟨_, rfl⟩
  rw [hW1] at HP1 HO1
  (try rw [hW1])
  clear hW1 c1 f1 HADD
  go_upto_if 22 with fail
  go_cut [] (TkCut w' g A cap lN z ls)
  case first =>
    rcases (show d = 0 ∨ d = 1 by omega) with hd0 | hd0
    · have hsame := HSAME.out hd0
      rw [hsame] at HP1
      subst hd0
      go_wp2_with fail
      go_meet
      exact ⟨HP1.out, HO1.out⟩
    · have HC := Lib.hid (HCAR.out hd0 W1 HP1.out)
      subst hd0
      go_wp2_with fail
      with_reducible refine HC.out.mono ?_
      rintro e w3 ⟨rfl, hp3, ho3⟩
      have HP3 := Lib.hid hp3
      have HO3 := Lib.hid (HO1.out.trans (ho3.mono (fun k _ hk => .inr hk)))
      clear hp3 ho3 HC
      go_wp2_with fail
      go_meet
      exact ⟨HP3.out, HO3.out⟩
  case rest =>
    obtain ⟨W3, rfl⟩ : ∃ W3 : World, W3 = wc := ⟨_, rfl⟩
    obtain ⟨hc3, ho3⟩ := hcut
    have HC3 := Lib.hid hc3
    have HO3 := Lib.hid ho3
    clear hc3 ho3 HP1 HO1 HSAME HCAR hd1
    by_cases hl : wd < 16777216
    · have HRE : Hid (R = ⟨s * 256, wd * 256, k + 1⟩) := Lib.hid (by have := HRR.out; rw [if_pos hl] at this; exact this.symm)
      have d0 : decide ((wd : Int) < 16777216) = true := decide_eq_true (by omega)
      have d0' : decide (wd < 16777216) = true := decide_eq_true hl
      obtain ⟨x, hx⟩ : ∃ x, z / 16777216 = x := ⟨_, rfl⟩
      have hxl : x < 256 := by omega
      obtain ⟨y, hy⟩ : ∃ y, z * 256 % 4294967296 = y := ⟨_, rfl⟩
      obtain ⟨v, hv⟩ : ∃ v, wd * 256 = v := ⟨_, rfl⟩
      obtain ⟨u, hu⟩ : ∃ u, 4294967295 - v = u := ⟨_, rfl⟩
      have t1 : (z : Int) / 16777216 = (x : Int) := by omega
      have t2 : IntKind.u32.wrap (x : Int) = (x : Int) := by rw [IntKind.wrap_u32]; omega
      have t3 : IntKind.u8.wrap (x : Int) = (x : Int) := by rw [IntKind.wrap_u8]; omega
      have t4 : IntKind.u32.wrap ((z : Int) * 256) = (y : Int) := by rw [IntKind.wrap_u32]; omega
      have t5 : IntKind.u32.wrap ((wd : Int) * 256) = (v : Int) := by rw [IntKind.wrap_u32]; omega
      have t5' : (wd : Int) * 256 = (v : Int) := by omega
      have t6 : IntKind.u32.wrap (4294967295 - (v : Int)) = (u : Int) := by rw [IntKind.wrap_u32]; omega
      have t6' : 4294967295 - (v : Int) = (u : Int) := by omega
      have HXN : Hid ((UInt8.ofNat x).toNat = x) := Lib.hid (by simp; omega)
      have HROW := Lib.hid HC3.out.row
      rw [HLN.out] at HROW
      have HPOST : Hid (∀ A9 c9 w9, PCr w9 g A9 c9 (lN ++ [UInt8.ofNat x]) y u → PCs w9 g A9 c9 R) := Lib.hid fun A9 c9 w9 hh => by
        rw [HRE.out, hv]
        have e1 : s * 256 / 4294967296 = N * 256 + x := by have := HSN.out; have := HSZ.out; omega
        have e2 : s * 256 % 4294967296 = y := by have := HSN.out; have := HSZ.out; omega
        show PCr w9 g A9 c9 (bgB (k + 1) (s * 256 / 4294967296)) (s * 256 % 4294967296) (4294967295 - v)
        rw [e1, e2, hu, bgB_more _ _ _ hxl, HLNN.out]
        exact hh
      have HYL : Hid (u < 4294967296 ∧ y < 4294967296) := Lib.hid ⟨by omega, by omega⟩
      clear hl hx hy hv hu hxl
      go_upto_region 5 with fail
      refine wp_region_noPanic ?_
      refine wp_region_held_tail (S := fun V => V.heap[g]? = some (.cells #[.slice A k cap, .int .u32 (z : Int), .int .u32 (ls : Int)] 56 (0, 0))) 13 (by kernel_rfl) ⟨by kernel_rfl, by kernel_rfl, by kernel_rfl, by kernel_rfl⟩ (by exact HROW.out) (fun hT inv hS => ?_)
      refine' take_atT 0 hT inv rfl (by omega) (by kernel_rfl) (by kernel_rfl) (fun _ _ _ h => h) (by rfl) hS ?_ ?_ ?_
      rotate_left 2
      · intro W hSW; go_simp; try with_reducible rfl
      · simp only [List.set_cons_succ, List.set_cons_zero]; rfl
      intro inv
      refine' take_atT 1 hT inv rfl (by omega) (by kernel_rfl) (by kernel_rfl) (fun _ _ _ h => h) (by rfl) hS ?_ ?_ ?_
      rotate_left 2
      · intro W hSW; go_simp; try with_reducible rfl
      · simp only [List.set_cons_succ, List.set_cons_zero]; rfl
      intro inv
      refine' take_atT 2 hT inv rfl (by omega) (by kernel_rfl) (by kernel_rfl) (fun _ _ _ h => h) (by rfl) hS ?_ ?_ ?_
      rotate_left 2
      · intro W hSW; go_simp; try with_reducible rfl
      · simp only [List.set_cons_succ, List.set_cons_zero]; rfl
      intro inv
      refine' take_atT 3 hT inv rfl (by omega) (by kernel_rfl) (by kernel_rfl) (fun _ _ _ h => h) (by rfl) hS ?_ ?_ ?_
      rotate_left 2
      · intro W hSW; go_simp; try with_reducible rfl
      · simp only [List.set_cons_succ, List.set_cons_zero]; rfl
      intro inv
      refine' take_atT 4 hT inv rfl (by omega) (by kernel_rfl) (by kernel_rfl) (fun _ _ _ h => h) (by rfl) hS ?_ ?_ ?_
      rotate_left 2
      · intro V hSW; have c0 : V.cell? ⟨g, 0, none⟩ = some (.slice A k cap) := by { rw [cell_of_row _ _ _ _ _ _ hSW]; rfl }; go_simp; try with_reducible rfl
      · simp only [List.set_cons_succ, List.set_cons_zero]; rfl
      intro inv
      refine' take_atT 5 hT inv rfl (by omega) (by kernel_rfl) (by kernel_rfl) (fun _ _ _ h => h) (by rfl) hS ?_ ?_ ?_
      rotate_left 2
      · intro W hSW; go_simp; try with_reducible rfl
      · simp only [List.set_cons_succ, List.set_cons_zero]; rfl
      intro inv
      refine' take_atT 6 hT inv rfl (by omega) (by kernel_rfl) (by kernel_rfl) (fun _ _ _ h => h) (by rfl) hS ?_ ?_ ?_
      rotate_left 2
      · intro W hSW; go_simp; try with_reducible rfl
      · simp only [List.set_cons_succ, List.set_cons_zero]; rfl
      intro inv
      refine' take_atT 7 hT inv rfl (by omega) (by kernel_rfl) (by kernel_rfl) (fun _ _ _ h => h) (by rfl) hS ?_ ?_ ?_
      rotate_left 2
      · intro W hSW; go_simp; try with_reducible rfl
      · simp only [List.set_cons_succ, List.set_cons_zero]; rfl
      intro inv
      refine' take_atT 8 hT inv rfl (by omega) (by kernel_rfl) (by kernel_rfl) (fun _ _ _ h => h) (by rfl) hS ?_ ?_ ?_
      rotate_left 2
      · intro V hSW; have c1 : V.cell? ⟨g, 1, none⟩ = some (.int .u32 (z : Int)) := by { rw [cell_of_row _ _ _ _ _ _ hSW]; rfl }; go_simp; try with_reducible rfl
      · simp only [List.set_cons_succ, List.set_cons_zero]; rfl
      intro inv
      refine' take_atT 9 hT inv rfl (by omega) (by kernel_rfl) (by kernel_rfl) (fun _ _ _ h => h) (by rfl) hS ?_ ?_ ?_
      rotate_left 2
      · intro W hSW; go_simp; try with_reducible rfl
      · simp only [List.set_cons_succ, List.set_cons_zero]; rfl
      intro inv
      refine' take_atT 10 hT inv rfl (by omega) (by kernel_rfl) (by kernel_rfl) (fun _ _ _ h => h) (by rfl) hS ?_ ?_ ?_
      rotate_left 2
      · intro W hSW; go_simp; try with_reducible rfl
      · simp only [List.set_cons_succ, List.set_cons_zero]; rfl
      intro inv
      refine call_atT 11 inv rfl (by omega) (by kernel_rfl) (by rfl) (fun K hK => ?_)
      refine wp_run16 (.slice (some ⟨W3.heap.size, 0, none⟩) 1 1) (w' := W3.drew.alloc (.cells #[.int .u8 (x : Int)] 5)) (by kernel_rfl) ?_
      refine hK.out _ _ (by rw [heap_alloc_old _ _ (by show g < W3.heap.size; exact HC3.out.lt)]; exact HROW.out) (fun inv hS => ?_)
      clear hK K
      refine call_atT 12 inv rfl (by omega) (by kernel_rfl) (by rfl) (fun K hK => ?_)
      refine wp_append16 (.tmp 31) (.tmp 38) rfl rfl rfl rfl HLN.out rfl (HC3.out.ob.below (((Below.refl _ W3).drew).alloc (Nat.le_refl _) _)) (Nat.zero_le _) (row_one16 (y := UInt8.ofNat x) (by rw [HXN.out]; exact heap_alloc_new _ _)) (by have := HKL.out; omega) ?_
      intro A9 c9 w9 ho9 hgr9 hA9
      have HONE : Hid (w9.heap[g]? = some (.cells #[.slice A k cap, .int .u32 (z : Int), .int .u32 (ls : Int)] 56 (0, 0))) := Lib.hid (by
        rw [hgr9.block g (by rw [World.size_alloc]; have := HC3.out.lt; show g < W3.heap.size + 1; omega) (fun e => by
          cases hA : A with
          | none => rw [hA] at e; cases e
          | some b => rw [hA] at e; injection e with e; exact HC3.out.ne ⟨b, hA, e.symm⟩)]
        rw [heap_alloc_old _ _ (by show g < W3.heap.size; exact HC3.out.lt)]
        exact HROW.out)
      have HON : Hid (Only (fun j => j = g ∨ At A j) W3 w9) := Lib.hid ((((Only.refl _ W3).drew).alloc _).grown hgr9 (fun q e => by
        cases hA : A with
        | none => rw [hA] at e; cases e
        | some b => rw [hA] at e; injection e with e; exact .inl (.inr ⟨b, rfl, e⟩)))
      have HOB9 := Lib.hid ho9
      have HA9 := Lib.hid hA9
      clear ho9 hgr9 hA9
      refine hK.out _ _ (by exact HONE.out) (fun inv hS => ?_)
      clear hK K
      refine done_atT (by kernel_rfl) ?_
      simp only [List.drop_succ_cons, List.drop_zero]
      have c0 : w9.cell? ⟨g, 0, none⟩ = some (.slice A k cap) := by rw [cell_of_row _ _ _ _ _ _ HONE.out]; rfl
      have f0 := frozen_row HONE.out 0
      have HP9 : Hid (PCr (w9.setCell ⟨g, 0, none⟩ (.slice A9 (k + 1) c9)) g A9 c9 (lN ++ [UInt8.ofNat x]) z ls) := Lib.hid (by
        have hng : ¬ At A9 g := fun e => by
          rcases HA9.out g e with a | a
          · exact HC3.out.ne a
          · have h1 := HC3.out.lt
            have h2 : W3.heap.size + 1 ≤ g := by simpa using a
            omega
        have hll : (lN ++ [UInt8.ofNat x]).length = k + 1 := by rw [List.length_append, HLN.out]; rfl
        refine ⟨?_, ?_, hng⟩
        · rw [setCell_eq_setRow w9 g 0 _ _ _ _ HONE.out, setRow_heap _ _ _ _ _ _ HONE.out, hll]; rfl
        · rw [hll]
          exact HOB9.out.only (F := fun j => j = g) ((Only.refl (fun j => j = g) w9).setCell (p := ⟨g, 0, none⟩) (.inl rfl) _) (fun q hq e => hng (by rw [← e]; exact hq)))
      have HO9 : Hid (Only (fun j => j = g ∨ At A j) W3 (w9.setCell ⟨g, 0, none⟩ (.slice A9 (k + 1) c9))) := Lib.hid (HON.out.setCell (p := ⟨g, 0, none⟩) (.inl (.inl rfl)) _)
      have HAA : Hid (∀ j, At A9 j → At A j ∨ w'.heap.size ≤ j) := Lib.hid fun j hj => by
        rcases HA9.out j hj with a | a
        · exact .inl a
        · have h1 := HO3.out.size
          have h2 : W3.heap.size + 1 ≤ j := by simpa using a
          exact .inr (by omega)
      clear HON HONE HOB9 HA9 hS hT HROW
      go_wp2_with fail
      (try refine NoPanic.normal ?_)
      obtain ⟨W4, hW4⟩ : ∃ W4, w9.setCell ⟨g, 0, none⟩ (.slice A9 (k + 1) c9) = W4 := ⟨_, rfl⟩
      rw [hW4] at HP9 HO9
      (try rw [hW4])
      clear hW4 c0 f0
      have c1 := HP9.out.c1
      have f1 := HP9.out.fz 1
      have HP10 := Lib.hid (HP9.out.set1 y)
      have c2 := HP10.out.c2
      have f2 := HP10.out.fz 2
      have HP11 := Lib.hid (HP10.out.set2 u)
      have HO11 := Lib.hid ((HO9.out.setCell (p := ⟨g, 1, none⟩) (.inl (.inl rfl)) (.int .u32 (y : Int))).setCell (p := ⟨g, 2, none⟩) (.inl (.inl rfl)) (.int .u32 (u : Int)))
      clear HP9 HP10 HO9
      go_wp2_with fail
      refine bodyPost_end (results_none rfl _ _ _) rfl ?_
      exact ⟨rfl, A9, c9, HPOST.out _ _ _ HP11.out, HAA.out, HO3.out.trans (HO11.out)⟩
    · have HRE : Hid (R = ⟨s, wd, k⟩) := Lib.hid (by have := HRR.out; rw [if_neg hl] at this; exact this.symm)
      have d0 : decide ((wd : Int) < 16777216) = false := decide_eq_false (by omega)
      have d0' : decide (wd < 16777216) = false := decide_eq_false hl
      obtain ⟨u, hu⟩ : ∃ u, 4294967295 - wd = u := ⟨_, rfl⟩
      have t6 : IntKind.u32.wrap (4294967295 - (wd : Int)) = (u : Int) := by rw [IntKind.wrap_u32]; omega
      have t6' : 4294967295 - (wd : Int) = (u : Int) := by omega
      have c2 := HC3.out.c2
      have f2 := HC3.out.fz 2
      have HP11 : Hid (PCs (W3.setCell ⟨g, 2, none⟩ (.int .u32 (u : Int))) g A cap R) := Lib.hid (by
        rw [HRE.out]
        have := HC3.out.set2 u
        show PCr _ g A cap (bgB k (s / 4294967296)) (s % 4294967296) (4294967295 - wd)
        rw [HSN.out, HSZ.out, hu, HLNN.out]
        exact this)
      have HO11 : Hid (Only (fun j => j = g ∨ At A j) w' (W3.setCell ⟨g, 2, none⟩ (.int .u32 (u : Int)))) := Lib.hid (HO3.out.setCell (p := ⟨g, 2, none⟩) (.inl (.inl rfl)) _)
      clear hl hu HC3 HO3
      go_wp2_with fail
      refine bodyPost_end (results_none rfl _ _ _) rfl ?_
      exact ⟨rfl, A, cap, HP11.out, fun j hj => .inl hj, HO11.out⟩
end Go.Proofs.Ytlbkpmcccipfhaa

