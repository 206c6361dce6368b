/- The contract of seal.Get. -/
import Derived.Test.YtddalnmoahpljaaSealGet
import Derived.Test.YtddalnmoahpljaaGbase
import Derived.Deep.DeepMust
namespace Go.Proofs.Ytddalnmoahpljaa
open Go.RowKit
set_option linter.unusedVariables false
set_option maxRecDepth 100000

/-- no record was read -/
def noneR : Ending := .returned (.tuple #[.agg #[.int .i64 0, .int .i64 0, .slice none 0 0], .int .i64 0, .bool false])

/-- what was read of b -/
def GetPost (w : World) (b : List UInt8) (e : Ending) (w' : World) : Prop :=
  Below w.heap.size w w' ∧ ((isR b ∧ ∃ A c, e = .returned (.tuple #[.agg #[.int .i64 ((b.getD 0 0).toNat : Int), .int .i64 (seqR b : Int), .slice A (bodyR b).length c], .int .i64 (sizeR (lenR b) : Nat), .bool true]) ∧ Bs w' A (bodyR b)) ∨ (¬ isR b ∧ e = noneR))

def zeroR : Array Value := #[.int .i64 0, .int .i64 0, .slice none 0 0]

theorem infoR (cs : Array Value) (h : cs.size = 3) : (Try.prog.info? 24).map (·.size) = some cs.size := by rw [h]; kernel_rfl

theorem zeroR_one : zeroR.all (·.oneCell') = true := by simp [zeroR, Value.oneCell']

/-- a struct's block, cell by cell -/
theorem row_cells {W : World} {g : Nat} {x y z : Value} {t : TypeId} (h : W.heap[g]? = some (.cells #[x, y, z] t (0, 0))) :
    (W.cell? ⟨g, 0, none⟩ = some x ∧ W.cell? ⟨g, 1, none⟩ = some y ∧ W.cell? ⟨g, 2, none⟩ = some z) ∧ W.frozen? ⟨g, 0, none⟩ = false ∧ W.frozen? ⟨g, 1, none⟩ = false ∧ W.frozen? ⟨g, 2, none⟩ = false := by
  refine ⟨⟨?_, ?_, ?_⟩, ?_, ?_, ?_⟩
  · rw [cell_of_row _ _ _ _ _ _ h]; rfl
  · rw [cell_of_row _ _ _ _ _ _ h]; rfl
  · rw [cell_of_row _ _ _ _ _ _ h]; rfl
  · simp [World.frozen?, h]
  · simp [World.frozen?, h]
  · simp [World.frozen?, h]

/-- three stores make the row -/
theorem three_row {W : World} {g : Nat} {t : TypeId} {x y z x' y' z' : Value} (h : W.heap[g]? = some (.cells #[x, y, z] t (0, 0))) :
    ((W.setCell ⟨g, 0, none⟩ x').setCell ⟨g, 1, none⟩ y').setCell ⟨g, 2, none⟩ z' = W.setRow g #[x', y', z'] := by
  have h1 := setRow_heap W g #[x, y, z] #[x', y, z] t (0, 0) h
  have h2 := setRow_heap W g #[x, y, z] #[x', y', z] t (0, 0) h
  rw [setCell_eq_setRow W g 0 _ _ _ _ h]
  rw [show (#[x, y, z] : Array Value).setIfInBounds 0 x' = #[x', y, z] from rfl]
  rw [setCell_eq_setRow _ g 1 _ _ _ _ h1, setRow_setRow]
  rw [show (#[x', y, z] : Array Value).setIfInBounds 1 y' = #[x', y', z] from rfl]
  rw [setCell_eq_setRow _ g 2 _ _ _ _ h2, setRow_setRow]
  rfl

theorem step_store_row {P : Program} {ops : Array Oper} {o : Oper} {a : Act} {w : World} {K : Act → World → Prop} {Q : Exit → Act → World → Prop} {E : Prop} (hgd : o.guard = none) (ty : TypeId) (x y : Operand) (ho : o.op = .store ty x y)
    (g : Nat) (cells : Array Value) (hx : a.eval x = .pointer (some ⟨g, 0, none⟩)) (hy : a.eval y = .agg cells)
    (t : TypeId) (old : Array Value) (hg : w.heap[g]? = some (.cells old t (0, 0))) (hi : (P.info? ty).map (·.size) = some cells.size)
    (hold : old.size = cells.size) (h1 : cells.all (·.oneCell') = true)
    (h : K (a.put o.dst undef) (w.setRow g cells)) : if Region.wanted o (yielded ops a.tmps) = true then Oper.wp P o a w K Q else E := by
  have hw : Region.wanted o (yielded ops a.tmps) = true := by simp [Region.wanted, hgd]
  rw [if_pos hw]
  exact wp_store_row ty x y ho g cells hx hy t old hg hi hold h1 h

/-- a struct's cell and two temporaries, at a return -/
theorem results_cell3 {P : Program} {fn : Func} {p u v : Tmp} {ty : TypeId} (h : fn.results = #[.cell p ty, .tmp u, .tmp v]) (tmps : Array Value) (w : World) (g : Nat) (t : TypeId) (cs : Array Value) (fr : Nat × Nat) (d : TypeDesc)
    (hp : tmps.getD p undef = .pointer (some ⟨g, 0, none⟩)) (hg : w.heap[g]? = some (.cells cs t fr))
    (hu : P.underlying ty = some d) (hd : (match d with | .struct _ | .array _ _ => true | _ => false) = true) (hi : (P.info? ty).map (·.size) = some cs.size) :
    (results fn tmps).run P w = .ok (.tuple #[.agg cs, tmps.getD u undef, tmps.getD v undef]) w := by
  have hp' : tmps[p]?.getD undef = .pointer (some ⟨g, 0, none⟩) := by simpa using hp
  simp [results, h, hp', asAddr, run_loadVar_row w g t ty cs fr d hg hu hd hi]

theorem below_setRow {w1 W : World} {B g : Nat} {cs : Array Value} (hB : Below B w1 W) (hg : B ≤ g) : Below B w1 (W.setRow g cs) :=
  ⟨hB.os, hB.tape, hB.output, by simpa using hB.size, fun j hj => by rw [setRow_other _ _ _ _ (by omega)]; exact hB.block j hj⟩

/-- what stands behind the fields were read: the record's cells at g -/
def GetCut (w1 : World) (k q : Int) (body : List UInt8) (v : Value) (wx : World) : Prop :=
  ∃ g A c, v = .pointer (some ⟨g, 0, none⟩) ∧ w1.heap.size ≤ g ∧ wx.cell? ⟨g, 0, none⟩ = some (.int .i64 k) ∧ wx.cell? ⟨g, 1, none⟩ = some (.int .i64 q) ∧ wx.cell? ⟨g, 2, none⟩ = some (.slice A body.length c) ∧
    Bs wx A body ∧ Below w1.heap.size w1 wx ∧ ∀ k, At A k → w1.heap.size ≤ k

theorem get_cut {E : TypeId} {w1 W : World} {g n c : Nat} {A : Option Addr} {l : List UInt8} {k q k' q' : Int} {old : Array Value} (h : Ob E W w1.heap.size (.slice A n c) l) (hg : W.heap[g]? = some (.cells old 24 (0, 0))) (hE : E ≠ 24) (hgb : w1.heap.size ≤ g) (hB : Below w1.heap.size w1 W)
    (hk : k' = k) (hq : q' = q) : GetCut w1 k q l (.pointer (some ⟨g, 0, none⟩)) (W.setRow g #[.int .i64 k', .int .i64 q', .slice A n c]) := by
  subst hk hq
  have hn := h.len
  subst hn
  refine ⟨g, A, c, rfl, hgb, ?_, ?_, ?_, ?_, below_setRow hB hgb, h.fresh⟩
  · rw [cell_setRow_same _ _ _ _ _ _ _ hg]; rfl
  · rw [cell_setRow_same _ _ _ _ _ _ _ hg]; rfl
  · rw [cell_setRow_same _ _ _ _ _ _ _ hg]; rfl
  · intro hl
    obtain ⟨b, o, e, hc⟩ := h.bs hl
    refine ⟨b, o, e, fun j hj => ?_⟩
    rw [cell_setRow_other _ _ _ _ (by show b ≠ g; exact h.ne hg hE b ⟨_, e, rfl⟩)]
    exact hc j hj

theorem lenR_eq (b : List UInt8) (h : 4 ≤ b.length) : lenR b = (b.getD 2 0).toNat + 256 * (b.getD 3 0).toNat := by
  unfold lenR
  rw [num2 _ (by rw [List.length_drop]; omega), getD_drop, getD_drop]

theorem get_cut3 {E : TypeId} {w1 W : World} {g n c : Nat} {A : Option Addr} {l : List UInt8} {k q k' q' : Int} {x y z : Value} (h : Ob E W w1.heap.size (.slice A n c) l) (hg : W.heap[g]? = some (.cells #[x, y, z] 24 (0, 0))) (hE : E ≠ 24) (hgb : w1.heap.size ≤ g) (hB : Below w1.heap.size w1 W)
    (hk : k' = k) (hq : q' = q) : GetCut w1 k q l (.pointer (some ⟨g, 0, none⟩)) (((W.setCell ⟨g, 0, none⟩ (.int .i64 k')).setCell ⟨g, 1, none⟩ (.int .i64 q')).setCell ⟨g, 2, none⟩ (.slice A n c)) := by
  rw [three_row hg]
  exact get_cut h hg hE hgb hB hk hq

theorem get_cutN {E : TypeId} {w1 W : World} {n c : Nat} {A : Option Addr} {l : List UInt8} {k q k' q' : Int} (h : Ob E W w1.heap.size (.slice A n c) l) (hB : Below w1.heap.size w1 W)
    (hk : k' = k) (hq : q' = q) : GetCut w1 k q l (.pointer (some ⟨W.heap.size, 0, none⟩)) (W.alloc (.cells #[.int .i64 k', .int .i64 q', .slice A n c] 24)) := by
  subst hk hq
  have hn := h.len
  subst hn
  have hr := (row_cells (heap_alloc_new W (.cells #[.int .i64 k', .int .i64 q', .slice A l.length c] 24))).1
  exact ⟨_, A, c, rfl, hB.size, hr.1, hr.2.1, hr.2.2, h.bs.below ((Below.refl _ _).alloc (Nat.le_refl _) _), hB.alloc hB.size _, h.fresh⟩

set_option maxHeartbeats 1600000 in
theorem get_any (A : Option Addr) (b : List UInt8) (L c : Nat) (w : World) (hbs : Bs w A b) (hL : b.length = L) (hc : L ≤ c) (hm : L ≤ 9223372036854775807) :
    Calls Try.prog 10 #[.slice A L c] w (GetPost w b) := by
  have HN : Hid (¬ isR b → ∀ w', Below w.heap.size w w' → GetPost w b noneR w') := Lib.hid fun h w' hb => ⟨hb, .inr ⟨h, rfl⟩⟩
  have hb0 : Below w.heap.size w (w.alloc (.cells #[.int .i64 0, .int .i64 0, .slice none 0 0] 24)) := (Below.refl _ _).alloc (Nat.le_refl _) _
  by_cases h8 : L < 8
  · have hno : ¬ isR b := fun h => by have := h.1; omega
    have HP : Hid (∀ w', Below w.heap.size w w' → GetPost w b noneR w') := Lib.hid (HN.out hno)
    have d0 : decide ((L : Int) < 8) = true := decide_eq_true (by omega)
    have Hb0 := Lib.hid hb0
    clear HN hno hbs hL hb0
    go_enter Try.func10, Try.ntmps10
    go_wp2
    exact bodyPost_ret (v := .tuple #[.agg #[.int .i64 0, .int .i64 0, .slice none 0 0], .int .i64 0, .bool false]) (by simp [results, Try.results10, go_sem]) rfl (HP.out _ Hb0.out)
  · have d0 : decide ((L : Int) < 8) = false := decide_eq_false (by omega)
    obtain ⟨w1, Hw1⟩ : ∃ w1, Hid (w.alloc (.cells #[.int .i64 0, .int .i64 0, .slice none 0 0] 24) = w1) := ⟨_, rfl⟩
    have hz1 : w1.heap.size = w.heap.size + 1 := by rw [← Hw1.out]; simp
    have hzc : ∀ W, Below w1.heap.size w1 W → W.heap[w.heap.size]? = some (.cells zeroR 24 (0, 0)) := fun W hW => by
      rw [hW.block _ (by omega), ← Hw1.out]
      exact heap_alloc_new w _
    rw [Hw1.out] at hb0
    have HG := Lib.hid hzc
    clear hzc
    have hbs := hbs.below hb0
    have Hb0 := Lib.hid hb0
    clear hb0
    obtain ⟨gb, go, rfl, hcell⟩ := hbs (by omega)
    have k0 := hcell 0 (by omega)
    have k2 := hcell 2 (by omega)
    have k3 := hcell 3 (by omega)
    rw [Nat.add_zero] at k0
    have hn := lenR_eq b (by omega)
    obtain ⟨x2, g2⟩ : ∃ x, b.getD 2 0 = x := ⟨_, rfl⟩
    obtain ⟨x3, g3⟩ : ∃ x, b.getD 3 0 = x := ⟨_, rfl⟩
    rw [g2] at k2 hn
    rw [g3] at k3 hn
    have l2 := x2.toNat_lt
    have l3 := x3.toNat_lt
    obtain ⟨n, Hn⟩ : ∃ n, Hid (lenR b = n) := ⟨_, rfl⟩
    rw [Hn.out] at hn
    have o1 : bits .or .i64 (x2.toNat : Int) ((x3.toNat : Int) * 256) = (n : Int) := by
      have := (bits_nat .i64 63 (by decide) (fun m h0 h1 => by rw [IntKind.wrap_i64]; omega) x2.toNat (x3.toNat * 2 ^ 8) (by omega) (by omega)).2
      rw [or_add _ (by omega)] at this
      simp at this
      rw [this]
      omega
    have hn2 : n < 65536 := by omega
    have HS : Hid (∀ W, Calls Try.prog 15 #[.int .i64 (n : Int)] W fun e w' => e = .returned (.int .i64 (sizeI (n : Int))) ∧ w' = W) := Lib.hid fun W => size_any (n : Int) W (by omega) (by omega)
    clear hn g2 g3
    by_cases h5 : 512 < n
    · have hno : ¬ isR b := fun h => by have := h.2.1; rw [Hn.out] at this; omega
      have HP : Hid (∀ w', Below w.heap.size w w' → GetPost w b noneR w') := Lib.hid (HN.out hno)
      have hsz : sizeI (n : Int) = 0 := if_pos (.inr (by omega))
      rw [hsz] at HS
      clear HN hno hbs hcell hL hsz
      go_enter Try.func10, Try.ntmps10
      go_upto_region 1 with fail
      rw [Hw1.out]
      go_wp2_with fail
      go_quiet (fail)
      go_wp2_with fail
      with_reducible refine (HS.out _).mono ?_
      rintro e w' ⟨rfl, rfl⟩
      go_wp2_with (refine wpList_store_row rfl 24 (.tmp 2) (.tmp 32) rfl w.heap.size zeroR rfl rfl 24 zeroR (HG.out _ (below_drewN' (Below.refl _ _) _)) (infoR _ rfl) rfl zeroR_one ?_)
      (try simp only [Exit.inBlock, Exit.then])
      refine bodyPost_ret (results_cell3 rfl _ _ w.heap.size _ zeroR _ _ rfl (setRow_heap _ _ _ _ _ _ (HG.out _ (below_drewN' (Below.refl _ _) _))) Try.underlying24 rfl (infoR _ rfl)) rfl ?_
      exact HP.out _ (below_setRow (below_drewN' Hb0.out _) (Nat.le_refl _))
    · have hsz : sizeI (n : Int) = ((sizeR n : Nat) : Int) := by unfold sizeI; rw [if_neg (by omega)]; simp
      rw [hsz] at HS
      have hs16 : 16 ≤ sizeR n ∧ sizeR n ≤ 536 ∧ n + 16 ≤ sizeR n := by unfold sizeR; omega
      obtain ⟨s, Hs⟩ : ∃ s, Hid (sizeR n = s) := ⟨_, rfl⟩
      rw [Hs.out] at HS hs16
      have d1 : ((s : Int) == 0) = false := by simp; omega
      by_cases hls : L < s
      · have hno : ¬ isR b := fun h => by have := h.2.2.1; rw [Hn.out, Hs.out] at this; omega
        have HP : Hid (∀ w', Below w.heap.size w w' → GetPost w b noneR w') := Lib.hid (HN.out hno)
        have d2 : decide ((L : Int) < (s : Int)) = true := decide_eq_true (by omega)
        clear HN hno hbs hcell hL hsz
        go_enter Try.func10, Try.ntmps10
        go_upto_region 1 with fail
        rw [Hw1.out]
        go_wp2_with fail
        go_quiet (fail)
        go_wp2_with fail
        with_reducible refine (HS.out _).mono ?_
        rintro e w' ⟨rfl, rfl⟩
        go_wp2_with fail
        with_reducible refine (HS.out _).mono ?_
        rintro e w' ⟨rfl, rfl⟩
        go_wp2_with (refine wpList_store_row rfl 24 (.tmp 2) (.tmp 32) rfl w.heap.size zeroR rfl rfl 24 zeroR (HG.out _ (below_drewN' (Below.refl _ _) _)) (infoR _ rfl) rfl zeroR_one ?_)
        (try simp only [Exit.inBlock, Exit.then])
        refine bodyPost_ret (results_cell3 rfl _ _ w.heap.size _ zeroR _ _ rfl (setRow_heap _ _ _ _ _ _ (HG.out _ (below_drewN' (Below.refl _ _) _))) Try.underlying24 rfl (infoR _ rfl)) rfl ?_
        exact HP.out _ (below_setRow (below_drewN' Hb0.out _) (Nat.le_refl _))
      · have d2 : decide ((L : Int) < (s : Int)) = false := decide_eq_false (by omega)
        obtain ⟨A4, hA4, sl4⟩ := slice_tail (some ⟨gb, go, none⟩) w1 b hbs c (by omega) 4 (by omega)
        obtain ⟨A8, hA8, sl8⟩ := slice_mid (some ⟨gb, go, none⟩) w1 b hbs c (by omega) 8 n (by omega) (by omega)
        rw [hL] at sl4
        have s4 := sl4 4 rfl
        have s8 := sl8 L 8 (8 + (n : Int)) rfl rfl
        clear sl4 sl8
        go_enter Try.func10, Try.ntmps10
        go_upto_region 1 with fail
        rw [Hw1.out]
        go_upto_region 3 with fail
        go_quiet (fail)
        go_wp2_with fail
        with_reducible refine (HS.out _).mono ?_
        rintro e w' ⟨rfl, rfl⟩
        go_wp2_with fail
        with_reducible refine (HS.out _).mono ?_
        rintro e w' ⟨rfl, rfl⟩
        go_upto_region 6 with fail
        obtain ⟨q, hq⟩ : ∃ q, seqR b = q := ⟨_, rfl⟩
        have hql : q < 4294967296 := by
          rw [← hq]
          refine Nat.lt_of_lt_of_le (numB_lt _) (Nat.le_trans (Nat.pow_le_pow_right (by omega) (show ((b.drop 4).take 4).length ≤ 4 by rw [List.length_take]; omega)) (by decide))
        obtain ⟨body, hbody⟩ : ∃ l, bodyR b = l := ⟨_, rfl⟩
        have hbl : body.length = n := by rw [← hbody]; unfold bodyR; rw [Hn.out, List.length_take, List.length_drop]; omega
        have hA8' : Bs w1 A8 body := by rw [← hbody]; unfold bodyR; rw [Hn.out]; exact hA8
        have HNUM : Hid (∀ W, Below w1.heap.size w1 W → Calls Try.prog 23 #[.slice A4 (L - 4) (c - 4)] W fun e w' => e = .returned (.int .u32 (q : Int)) ∧ ∃ n, w' = W.drewN n) := Lib.hid fun W hW => by
          have := number_any A4 (b.drop 4) (L - 4) (c - 4) W (hA4.below hW) (by rw [List.length_drop]; omega) (by omega) (by omega)
          rw [show numB ((b.drop 4).take 4) = q from hq] at this
          exact this
        have HCL : Hid (∀ W, Below w1.heap.size w1 W → Calls Try.prog 24 #[.slice A8 n (c - 8)] W (RetOb 5 W body)) := Lib.hid fun W hW => by
          have := clone_any A8 body (c - 8) W (hA8'.below hW) (by omega)
          rw [hbl] at this
          exact this
        obtain ⟨x0, hx0⟩ : ∃ x, b.getD 0 0 = x := ⟨_, rfl⟩
        rw [hx0] at k0
        have l0 := x0.toNat_lt
        have Hx0 := Lib.hid hx0
        have Hq := Lib.hid hq
        have Hbody := Lib.hid hbody
        have Hbl := Lib.hid hbl
        have hS0 : Below w1.heap.size w1 (w1.drewN nq) := below_drewN' (Below.refl _ _) _
        generalize w1.drewN nq = w2 at *
        have K0 : ∀ W, Below w1.heap.size w1 W → W.cell? ⟨gb, go, none⟩ = some (.int .u8 (x0.toNat : Int)) := fun W hW => by
          rw [hW.cell (World.block_lt_of_cell? _ _ k0)]; exact k0
        have hLp : (0 : Int) < (L : Int) := by omega
        have hLn : 0 < L := by omega
        have hLd : decide ((0 : Int) < (L : Int)) = true := decide_eq_true hLp
        have hw8 : IntKind.i64.wrap (8 + (n : Int)) = 8 + (n : Int) := by rw [IntKind.wrap_i64]; omega
        have hwk : IntKind.i64.wrap (x0.toNat : Int) = (x0.toNat : Int) := by rw [IntKind.wrap_i64]; omega
        have hwq : IntKind.i64.wrap (q : Int) = (q : Int) := by rw [IntKind.wrap_i64]; omega
        have Hwk := Lib.hid hwk
        have Hwq := Lib.hid hwq
        have Hz1 := Lib.hid hz1
        have h2s : w1.heap.size ≤ w2.heap.size := hS0.size
        have H2s := Lib.hid h2s
        clear hA8 hA4 hq hbody hA8' hx0 hbl hcell k0 k2 k3 hwk hwq hz1 h2s
        go_cut [6] (GetCut w1 (x0.toNat : Int) (q : Int) body)
        case first =>
          have kS := hS0
          go_region_held3 (fun W => Below w1.heap.size w1 W) (first | assumption | exact Below.drew (by assumption) | exact Below.alloc (by assumption) (Below.size (by assumption)) _ | exact Below.setCell (Below.setCell (Below.setCell (by assumption) (by assumption) _) (by assumption) _) (by assumption) _) (first
            | (go_at_call 23; (with_reducible refine (HNUM.out _ (by assumption)).mono ?_); rintro e w4 ⟨rfl, nd, hw4⟩; have kS4 : Below w1.heap.size w1 w4 := (by rw [hw4]; exact below_drewN' (by assumption) nd); (try (have HZ4 : Hid (w4.heap[w2.heap.size]? = some (.cells zeroR 24 (0, 0))) := Lib.hid (by rw [hw4]; exact heap_alloc_new w2.drew _))); clear hw4)
            | (go_at_call 24; (with_reducible refine (HCL.out _ (by assumption)).mono ?_); rintro e w5 ⟨v5, rfl, ho5, hb5⟩; have kS5 : Below w1.heap.size w1 w5 := below_on (by assumption) hb5; obtain ⟨A5, c5, hv5, -, -⟩ := ho5.form; rw [Hbl.out] at hv5; subst hv5; have O5 := Lib.hid (Ob.low (base' := w1.heap.size) ho5 (by first | exact kS4.size | (have := kS4.size; simp; omega)))
               (try (have HZ5 : Hid (w5.heap[w2.heap.size]? = some (.cells #[.int .i64 0, .int .i64 0, .slice none 0 0] 24 (0, 0)) ∧ w1.heap.size ≤ w2.heap.size) := Lib.hid ⟨(hb5.block w2.heap.size (Array.getElem?_eq_some_iff.1 HZ4.out).1).trans HZ4.out, H2s.out⟩; have hge := HZ5.out.2; obtain ⟨⟨y0, y1, y2⟩, f0, f1, f2⟩ := row_cells HZ5.out.1))
               (try (have HZ5 : Hid (w5.heap[w4.heap.size]? = some (.cells #[.int .i64 0, .int .i64 0, .slice none 0 0] 24 (0, 0)) ∧ w1.heap.size ≤ w4.heap.size) := Lib.hid ⟨(hb5.block w4.heap.size (by simp)).trans (heap_alloc_new w4 _), kS4.size⟩; have hge := HZ5.out.2; obtain ⟨⟨y0, y1, y2⟩, f0, f1, f2⟩ := row_cells HZ5.out.1))
               clear ho5 hb5)
            )
          all_goals
            go_wp2_with fail
            go_meet
            first
              | exact get_cut3 O5.out HZ5.out.1 (by decide) HZ5.out.2 (by assumption) Hwk.out Hwq.out
              | exact get_cutN O5.out (by assumption) Hwk.out Hwq.out
        case rest =>
          obtain ⟨g, A5, c5, rfl, hg5, r0, r1, r2, hbs5, kb5, hfr5⟩ := hcut
          have HOFF : Hid (∀ k, At A5 k → k ≠ w.heap.size) := Lib.hid fun k hk => by have := hfr5 k hk; have := Hz1.out; omega
          clear hfr5
          rw [Hbl.out] at r2
          have HL0 : Hid (∀ W, Below wc.heap.size wc W → W.cell? ⟨g, 0, none⟩ = some (.int .i64 (x0.toNat : Int)) ∧ W.cell? ⟨g, 1, none⟩ = some (.int .i64 (q : Int)) ∧ W.cell? ⟨g, 2, none⟩ = some (.slice A5 n c5)) := Lib.hid fun W hW =>
            ⟨by rw [hW.cell (World.block_lt_of_cell? _ _ r0)]; exact r0, by rw [hW.cell (World.block_lt_of_cell? _ _ r1)]; exact r1, by rw [hW.cell (World.block_lt_of_cell? _ _ r2)]; exact r2⟩
          obtain ⟨P, hP⟩ : ∃ P, putR (x0.toNat : Int) (q : Int) body = P := ⟨_, rfl⟩
          have HPUT : Hid (Calls Try.prog 12 #[.agg #[.int .i64 (x0.toNat : Int), .int .i64 (q : Int), .slice A5 n c5]] wc (RetOb 5 wc P)) := Lib.hid (by
            have := put_any (x0.toNat : Int) (q : Int) A5 body c5 wc hbs5 (by omega) (by omega) (by omega) (by omega) (by rw [Hbl.out]; omega)
            rw [hP, Hbl.out] at this
            exact this)
          have HIS : Hid (isR b ↔ P ≠ [] ∧ b.take P.length = P) := Lib.hid (by
            have hPs : P ≠ [] → P.length = s := by
              intro hne
              rw [← hP] at hne ⊢
              unfold putR at hne ⊢
              split at hne
              · rw [if_pos (by assumption), encR_len, Hbl.out, Hs.out]
              · exact absurd rfl hne
            constructor
            · rintro ⟨i1, i2, i3, i4⟩
              rw [Hx0.out, Hq.out, Hbody.out, hP, Hn.out, Hs.out] at i4
              have : P.length = s := by rw [i4, List.length_take]; omega
              exact ⟨fun e => by rw [e] at this; simp at this; omega, by rw [this]; exact i4.symm⟩
            · rintro ⟨i1, i2⟩
              refine ⟨by omega, by rw [Hn.out]; omega, by rw [Hn.out, Hs.out]; omega, ?_⟩
              rw [Hx0.out, Hq.out, Hbody.out, hP, Hn.out, Hs.out, ← hPs i1]
              exact i2.symm)
          have hPl : P = [] ∨ P.length = s := by
            rw [← hP]
            unfold putR
            split
            · right; rw [encR_len, Hbl.out, Hs.out]
            · left; rfl
          have hbw : Below w1.heap.size w1 wc := kb5
          have hbsw := hbs.below hbw
          have HBS5 := Lib.hid hbs5
          have HBSW := Lib.hid hbsw
          have KB5 := Lib.hid kb5
          clear hbs5 hbsw hbs kb5 hP hbw HNUM HCL s4 s8 hS0
          go_wp2_with fail
          with_reducible refine HPUT.out.mono ?_
          rintro e w6 ⟨v6, rfl, ho6, hb6⟩
          obtain ⟨A6, c6, hv6, hbs6, -⟩ := ho6.form
          subst hv6
          clear r0 r1 r2
          obtain ⟨r0, r1, r2⟩ := HL0.out w6 hb6
          have KB6 : Below w1.heap.size w1 w6 := below_on KB5.out hb6
          rcases hPl with hPe | hPl
          · have hno : ¬ isR b := fun h => (HIS.out.1 h).1 hPe
            have HP : Hid (∀ w', Below w.heap.size w w' → GetPost w b noneR w') := Lib.hid (HN.out hno)
            have HB6 : Hid (Below w.heap.size w w6) := Lib.hid (below_on Hb0.out KB6)
            have hg0 := HG.out w6 KB6
            have e0 : P.length = 0 := by rw [hPe]; rfl
            rw [e0]
            clear hno HN
            go_wp2_with (refine wpList_store_row rfl 24 (.tmp 2) (.tmp 58) rfl w.heap.size zeroR rfl rfl 24 zeroR hg0 (infoR _ rfl) rfl zeroR_one ?_)
            (try simp only [Exit.inBlock, Exit.then])
            refine bodyPost_ret (results_cell3 rfl _ _ w.heap.size _ zeroR _ _ rfl (setRow_heap _ _ _ _ _ _ hg0) Try.underlying24 rfl (infoR _ rfl)) rfl ?_
            exact HP.out _ (below_setRow HB6.out (Nat.le_refl _))
          · have HPF : Hid (Calls Try.prog 25 #[.slice (some ⟨gb, go, none⟩) L c, .slice A6 s c6] w6 (RetB w6 (decide (s ≤ L ∧ b.take s = P)))) := Lib.hid (prefix_any _ _ b P L s c c6 w6 (HBSW.out.below hb6) hbs6 hL hPl hc hm)
            rw [hPl]
            by_cases hpre : b.take s = P
            · rw [decide_eq_true ⟨by omega, hpre⟩] at HPF
              have hyes : isR b := HIS.out.2 ⟨fun e => by rw [e] at hPl; simp at hPl; omega, by rw [hPl]; exact hpre⟩
              have HY : Hid (∀ w', Below w.heap.size w w' → Bs w' A5 body → GetPost w b (.returned (.tuple #[.agg #[.int .i64 (x0.toNat : Int), .int .i64 (q : Int), .slice A5 n c5], .int .i64 (s : Int), .bool true])) w') := Lib.hid fun w' hb' hbs' =>
                ⟨hb', .inl ⟨hyes, A5, c5, by rw [Hx0.out, Hq.out, Hbody.out, Hbl.out, Hn.out, Hs.out], by rw [Hbody.out]; exact hbs'⟩⟩
              have HB6 : Hid (Below w.heap.size w w6) := Lib.hid (below_on Hb0.out KB6)
              have HB5 := Lib.hid (HBS5.out.below hb6)
              have oc : (#[Value.int .i64 (x0.toNat : Int), .int .i64 (q : Int), .slice A5 n c5] : Array Value).all (·.oneCell') = true := by simp [Value.oneCell']
              clear hyes
              go_wp2_with fail
              with_reducible refine HPF.out.mono ?_
              rintro e w7 ⟨rfl, nd, rfl⟩
              have hg0 := HG.out (w6.drewN nd) (below_drewN' KB6 nd)
              clear r0 r1 r2
              obtain ⟨r0, r1, r2⟩ := HL0.out (w6.drewN nd) (below_drewN' hb6 nd)
              go_wp2_with (refine wpList_store_row rfl 24 (.tmp 2) (.tmp 59) rfl w.heap.size _ rfl rfl 24 zeroR hg0 (infoR _ rfl) rfl oc ?_)
              (try simp only [Exit.inBlock, Exit.then])
              refine bodyPost_ret (results_cell3 rfl _ _ w.heap.size _ _ _ _ rfl (setRow_heap _ _ _ _ _ _ hg0) Try.underlying24 rfl (infoR _ rfl)) rfl ?_
              refine HY.out _ (below_setRow (below_drewN' HB6.out nd) (Nat.le_refl _)) ?_
              intro hl
              obtain ⟨bb, oo, e, hcc⟩ := HB5.out hl
              refine ⟨bb, oo, e, fun j hj => ?_⟩
              rw [cell_setRow_other _ _ _ _ (HOFF.out bb ⟨_, e, rfl⟩)]
              exact hcc j hj
            · rw [decide_eq_false (fun h => hpre h.2)] at HPF
              have hno : ¬ isR b := fun h => hpre (by have := (HIS.out.1 h).2; rw [hPl] at this; exact this)
              have HP : Hid (∀ w', Below w.heap.size w w' → GetPost w b noneR w') := Lib.hid (HN.out hno)
              have HB6 : Hid (Below w.heap.size w w6) := Lib.hid (below_on Hb0.out KB6)
              clear hno HN
              go_wp2_with fail
              with_reducible refine HPF.out.mono ?_
              rintro e w7 ⟨rfl, nd, rfl⟩
              have hg0 := HG.out (w6.drewN nd) (below_drewN' KB6 nd)
              go_wp2_with (refine wpList_store_row rfl 24 (.tmp 2) (.tmp 58) rfl w.heap.size zeroR rfl rfl 24 zeroR hg0 (infoR _ rfl) rfl zeroR_one ?_)
              (try simp only [Exit.inBlock, Exit.then])
              refine bodyPost_ret (results_cell3 rfl _ _ w.heap.size _ zeroR _ _ rfl (setRow_heap _ _ _ _ _ _ hg0) Try.underlying24 rfl (infoR _ rfl)) rfl ?_
              exact HP.out _ (below_setRow (below_drewN' HB6.out nd) (Nat.le_refl _))
end Go.Proofs.Ytddalnmoahpljaa

