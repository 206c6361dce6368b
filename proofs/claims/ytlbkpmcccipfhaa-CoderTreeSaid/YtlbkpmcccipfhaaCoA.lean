/- The landed package coder: bits.Add32, slices.Clone of bytes, width, carry. -/
import Derived.Test.YtlbkpmcccipfhaaLaw16Spec
import Derived.Test.YtlbkpmcccipfhaaAppLoc
namespace Go.Proofs.Ytlbkpmcccipfhaa
open Go.RowKit
set_option linter.unusedVariables false
set_option maxRecDepth 100000

set_option maxHeartbeats 1600000 in
theorem add32_any (x y : Nat) (hx : x < 4294967296) (hy : y < 4294967296) (w : World) : Calls Try.prog 37 #[.int .u32 (x : Int), .int .u32 (y : Int), .int .u32 0] w
    fun e w' => e = .returned (.tuple #[.int .u32 (((x + y) % 4294967296 : Nat) : Int), .int .u32 (((x + y) / 4294967296 : Nat) : Int)]) ∧ w' = w := by
  obtain ⟨s, hs⟩ : ∃ s, x + y = s := ⟨_, rfl⟩
  rw [hs]
  obtain ⟨z, hz⟩ : ∃ z, s % 4294967296 = z := ⟨_, rfl⟩
  obtain ⟨d, hd⟩ : ∃ d, s / 4294967296 = d := ⟨_, rfl⟩
  rw [hz, hd]
  have t1 : IntKind.u64.wrap (x : Int) = (x : Int) := by rw [IntKind.wrap_u64]; omega
  have t2 : IntKind.u64.wrap (y : Int) = (y : Int) := by rw [IntKind.wrap_u64]; omega
  have t3 : IntKind.u64.wrap ((x : Int) + (y : Int)) = (s : Int) := by rw [IntKind.wrap_u64]; omega
  have t4 : IntKind.u64.wrap (s : Int) = (s : Int) := by rw [IntKind.wrap_u64]; omega
  have t5 : IntKind.u32.wrap (s : Int) = (z : Int) := by rw [IntKind.wrap_u32]; omega
  have t5' : (s : Int) % 4294967296 = (z : Int) := by omega
  have t6 : (s : Int) / 4294967296 = (d : Int) := by omega
  have t7 : IntKind.u64.wrap (d : Int) = (d : Int) := by rw [IntKind.wrap_u64]; omega
  have t8 : IntKind.u32.wrap (d : Int) = (d : Int) := by rw [IntKind.wrap_u32]; omega
  clear hs hz hd hx hy
  go_enter Try.func37, Try.ntmps37
  go_wp2_with fail
  go_ret2
  exact ⟨rfl, rfl⟩

set_option maxHeartbeats 400000 in
theorem sclone16_any (A : Option Addr) (l : List UInt8) (c : Nat) (w : World) (h : Bs w A l) (hl : l.length ≤ 2147483648) :
    Calls Try.prog 35 #[.slice A l.length c] w fun e w' => ∃ v, e = .returned v ∧ Ob 5 w' w.heap.size v l ∧ Below w.heap.size w w' := by
  have hq : ∀ (w : World) (a : Option Addr) (n c n' c' : Nat), (binOp .eql 38 (.slice a n c) (.slice none n' c')).run Try.prog w = .ok (.bool a.isNone) w := fun w a n c n' c' => Lib.run_eql_slice_nil w _ _ a n c n' c' Try.underlying38
  rcases A with _ | a
  · have h0 : l.length = 0 := by
      rcases Nat.eq_zero_or_pos l.length with h' | h'
      · exact h'
      · obtain ⟨b, o, e', _⟩ := h h'; cases e'
    have : l = [] := List.eq_nil_of_length_eq_zero h0
    subst this
    go_enter Try.func35, Try.ntmps35
    go_wp2
    go_ret
    exact ⟨_, rfl, Ob.nil_ _ _ _, Below.refl _ _⟩
  · go_enter Try.func35, Try.ntmps35
    go_wp2_with (at_builtin; refine wpList_append_bs rfl (.tmp 5) (.tmp 6) 38 rfl w.heap.size 5 Try.underlying38 info5 _ [] rfl (World.ownsRow_lit w #[] 0 (Nat.le_refl _) (by simp) (by simp)) (some a) l _ c rfl rfl (h.below ((Below.refl _ _).alloc (Nat.le_refl _) _)) (by simp; omega) (by simp) ?_)
    intro v' w' h1 h2
    have hb : Below w.heap.size w w' := ((Below.refl _ _).alloc (Nat.le_refl _) _).grown h2 (by simp) (by intro k hk; simp [Value.ownBlock] at hk; omega)
    go_wp2
    go_ret
    exact ⟨_, rfl, h1, hb⟩

/-! A coder's block: the higher bytes, the lower ones as a number, what is lost of the width. -/
structure PCr (W : World) (g : Nat) (A : Option Addr) (cap : Nat) (l : List UInt8) (lo ls : Nat) : Prop where
  row : W.heap[g]? = some (.cells #[.slice A l.length cap, .int .u32 (lo : Int), .int .u32 (ls : Int)] 56 (0, 0))
  ob : Ob 5 W 0 (.slice A l.length cap) l
  ne : ¬ At A g
section
variable {W W' : World} {g : Nat} {A : Option Addr} {cap : Nat} {l : List UInt8} {lo ls : Nat}
theorem PCr.lt (h : PCr W g A cap l lo ls) : g < W.heap.size := (Array.getElem?_eq_some_iff.1 h.row).1
theorem PCr.at_ (h : PCr W g A cap l lo ls) {j : Nat} (hj : At A j) : j < W.heap.size := by
  obtain ⟨A', c', e, hb, hf⟩ := h.ob.form
  injection e with e1 e2 e3
  subst e1
  rcases hf with hf | ⟨g', hf, h1, h2⟩
  · subst hf; obtain ⟨a, e, _⟩ := hj; cases e
  · subst hf; obtain ⟨a, e, rfl⟩ := hj; injection e with e; subst e; exact h2
theorem PCr.only {F : Nat → Prop} (h : PCr W g A cap l lo ls) (ho : Only F W W') (hg : ¬ F g) (hA : ∀ j, At A j → ¬ F j) : PCr W' g A cap l lo ls :=
  ⟨by rw [ho.block g h.lt hg]; exact h.row, h.ob.only ho hA, h.ne⟩
theorem PCr.below (h : PCr W g A cap l lo ls) (hb : Below W.heap.size W W') : PCr W' g A cap l lo ls :=
  h.only (F := fun _ => False) (Only.of_below hb) (fun h => h) (fun _ _ h => h)
theorem PCr.c0 (h : PCr W g A cap l lo ls) : W.cell? ⟨g, 0, none⟩ = some (.slice A l.length cap) := by rw [cell_of_row _ _ _ _ _ _ h.row]; rfl
theorem PCr.c1 (h : PCr W g A cap l lo ls) : W.cell? ⟨g, 1, none⟩ = some (.int .u32 (lo : Int)) := by rw [cell_of_row _ _ _ _ _ _ h.row]; rfl
theorem PCr.c2 (h : PCr W g A cap l lo ls) : W.cell? ⟨g, 2, none⟩ = some (.int .u32 (ls : Int)) := by rw [cell_of_row _ _ _ _ _ _ h.row]; rfl
theorem PCr.fz (h : PCr W g A cap l lo ls) (k : Nat) : W.frozen? ⟨g, k, none⟩ = false := by have := h.row; simp [World.frozen?, this]
theorem PCr.own1 (h : PCr W g A cap l lo ls) (i : Nat) (u : Value) : Ob 5 (W.setCell ⟨g, i, none⟩ u) 0 (.slice A l.length cap) l :=
  h.ob.only (F := fun j => j = g) ((Only.refl (fun j => j = g) W).setCell (p := ⟨g, i, none⟩) (.inl rfl) _) (fun k hk e => h.ne (by rw [← e]; exact hk))
theorem PCr.set1 (h : PCr W g A cap l lo ls) (x : Nat) : PCr (W.setCell ⟨g, 1, none⟩ (.int .u32 (x : Int))) g A cap l x ls :=
  ⟨by rw [setCell_eq_setRow W g 1 _ _ _ (.int .u32 (x : Int)) h.row, setRow_heap _ _ _ _ _ _ h.row]; rfl, h.own1 1 _, h.ne⟩
theorem PCr.set2 (h : PCr W g A cap l lo ls) (x : Nat) : PCr (W.setCell ⟨g, 2, none⟩ (.int .u32 (x : Int))) g A cap l lo x :=
  ⟨by rw [setCell_eq_setRow W g 2 _ _ _ (.int .u32 (x : Int)) h.row, setRow_heap _ _ _ _ _ _ h.row]; rfl, h.own1 2 _, h.ne⟩
theorem PCr.byte {gl : Nat} (h : PCr W g (some ⟨gl, 0, none⟩) cap l lo ls) (i : Nat) (x : UInt8) : PCr (W.setCell ⟨gl, i, none⟩ (.int .u8 (x.toNat : Int))) g (some ⟨gl, 0, none⟩) cap (l.set i x) lo ls := by
  have hne : g ≠ (⟨gl, i, none⟩ : Addr).block := fun e => h.ne ⟨⟨gl, 0, none⟩, rfl, e.symm⟩
  refine ⟨?_, ?_, h.ne⟩
  · rw [List.length_set, Below.heap_setCell _ _ _ _ hne]; exact h.row
  · have := h.ob.set_ i x
    rw [List.length_set]
    exact this
theorem PCr.gl (h : PCr W g A cap l lo ls) (hl : 0 < l.length) : ∃ gl, A = some ⟨gl, 0, none⟩ := by
  obtain ⟨A', c', e, hb, hf⟩ := h.ob.form
  injection e with e1 e2 e3
  subst e1
  rcases hf with hf | ⟨g', hf, h1, h2⟩
  · obtain ⟨b, o, e', _⟩ := hb hl
    rw [hf] at e'; cases e'
  · exact ⟨g', hf⟩
end

theorem pcwidth_any {W : World} {g : Nat} {A : Option Addr} {cap : Nat} {l : List UInt8} {lo ls wd : Nat} (h : PCr W g A cap l lo ls) (hw : ls + wd = 4294967295) :
    Calls Try.prog 26 #[.pointer (some ⟨g, 0, none⟩)] W fun e w' => e = .returned (.int .u32 (wd : Int)) ∧ w' = W := by
  have c2 := h.c2
  have t1 : IntKind.u32.wrap (4294967295 - (ls : Int)) = (wd : Int) := by rw [IntKind.wrap_u32]; omega
  have t2 : 4294967295 - (ls : Int) = (wd : Int) := by omega
  clear h hw
  go_enter Try.func26, Try.ntmps26
  go_wp2_with fail
  go_ret
  exact ⟨rfl, rfl⟩

set_option maxHeartbeats 1600000 in
theorem pccarry_any {W : World} {g : Nat} {A : Option Addr} {cap : Nat} {l : List UInt8} {lo ls : Nat} (h : PCr W g A cap l lo ls) (hfit : bgN l + 1 < 256 ^ l.length) (hlen : l.length ≤ 1000000) :
    Calls Try.prog 38 #[.pointer (some ⟨g, 0, none⟩)] W
    fun e w' => e = .returned (.tuple #[]) ∧ PCr w' g A cap (bgB l.length (bgN l + 1)) lo ls ∧ Only (At A) W w' := by
  have hpos : 0 < l.length := by
    refine Nat.pos_of_ne_zero fun e => ?_
    rw [e] at hfit
    omega
  obtain ⟨gl, rfl⟩ := h.gl hpos
  obtain ⟨N, hN⟩ : ∃ N, bgN l + 1 = N := ⟨_, rfl⟩
  obtain ⟨L, hL⟩ : ∃ L, l.length = L := ⟨_, rfl⟩
  rw [hN, hL] at hfit
  rw [hN, hL]
  have HFIT := Lib.hid hfit
  have HI : Hid (∃ l', PCr W g (some ⟨gl, 0, none⟩) cap l' lo ls ∧ l'.length = L ∧ bgN l' + 256 ^ 0 = N ∧ Only (At (some ⟨gl, 0, none⟩)) W W) := Lib.hid ⟨l, h, hL, by rw [Nat.pow_zero]; exact hN, Only.refl _ _⟩
  have c0 := h.c0
  rw [hL] at c0 hlen
  have f0 : IntKind.i64.wrap ((L : Int) - 1) = (L : Int) - 1 := by rw [IntKind.wrap_i64]; omega
  have HLE := Lib.hid hlen
  clear h hN hL hfit hlen hpos
  go_enter Try.func38, Try.ntmps38
  go_wp2_with fail
  clear c0 f0
  go_loopw [2] (fun i_ wr => ∃ (j : Nat) (l' : List UInt8), j ≤ L ∧ i_ = .int .i64 ((L : Int) - 1 - (j : Int)) ∧ Hid (PCr wr g (some ⟨gl, 0, none⟩) cap l' lo ls) ∧ Hid (l'.length = L) ∧ Hid (bgN l' + 256 ^ j = N) ∧ Hid (Only (At (some ⟨gl, 0, none⟩)) W wr)) (fun i_ _ => (intOf i_ + 1).toNat)
  case atStart =>
    obtain ⟨l', a1, a2, a3, a4⟩ := HI.out
    exact ⟨0, l', by omega, by go_num, Lib.hid a1, Lib.hid a2, Lib.hid a3, Lib.hid a4⟩
  case round =>
    clear HI
    obtain ⟨j, l', hj, rfl, HR, HL, HV, HO⟩ := hrel
    have hlt : j < L := by
      refine Nat.lt_of_le_of_ne hj fun e => ?_
      have hv := HV.out
      have hf := HFIT.out
      rw [e] at hv
      omega
    have d0 : decide (0 ≤ (L : Int) - 1 - (j : Int)) = true := decide_eq_true (by omega)
    have c0 := HR.out.c0
    rw [HL.out] at c0
    obtain ⟨i, hi⟩ : ∃ i, L - 1 - j = i := ⟨_, rfl⟩
    have ei : (L : Int) - 1 - (j : Int) = (i : Int) := by omega
    rw [ei]
    have hil : i < L := by omega
    have hij : L - 1 - i = j := by omega
    obtain ⟨bb, oo, eA, hcs⟩ := (Ob.bs HR.out.ob) (by rw [HL.out]; omega)
    injection eA with eA
    injection eA with eb eo
    subst eb
    subst eo
    have cx := hcs i (by rw [HL.out]; exact hil)
    rw [Nat.zero_add] at cx
    have fx := Ob.frozen HR.out.ob i
    have hset := fun x => bgN_set l' i x (by rw [HL.out]; exact hil)
    rw [HL.out, hij] at hset
    have hbl := (l'.getD i 0).toNat_lt
    obtain ⟨b, hb⟩ : ∃ b, (l'.getD i 0).toNat = b := ⟨_, rfl⟩
    rw [hb] at cx hset hbl
    have d0' : decide ((0 : Int) ≤ (i : Int)) = true := decide_eq_true (by omega)
    have b1 : 0 ≤ (i : Int) := by omega
    have b2 : (i : Int) < (L : Int) := by omega
    obtain ⟨r, hr⟩ : ∃ r, (b + 1) % 256 = r := ⟨_, rfl⟩
    have hx : (UInt8.ofNat r).toNat = r := by simp; omega
    have HR2 := Lib.hid (HR.out.byte i (UInt8.ofNat r))
    rw [hx] at HR2
    have cl0 := HR2.out.c0
    rw [List.length_set, HL.out] at cl0
    have clx : (wr.setCell ⟨gl, i, none⟩ (.int .u8 (r : Int))).cell? ⟨gl, i, none⟩ = some (.int .u8 (r : Int)) := by
      obtain ⟨b2, o2, e2, hcs2⟩ := (Ob.bs HR2.out.ob) (by rw [List.length_set, HL.out]; omega)
      injection e2 with e2
      injection e2 with e3 e4
      subst e3
      subst e4
      have := hcs2 i (by rw [List.length_set, HL.out]; exact hil)
      rw [Nat.zero_add] at this
      rw [this]
      have hg : (l'.set i (UInt8.ofNat r)).getD i 0 = UInt8.ofNat r := by simp [List.getD, show i < l'.length by rw [HL.out]; exact hil]
      rw [hg, hx]
    have t1 : IntKind.u8.wrap ((b : Int) + 1) = (r : Int) := by rw [IntKind.wrap_u8]; omega
    have HL2 : Hid ((l'.set i (UInt8.ofNat r)).length = L) := Lib.hid (by rw [List.length_set]; exact HL.out)
    have HO2 : Hid (Only (At (some ⟨gl, 0, none⟩)) W (wr.setCell ⟨gl, i, none⟩ (.int .u8 (r : Int)))) := Lib.hid (HO.out.setCell (p := ⟨gl, i, none⟩) (.inl ⟨_, rfl, rfl⟩) _)
    obtain ⟨W2, hW2⟩ : ∃ W2, wr.setCell ⟨gl, i, none⟩ (.int .u8 (r : Int)) = W2 := ⟨_, rfl⟩
    rw [hW2] at HR2 cl0 clx HO2
    by_cases hr0 : r = 0
    · have hbb : b = 255 := by omega
      have HV2 : Hid (bgN (l'.set i (UInt8.ofNat r)) + 256 ^ (j + 1) = N) := Lib.hid (by
        have h1 := hset (UInt8.ofNat r)
        rw [hx, hbb, hr0, Nat.zero_mul, Nat.add_zero] at h1
        rw [hr0]
        have h2 := HV.out
        rw [Nat.pow_succ]
        omega)
      have t6 : IntKind.i64.wrap ((i : Int) - 1) = (i : Int) - 1 := by rw [IntKind.wrap_i64]; have := HLE.out; omega
      have HEI : Hid ((i : Int) - 1 = (L : Int) - 1 - ((j + 1 : Nat) : Int)) := Lib.hid (by omega)
      have HJ : Hid (j + 1 ≤ L) := Lib.hid hlt
      have hz : ((r : Nat) : Int) = 0 := by rw [hr0]; rfl
      rw [hz] at hW2 clx t1
      clear HR HV HO HL hset hcs hb hbl hr hx ei hi hij hil hj hlt d0 hbb hr0 hz
      go_upto_region 4 with fail
      (try rw [hW2])
      clear hW2 cx fx c0
      go_wp2_with fail
      go_roundw
      case rel => exact ⟨j + 1, _, HJ.out, by rw [HEI.out], HR2, HL2, HV2, HO2⟩
      case measure => simp [intOf] <;> omega
    · have hrb : r = b + 1 := by omega
      have HE : Hid (PCr W2 g (some ⟨gl, 0, none⟩) cap (bgB L N) lo ls ∧ Only (At (some ⟨gl, 0, none⟩)) W W2) := Lib.hid ⟨by
        have h1 := hset (UInt8.ofNat r)
        rw [hx, hrb, Nat.add_mul, Nat.one_mul] at h1
        have h2 := HV.out
        have h3 : bgN (l'.set i (UInt8.ofNat r)) = N := by rw [hrb]; omega
        rw [← h3, ← HL2.out, bgB_bgN]
        exact HR2.out, HO2.out⟩
      have d3 : ((r : Int) != 0) = true := by simp; omega
      have d3' : ((r : Int) == 0) = false := by simp; omega
      have d3n : ¬ (r : Int) = 0 := by omega
      clear HR HV HO HL hset hcs hb hbl hr hx ei hi hij hil hj hlt d0 hrb hr0
      go_upto_region 4 with fail
      (try rw [hW2])
      clear hW2 cx fx c0
      go_wp2_with fail
      refine bodyPost_ret (results_none rfl _ _ _) rfl ?_
      exact ⟨rfl, HE.out.1, HE.out.2⟩
end Go.Proofs.Ytlbkpmcccipfhaa

