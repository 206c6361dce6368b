/- The contracts of the reference's coder: NewCoder, add. -/
import Derived.Test.YtlbkpmcccipfhaaRefMdl2
import Derived.Test.YtlbkpmcccipfhaaCod
import Derived.Test.YtlbkpmcccipfhaaGbase
namespace Go.Proofs.Ytlbkpmcccipfhaa
open Go.RowKit
set_option linter.unusedVariables false
set_option maxRecDepth 100000

theorem bgN_set (l : List UInt8) (i : Nat) (x : UInt8) (h : i < l.length) : bgN (l.set i x) + (l.getD i 0).toNat * 256 ^ (l.length - 1 - i) = bgN l + x.toNat * 256 ^ (l.length - 1 - i) := by
  have e : (l.set i x).reverse = l.reverse.set (l.length - 1 - i) x := by
    apply List.ext_getElem (by simp)
    intro j h1 h2
    simp only [List.length_reverse, List.length_set] at h1
    rw [List.getElem_set, List.getElem_reverse, List.getElem_reverse, List.getElem_set]
    simp only [List.length_set]
    by_cases hj : l.length - 1 - i = j
    · rw [if_pos hj, if_pos (by omega)]
    · rw [if_neg hj, if_neg (by omega)]
  have hs := leN_set l.reverse (l.length - 1 - i) x (by rw [List.length_reverse]; omega)
  have hg : l.reverse.getD (l.length - 1 - i) 0 = l.getD i 0 := by
    simp only [List.getD]
    rw [List.getElem?_reverse (by omega)]
    congr 2
    omega
  rw [hg] at hs
  unfold bgN
  rw [e]
  exact hs
/-- the reference's coder: its bytes, its width -/
structure RCr (W : World) (g gl base : Nat) (l : List UInt8) (wd : Nat) : Prop where
  ne : g ≠ gl
  row : ∃ cap, W.heap[g]? = some (.cells #[.slice (some ⟨gl, 0, none⟩) l.length cap, .int .u64 (wd : Int)] 42 (0, 0)) ∧ Ob 5 W base (.slice (some ⟨gl, 0, none⟩) l.length cap) l
theorem RCr.lt {W : World} {g gl base : Nat} {l : List UInt8} {wd : Nat} (h : RCr W g gl base l wd) (hl : 0 < l.length) : g < W.heap.size ∧ gl < W.heap.size ∧ base ≤ gl := by
  obtain ⟨cap, h1, h2⟩ := h.row
  obtain ⟨A, c, e, hb, hf⟩ := h2.form
  injection e with e1 e2 e3
  subst e1
  rcases hf with hf | ⟨g', e, h3, h4⟩
  · cases hf
  · injection e with e
    injection e with e
    subst e
    exact ⟨(Array.getElem?_eq_some_iff.1 h1).1, h4, h3⟩
theorem RCr.only {W W' : World} {g gl base : Nat} {l : List UInt8} {wd : Nat} {F : Nat → Prop} (h : RCr W g gl base l wd) (ho : Only F W W') (hg : ¬ F g) (hr : ¬ F gl) : RCr W' g gl base l wd := by
  obtain ⟨cap, h1, h2⟩ := h.row
  exact ⟨h.ne, cap, by rw [ho.block g (Array.getElem?_eq_some_iff.1 h1).1 hg]; exact h1, h2.only ho (fun k hk => by
    obtain ⟨a, e, rfl⟩ := hk
    injection e with e
    subst e
    exact hr)⟩
theorem RCr.below {W W' : World} {g gl base : Nat} {l : List UInt8} {wd : Nat} (h : RCr W g gl base l wd) (hb : Below W.heap.size W W') : RCr W' g gl base l wd :=
  h.only (F := fun _ => False) (Only.of_below hb) (fun h => h) (fun h => h)
/-- a store into the bytes -/
theorem RCr.set {W : World} {g gl base : Nat} {l : List UInt8} {wd : Nat} (h : RCr W g gl base l wd) (i : Nat) (x : UInt8) : RCr (W.setCell ⟨gl, i, none⟩ (.int .u8 (x.toNat : Int))) g gl base (l.set i x) wd := by
  obtain ⟨cap, h1, h2⟩ := h.row
  refine ⟨h.ne, cap, ?_, ?_⟩
  · rw [List.length_set, Below.heap_setCell _ _ _ _ (fun e => h.ne e)]; exact h1
  · have := h2.set_ i x
    rw [List.length_set]
    exact this

set_option maxHeartbeats 1600000 in
theorem radd15_any {W : World} {g gl base : Nat} {l : List UInt8} {wd : Nat} (h : RCr W g gl base l wd) (n0 : Nat) (hn0 : n0 < 4294967296) (hfit : bgN l + n0 < 256 ^ l.length) (hlen : l.length ≤ 1000000) : Calls Try.prog 30 #[.pointer (some ⟨g, 0, none⟩), .int .u64 (n0 : Int)] W
    fun e w' => e = .returned (.tuple #[]) ∧ RCr w' g gl base (bgB l.length (bgN l + n0)) wd ∧ Only (fun j => j = gl) W w' := by
  obtain ⟨N, hN⟩ : ∃ N, bgN l + n0 = N := ⟨_, rfl⟩
  obtain ⟨L, hL⟩ : ∃ L, l.length = L := ⟨_, rfl⟩
  rw [hN, hL] at hfit
  rw [hN, hL]
  have HFIT := Lib.hid hfit
  have HI : Hid (∃ l', RCr W g gl base l' wd ∧ l'.length = L ∧ bgN l' + n0 * 256 ^ 0 = N ∧ Only (fun j => j = gl) W W) := Lib.hid ⟨l, h, hL, by rw [Nat.pow_zero, Nat.mul_one]; exact hN, Only.refl _ _⟩
  obtain ⟨cap, h1, h2⟩ := h.row
  have c0 : W.cell? ⟨g, 0, none⟩ = some (.slice (some ⟨gl, 0, none⟩) L cap) := by rw [cell_of_row _ _ _ _ _ _ h1, hL]; rfl
  have f0 : IntKind.i64.wrap ((L : Int) - 1) = (L : Int) - 1 := by rw [IntKind.wrap_i64]; omega
  rw [hL] at hlen
  have HLE := Lib.hid hlen
  clear h hN hL h1 h2 hfit hlen
  go_enter Try.func30, Try.ntmps30
  go_wp2_with fail
  clear c0 f0
  go_loopw [1, 4] (fun n_ i_ wr => ∃ (j n : Nat) (l' : List UInt8), j ≤ L ∧ n_ = .int .u64 (n : Int) ∧ i_ = .int .i64 ((L : Int) - 1 - (j : Int)) ∧ n < 4294967552 ∧ Hid (RCr wr g gl base l' wd) ∧ Hid (l'.length = L) ∧ Hid (bgN l' + n * 256 ^ j = N) ∧ Hid (Only (fun j => j = gl) W wr)) (fun _ i_ _ => (intOf i_ + 1).toNat)
  case atStart =>
    obtain ⟨l', a1, a2, a3, a4⟩ := HI.out
    exact ⟨0, n0, l', by omega, rfl, by go_num, by omega, Lib.hid a1, Lib.hid a2, Lib.hid a3, Lib.hid a4⟩
  case round =>
    clear HI
    obtain ⟨j, n, l', hj, rfl, rfl, hn, HR, HL, HV, HO⟩ := hrel
    have HEND : Hid (n * 256 ^ j = 0 → RCr wr g gl base (bgB L N) wd ∧ Only (fun j => j = gl) W wr) := Lib.hid fun e => by
      have hv := HV.out
      rw [e, Nat.add_zero] at hv
      rw [← hv, ← HL.out, bgB_bgN]
      exact ⟨HR.out, HO.out⟩
    by_cases hlt : j < L
    · have d0 : decide (0 ≤ (L : Int) - 1 - (j : Int)) = true := decide_eq_true (by omega)
      by_cases hpos : 0 < n
      · obtain ⟨cap, hrow, hob⟩ := HR.out.row
        rw [HL.out] at hrow
        have c0 : wr.cell? ⟨g, 0, none⟩ = some (.slice (some ⟨gl, 0, none⟩) L cap) := by rw [cell_of_row _ _ _ _ _ _ hrow]; rfl
        obtain ⟨i, hi⟩ : ∃ i, L - 1 - j = i := ⟨_, rfl⟩
        have ei : (L : Int) - 1 - (j : Int) = (i : Int) := by omega
        rw [ei]
        have hil : i < L := by omega
        have hij : L - 1 - i = j := by omega
        obtain ⟨bb, oo, eA, hcs⟩ := (Ob.bs hob) (by rw [HL.out]; omega)
        injection eA with eA
        injection eA with eb eo
        subst eb
        subst eo
        have cx := hcs i (by rw [HL.out]; exact hil)
        rw [Nat.zero_add] at cx
        have fx := Ob.frozen hob i
        have hset := fun x => bgN_set l' i x (by rw [HL.out]; exact hil)
        rw [HL.out, hij] at hset
        have hbl := (l'.getD i 0).toNat_lt
        obtain ⟨b, hb⟩ : ∃ b, (l'.getD i 0).toNat = b := ⟨_, rfl⟩
        rw [hb] at cx hset hbl
        obtain ⟨s, hs⟩ : ∃ s, n + b = s := ⟨_, rfl⟩
        obtain ⟨r, hr⟩ : ∃ r, s % 256 = r := ⟨_, rfl⟩
        obtain ⟨q, hq⟩ : ∃ q, s / 256 = q := ⟨_, rfl⟩
        have hx : (UInt8.ofNat r).toNat = r := by simp; omega
        have HR2 := Lib.hid (HR.out.set i (UInt8.ofNat r))
        rw [hx] at HR2
        have HV2 : Hid (bgN (l'.set i (UInt8.ofNat r)) + q * 256 ^ (j + 1) = N) := Lib.hid (by
          have h1 := hset (UInt8.ofNat r)
          rw [hx] at h1
          have h2 := HV.out
          have h3 : n * 256 ^ j + b * 256 ^ j = r * 256 ^ j + q * 256 ^ (j + 1) := by
            rw [← Nat.add_mul, hs, Nat.pow_succ, Nat.mul_comm (256 ^ j), ← Nat.mul_assoc, ← Nat.add_mul]
            congr 1
            omega
          omega)
        have HL2 : Hid ((l'.set i (UInt8.ofNat r)).length = L) := Lib.hid (by rw [List.length_set]; exact HL.out)
        have HO2 : Hid (Only (fun j => j = gl) W (wr.setCell ⟨gl, i, none⟩ (.int .u8 (r : Int)))) := Lib.hid (HO.out.setCell (p := ⟨gl, i, none⟩) (.inl rfl) _)
        have t1 : IntKind.u64.wrap (b : Int) = (b : Int) := by rw [IntKind.wrap_u64]; omega
        have t2 : IntKind.u64.wrap ((n : Int) + (b : Int)) = (s : Int) := by rw [IntKind.wrap_u64]; omega
        have t3 : (s : Int).tmod 256 = (r : Int) := by rw [Int.tmod_eq_emod_of_nonneg (by omega)]; omega
        have t3' : (s : Int) % 256 = (r : Int) := by omega
        have t4 : IntKind.u8.wrap (r : Int) = (r : Int) := by rw [IntKind.wrap_u8]; omega
        have t4' : (r : Int) % 256 = (r : Int) := by omega
        have t5 : (s : Int).tdiv 256 = (q : Int) := by rw [Int.tdiv_eq_ediv_of_nonneg (by omega)]; omega
        have t5' : (s : Int) / 256 = (q : Int) := by omega
        have t7 : IntKind.u64.wrap (q : Int) = (q : Int) := by rw [IntKind.wrap_u64]; omega
        have t6 : IntKind.i64.wrap ((i : Int) - 1) = (i : Int) - 1 := by rw [IntKind.wrap_i64]; have := HLE.out; omega
        have d1 : decide ((0 : Int) < (n : Int)) = true := decide_eq_true (by omega)
        have d1' : decide (0 < n) = true := decide_eq_true hpos
        have d0' : decide ((0 : Int) ≤ (i : Int)) = true := decide_eq_true (by omega)
        have b1 : 0 ≤ (i : Int) := by omega
        have b2 : (i : Int) < (L : Int) := by omega
        have hql : q < 4294967552 := by omega
        have HQ := Lib.hid hql
        have HJ : Hid (j + 1 ≤ L) := Lib.hid hlt
        have HEI : Hid ((i : Int) - 1 = (L : Int) - 1 - ((j + 1 : Nat) : Int)) := Lib.hid (by omega)
        have HI0 : Hid (0 ≤ i) := Lib.hid (Nat.zero_le _)
        clear HR HV HO HL HEND hset hcs hob hrow hb hbl hs hr hq hx ei hi hij hil hql hn hj hlt d0 hpos
        go_wp2_with fail
        go_roundw
        case rel => exact ⟨j + 1, q, _, HJ.out, rfl, by rw [HEI.out], HQ.out, HR2, HL2, HV2, HO2⟩
        case measure => simp [intOf] <;> omega
      · have hn0' : n = 0 := by omega
        subst hn0'
        have he := HEND.out (by rw [Nat.zero_mul])
        have HE := Lib.hid he
        clear HEND he HR HV HO HL
        go_wp2_with fail
        refine bodyPost_end (results_none rfl _ _ _) rfl ?_
        exact ⟨rfl, HE.out.1, HE.out.2⟩
    · have hjL : j = L := by omega
      have d0 : decide (0 ≤ (L : Int) - 1 - (j : Int)) = false := decide_eq_false (by omega)
      have he := HEND.out (by
        have hv := HV.out
        have hf := HFIT.out
        rw [hjL] at hv ⊢
        have : n = 0 := by
          refine Nat.eq_zero_of_not_pos fun hp => ?_
          have : 256 ^ L ≤ n * 256 ^ L := Nat.le_mul_of_pos_left _ hp
          omega
        rw [this, Nat.zero_mul])
      have HE := Lib.hid he
      clear HEND he HR HV HO HL
      go_wp2_with fail
      refine bodyPost_end (results_none rfl _ _ _) rfl ?_
      exact ⟨rfl, HE.out.1, HE.out.2⟩
end Go.Proofs.Ytlbkpmcccipfhaa

