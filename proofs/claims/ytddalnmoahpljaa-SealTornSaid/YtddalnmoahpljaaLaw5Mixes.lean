/- SealMixes walked. Written by wip/tools/mk_mixes5.py. -/
import Derived.Test.YtddalnmoahpljaaLaw5Alive
import Derived.Test.YtddalnmoahpljaaRegion3
import Derived.Test.YtddalnmoahpljaaGdfl
namespace Go.Proofs.Ytddalnmoahpljaa
open Go.RowKit
set_option linter.unusedVariables false
set_option maxRecDepth 100000

theorem mix_take (n : Nat) (l m p : List UInt8) (hl : l.length = n) (hm : n ≤ m.length) (hp : n ≤ p.length) :
    crc ((List.range n).map (xor3 l m p)) = crc l ^^^ crc (m.take n) ^^^ crc (p.take n) := by
  rw [← crc_mix n l (m.take n) (p.take n) hl (by rw [List.length_take]; omega) (by rw [List.length_take]; omega)]
  congr 1
  refine List.map_congr_left fun k hk => ?_
  have hk : k < n := List.mem_range.1 hk
  unfold xor3
  simp only [List.getD_eq_getElem?_getD, List.getElem?_take_of_lt hk]

theorem mix_step (l m p : List UInt8) (k : Nat) : (List.range (k + 1)).map (xor3 l m p) = (List.range k).map (xor3 l m p) ++ [xor3 l m p k] := by
  rw [List.range_succ, List.map_append]; rfl

theorem u8_xor' (x y : UInt8) : bits .xor .u8 (x.toNat : Int) (y.toNat : Int) = ((x ^^^ y).toNat : Int) := by
  rw [UInt8.toNat_xor]; exact u8_xor_nat _ _ x.toNat_lt y.toNat_lt

theorem sum_in (A : Option Addr) (l : List UInt8) (n c s : Nat) (w W : World) (h : Bs w A l) (hl : l.length = n) (hn : n ≤ 2147483648) (hs : crc l = s) (hW : Below w.heap.size w W) :
    Calls Try.prog 17 #[.slice A n c] W fun e w' => e = .returned (.int .u32 (s : Int)) ∧ Below W.heap.size W w' := by
  subst hl hs
  exact sum_any A l c W (h.below hW) hn

set_option maxHeartbeats 1600000 in
theorem law5Mixes (A1 A2 A3 : Option Addr) (l m p : List UInt8) (c1 c2 c3 : Nat) (w : World) (h1 : Bs w A1 l) (h2 : Bs w A2 m) (h3 : Bs w A3 p) (q2 : m.length ≤ c2) (q3 : p.length ≤ c3) :
    Calls Try.prog 8 #[.slice A1 l.length c1, .slice A2 m.length c2, .slice A3 p.length c3] w fun e w' => e = .returned (.bool true) ∧ Below w.heap.size w w' := by
  have HA := Lib.hid (alive5_any w)
  obtain ⟨n1, e1⟩ : ∃ n, l.length = n := ⟨_, rfl⟩
  obtain ⟨n2, e2⟩ : ∃ n, m.length = n := ⟨_, rfl⟩
  obtain ⟨n3, e3⟩ : ∃ n, p.length = n := ⟨_, rfl⟩
  rw [e1, e2, e3]
  rw [e2] at q2
  rw [e3] at q3
  by_cases g1 : n1 ≤ 300
  · have d1 : decide (300 < (n1 : Int)) = false := decide_eq_false (by omega)
    by_cases g2 : n1 ≤ n2
    · have d2 : decide ((n2 : Int) < (n1 : Int)) = false := decide_eq_false (by omega)
      by_cases g3 : n1 ≤ n3
      · have d3 : decide ((n3 : Int) < (n1 : Int)) = false := decide_eq_false (by omega)
        have d2' : decide (n2 < n1) = false := decide_eq_false (by omega)
        have d3' : decide (n3 < n1) = false := decide_eq_false (by omega)
        have HMIX := Lib.hid (mix_take n1 l m p e1 (by omega) (by omega))
        obtain ⟨s2, z2⟩ : ∃ s, crc l = s := ⟨_, rfl⟩
        obtain ⟨s3, z3⟩ : ∃ s, crc (m.take n1) = s := ⟨_, rfl⟩
        obtain ⟨s4, z4⟩ : ∃ s, crc (p.take n1) = s := ⟨_, rfl⟩
        have l2 : s2 < 4294967296 := by rw [← z2]; exact crc_lt _
        have l3 : s3 < 4294967296 := by rw [← z3]; exact crc_lt _
        have l4 : s4 < 4294967296 := by rw [← z4]; exact crc_lt _
        rw [z2, z3, z4] at HMIX
        have HX2 : Hid (∀ W, Below w.heap.size w W → Calls Try.prog 17 #[.slice A1 n1 c1] W fun e w' => e = .returned (.int .u32 (s2 : Int)) ∧ Below W.heap.size W w') := Lib.hid fun W hW =>
          sum_in A1 l n1 c1 s2 w W h1 e1 (by omega) z2 hW
        have HX3 : Hid (∀ W, Below w.heap.size w W → Calls Try.prog 17 #[.slice A2 n1 c2] W fun e w' => e = .returned (.int .u32 (s3 : Int)) ∧ Below W.heap.size W w') := Lib.hid fun W hW =>
          sum_in A2 (m.take n1) n1 c2 s3 w W (h2.take n1) (by rw [List.length_take]; omega) (by omega) z3 hW
        have HX4 : Hid (∀ W, Below w.heap.size w W → Calls Try.prog 17 #[.slice A3 n1 c3] W fun e w' => e = .returned (.int .u32 (s4 : Int)) ∧ Below W.heap.size W w') := Lib.hid fun W hW =>
          sum_in A3 (p.take n1) n1 c3 s4 w W (h3.take n1) (by rw [List.length_take]; omega) (by omega) z4 hW
        have hx1 : bits .xor .u32 (s2 : Int) (s3 : Int) = ((s2 ^^^ s3 : Nat) : Int) := u32_xor_nat _ _ l2 l3
        have hx2 : bits .xor .u32 ((s2 ^^^ s3 : Nat) : Int) (s4 : Int) = ((s2 ^^^ s3 ^^^ s4 : Nat) : Int) := u32_xor_nat _ _ (Nat.xor_lt_two_pow (n := 32) l2 l3) l4
        obtain ⟨s1, hs1⟩ : ∃ s, s2 ^^^ s3 ^^^ s4 = s := ⟨_, rfl⟩
        rw [hs1] at hx2 HMIX
        obtain ⟨s23, hs23⟩ : ∃ s, s2 ^^^ s3 = s := ⟨_, rfl⟩
        rw [hs23] at hx1 hx2
        have sl2 := slice_head A2 n2 c2 n1 (by omega)
        have sl3 := slice_head A3 n3 c3 n1 (by omega)
        have HL : Hid (l.length = n1 ∧ n1 ≤ m.length ∧ n1 ≤ p.length) := Lib.hid ⟨e1, by omega, by omega⟩
        have H1 := Lib.hid h1
        have H2 := Lib.hid h2
        have H3 := Lib.hid h3
        clear e1 e2 e3 z2 z3 z4 hs1 hs23 h1 h2 h3
        go_enter Try.func8, Try.ntmps8
        go_wp2_with fail
        with_reducible refine HA.out.mono ?_
        rintro e w1 ⟨rfl, hb1⟩
        have HB := Lib.hid hb1
        clear hb1
        go_wp2_with fail
        go_loopw [8, 9] (fun d i wr => ∃ k : Nat, k ≤ n1 ∧ i = .int .i64 k ∧ Hid (Ob 5 wr w.heap.size d ((List.range k).map (xor3 l m p))) ∧ Hid (Below w.heap.size w wr)) (fun _ i _ => n1 - (intOf i).toNat)
        case atStart => exact ⟨0, by omega, rfl, Lib.hid (Ob.nil_ _ _ _), HB⟩
        case round =>
          obtain ⟨k, hk, rfl, HO, HW⟩ := hrel
          by_cases hlt : k < n1
          · have hS := HW.out
            obtain ⟨Ad, cd, rfl, -, -⟩ := HO.out.form
            rw [show ((List.range k).map (xor3 l m p)).length = k by simp] at HO ⊢
            obtain ⟨b1, o1, rfl, y1⟩ := H1.out.at_ (k := k) (by have := HL.out; omega)
            obtain ⟨b2, o2, rfl, y2⟩ := H2.out.at_ (k := k) (by have := HL.out; omega)
            obtain ⟨b3, o3, rfl, y3⟩ := H3.out.at_ (k := k) (by have := HL.out; omega)
            have hst : (List.range (k + 1)).map (xor3 l m p) = (List.range k).map (xor3 l m p) ++ [l.getD k 0 ^^^ m.getD k 0 ^^^ p.getD k 0] := mix_step l m p k
            obtain ⟨x1, f1⟩ : ∃ x, l.getD k 0 = x := ⟨_, rfl⟩
            obtain ⟨x2, f2⟩ : ∃ x, m.getD k 0 = x := ⟨_, rfl⟩
            obtain ⟨x3, f3⟩ : ∃ x, p.getD k 0 = x := ⟨_, rfl⟩
            rw [f1] at y1 hst
            rw [f2] at y2 hst
            rw [f3] at y3 hst
            have hD : ((List.range k).map (xor3 l m p)).length = k := by simp
            obtain ⟨D, HD⟩ : ∃ D, Hid ((List.range k).map (xor3 l m p) = D) := ⟨_, rfl⟩
            rw [HD.out] at hst hD HO
            have HST := Lib.hid hst
            have K1 : ∀ W, Below w.heap.size w W → W.cell? ⟨b1, o1 + k, none⟩ = some (.int .u8 (x1.toNat : Int)) := fun W hW => by rw [hW.cell (World.block_lt_of_cell? _ _ y1)]; exact y1
            have K2 : ∀ W, Below w.heap.size w W → W.cell? ⟨b2, o2 + k, none⟩ = some (.int .u8 (x2.toNat : Int)) := fun W hW => by rw [hW.cell (World.block_lt_of_cell? _ _ y2)]; exact y2
            have K3 : ∀ W, Below w.heap.size w W → W.cell? ⟨b3, o3 + k, none⟩ = some (.int .u8 (x3.toNat : Int)) := fun W hW => by rw [hW.cell (World.block_lt_of_cell? _ _ y3)]; exact y3
            have u1 := u8_xor' x1 x2
            have u2 := u8_xor' (x1 ^^^ x2) x3
            obtain ⟨x12, f12⟩ : ∃ x, x1 ^^^ x2 = x := ⟨_, rfl⟩
            rw [f12] at u1 u2 HST
            obtain ⟨y, fy⟩ : ∃ x, x12 ^^^ x3 = x := ⟨_, rfl⟩
            rw [fy] at u2 HST
            have hlI : (k : Int) < (n1 : Int) := by omega
            have hlI2 : (k : Int) < (n2 : Int) := by omega
            have hlI3 : (k : Int) < (n3 : Int) := by omega
            have hlt2 : k < n2 := by omega
            have hlt3 : k < n3 := by omega
            have hn4 : Hid (k ≤ 300) := Lib.hid (by omega)
            clear hst f1 f2 f3 f12 fy y1 y2 y3
            go_wp2_with fail
            go_region_held3 (fun W => Below w.heap.size w W) (first | assumption | exact Below.drew (by assumption) | exact Below.alloc (by assumption) (Below.size (by assumption)) _) (first
              | (refine step_append_bs rfl (.tmp 39) (.tmp 54) 22 rfl w.heap.size 5 Try.underlying22 info5 (.slice Ad k cd) D rfl (HO.out.below ((Below.refl _ _).drew.alloc (Nat.le_refl _) _)) _ [y] 1 1 rfl rfl (ob_lit1 _ y) (by have := hn4.out; simp; omega) (by have := hS.size; simp; omega) ?_; intro v5 w5 ho5 hgr5; have kb5 : Below w.heap.size w w5 := ((hS.drew).alloc hS.size _).grown hgr5 (by have := hS.size; simp; omega) (fun k hk => HO.out.fresh k (own_at hk)); rw [← HST.out] at ho5))
            have HO5 := Lib.hid ho5
            have HW5 := Lib.hid kb5
            clear ho5 kb5 hgr5 HO HST hS
            go_wp2_with fail
            go_roundw
            case rel => exact ⟨k + 1, by omega, by go_num, HO5, HW5⟩
            case measure => simp [intOf]; omega
          · obtain rfl : k = n1 := by omega
            obtain ⟨Ad, cd, rfl, -, -⟩ := HO.out.form
            rw [show ((List.range k).map (xor3 l m p)).length = k by simp] at HO ⊢
            obtain ⟨D, HD⟩ : ∃ D, (List.range k).map (xor3 l m p) = D := ⟨_, rfl⟩
            have hDl : D.length = k := by rw [← HD]; simp
            rw [HD] at HO HMIX
            have hSw : Hid (w.heap.size ≤ wr.heap.size) := Lib.hid HW.out.size
            have HS1 : Hid (∀ W, Below wr.heap.size wr W → Calls Try.prog 17 #[.slice Ad k cd] W fun e w' => e = .returned (.int .u32 (s1 : Int)) ∧ Below W.heap.size W w') := Lib.hid fun W hW =>
              sum_in Ad D k cd s1 wr W HO.out.bs hDl (by omega) HMIX.out hW
            have HS2 : Hid (∀ W, Below wr.heap.size wr W → Calls Try.prog 17 #[.slice A1 k c1] W fun e w' => e = .returned (.int .u32 (s2 : Int)) ∧ Below W.heap.size W w') := Lib.hid fun W hW => HX2.out W (below_on HW.out hW)
            have HS3 : Hid (∀ W, Below wr.heap.size wr W → Calls Try.prog 17 #[.slice A2 k c2] W fun e w' => e = .returned (.int .u32 (s3 : Int)) ∧ Below W.heap.size W w') := Lib.hid fun W hW => HX3.out W (below_on HW.out hW)
            have HS4 : Hid (∀ W, Below wr.heap.size wr W → Calls Try.prog 17 #[.slice A3 k c3] W fun e w' => e = .returned (.int .u32 (s4 : Int)) ∧ Below W.heap.size W w') := Lib.hid fun W hW => HX4.out W (below_on HW.out hW)
            clear HX2 HX3 HX4 HMIX HO HD hDl
            go_upto_region 9 with fail
            refine wp_region_noPanic ?_
            refine wp_region_held_drew (S := fun W => Below wr.heap.size wr W) (by kernel_rfl) (by exact (Below.refl _ _).drew) (fun hS => ?_)
            refine' take_at 0 rfl (by kernel_rfl) (by kernel_rfl) (by kernel_rfl) (fun _ _ _ h => h) (by rfl) hS ?_ ?_ ?_
            rotate_left 2
            · intro W hSW; go_simp; try with_reducible rfl
            · simp only [List.set_cons_succ, List.set_cons_zero]; rfl
            refine' take_at 2 rfl (by kernel_rfl) (by kernel_rfl) (by kernel_rfl) (fun _ _ _ h => h) (by rfl) hS ?_ ?_ ?_
            rotate_left 2
            · intro W hSW; go_simp; try with_reducible rfl
            · simp only [List.set_cons_succ, List.set_cons_zero]; rfl
            refine' take_at 4 rfl (by kernel_rfl) (by kernel_rfl) (by kernel_rfl) (fun _ _ _ h => h) (by rfl) hS ?_ ?_ ?_
            rotate_left 2
            · intro W hSW; go_simp; try with_reducible rfl
            · simp only [List.set_cons_succ, List.set_cons_zero]; rfl
            refine' take_at 5 rfl (by kernel_rfl) (by kernel_rfl) (by kernel_rfl) (fun _ _ _ h => h) (by rfl) hS ?_ ?_ ?_
            rotate_left 2
            · intro W hSW; go_simp; try with_reducible rfl
            · simp only [List.set_cons_succ, List.set_cons_zero]; rfl
            refine' take_at 6 rfl (by kernel_rfl) (by kernel_rfl) (by kernel_rfl) (fun _ _ _ h => h) (by rfl) hS ?_ ?_ ?_
            rotate_left 2
            · intro W hSW; go_simp; try with_reducible rfl
            · simp only [List.set_cons_succ, List.set_cons_zero]; rfl
            refine' take_at 7 rfl (by kernel_rfl) (by kernel_rfl) (by kernel_rfl) (fun _ _ _ h => h) (by rfl) hS ?_ ?_ ?_
            rotate_left 2
            · intro W hSW; go_simp; try with_reducible rfl
            · simp only [List.set_cons_succ, List.set_cons_zero]; rfl
            refine' take_at 10 rfl (by kernel_rfl) (by kernel_rfl) (by kernel_rfl) (fun _ _ _ h => h) (by rfl) hS ?_ ?_ ?_
            rotate_left 2
            · intro W hSW; go_simp; try with_reducible rfl
            · simp only [List.set_cons_succ, List.set_cons_zero]; rfl
            refine' take_at 11 rfl (by kernel_rfl) (by kernel_rfl) (by kernel_rfl) (fun _ _ _ h => h) (by rfl) hS ?_ ?_ ?_
            rotate_left 2
            · intro W hSW; go_simp; try with_reducible rfl
            · simp only [List.set_cons_succ, List.set_cons_zero]; rfl
            refine' take_at 12 rfl (by kernel_rfl) (by kernel_rfl) (by kernel_rfl) (fun _ _ _ h => h) (by rfl) hS ?_ ?_ ?_
            rotate_left 2
            · intro W hSW; go_simp; try with_reducible rfl
            · simp only [List.set_cons_succ, List.set_cons_zero]; rfl
            refine' take_at 13 rfl (by kernel_rfl) (by kernel_rfl) (by kernel_rfl) (fun _ _ _ h => h) (by rfl) hS ?_ ?_ ?_
            rotate_left 2
            · intro W hSW; go_simp; try with_reducible rfl
            · simp only [List.set_cons_succ, List.set_cons_zero]; rfl
            refine call_at 1 rfl (by kernel_rfl) (by rfl) (fun K hK => ?_)
            go_simp
            with_reducible refine (HS1.out _ hS).mono ?_
            rintro e v1 ⟨rfl, hb1⟩
            have kb1 := below_on hS hb1
            clear hS hb1
            refine hK.out _ _ (by exact kb1) (fun hS => ?_)
            clear hK K
            refine call_at 3 rfl (by kernel_rfl) (by rfl) (fun K hK => ?_)
            go_simp
            with_reducible refine (HS2.out _ hS).mono ?_
            rintro e v2 ⟨rfl, hb2⟩
            have kb2 := below_on hS hb2
            clear hS hb2
            refine hK.out _ _ (by exact kb2) (fun hS => ?_)
            clear hK K
            refine call_at 8 rfl (by kernel_rfl) (by rfl) (fun K hK => ?_)
            go_simp
            with_reducible refine (HS3.out _ hS).mono ?_
            rintro e v3 ⟨rfl, hb3⟩
            have kb3 := below_on hS hb3
            clear hS hb3
            refine hK.out _ _ (by exact kb3) (fun hS => ?_)
            clear hK K
            refine' take_at 9 rfl (by kernel_rfl) (by kernel_rfl) (by kernel_rfl) (fun _ _ _ h => h) (by rfl) hS ?_ ?_ ?_
            rotate_left 2
            · intro W hSW; go_simp; try with_reducible rfl
            · simp only [List.set_cons_succ, List.set_cons_zero]; rfl
            refine call_at 14 rfl (by kernel_rfl) (by rfl) (fun K hK => ?_)
            go_simp
            with_reducible refine (HS4.out _ hS).mono ?_
            rintro e v4 ⟨rfl, hb4⟩
            have kb4 := below_on hS hb4
            clear hS hb4
            refine hK.out _ _ (by exact kb4) (fun hS => ?_)
            clear hK K
            refine' take_at 15 rfl (by kernel_rfl) (by kernel_rfl) (by kernel_rfl) (fun _ _ _ h => h) (by rfl) hS ?_ ?_ ?_
            rotate_left 2
            · intro W hSW; go_simp; try with_reducible rfl
            · simp only [List.set_cons_succ, List.set_cons_zero]; rfl
            refine' take_at 16 rfl (by kernel_rfl) (by kernel_rfl) (by kernel_rfl) (fun _ _ _ h => h) (by rfl) hS ?_ ?_ ?_
            rotate_left 2
            · intro W hSW; go_simp; try with_reducible rfl
            · simp only [List.set_cons_succ, List.set_cons_zero]; rfl
            refine' take_at 17 rfl (by kernel_rfl) (by kernel_rfl) (by kernel_rfl) (fun _ _ _ h => h) (by rfl) hS ?_ ?_ ?_
            rotate_left 2
            · intro W hSW; go_simp; try with_reducible rfl
            · simp only [List.set_cons_succ, List.set_cons_zero]; rfl
            refine wpAnyH_done (by kernel_rfl) ?_ _
            refine NoPanic.normal ?_
            have HE := Lib.hid (below_on HW.out hS)
            go_wp2_with fail
            go_ret
            exact ⟨rfl, HE.out⟩
      · have d3 : decide ((n3 : Int) < (n1 : Int)) = true := decide_eq_true (by omega)
        clear e1 e2 e3 h1 h2 h3
        go_enter Try.func8, Try.ntmps8
        go_wp2_with fail
        with_reducible refine HA.out.mono ?_
        rintro e w1 ⟨rfl, hb1⟩
        go_wp2_with fail
        go_ret
        exact ⟨rfl, hb1⟩
    · have d2 : decide ((n2 : Int) < (n1 : Int)) = true := decide_eq_true (by omega)
      clear e1 e2 e3 h1 h2 h3
      go_enter Try.func8, Try.ntmps8
      go_wp2_with fail
      with_reducible refine HA.out.mono ?_
      rintro e w1 ⟨rfl, hb1⟩
      go_wp2_with fail
      go_ret
      exact ⟨rfl, hb1⟩
  · have d1 : decide (300 < (n1 : Int)) = true := decide_eq_true (by omega)
    clear e1 e2 e3 h1 h2 h3
    go_enter Try.func8, Try.ntmps8
    go_wp2_with fail
    with_reducible refine HA.out.mono ?_
    rintro e w1 ⟨rfl, hb1⟩
    go_wp2_with fail
    go_ret
    exact ⟨rfl, hb1⟩
end Go.Proofs.Ytddalnmoahpljaa

